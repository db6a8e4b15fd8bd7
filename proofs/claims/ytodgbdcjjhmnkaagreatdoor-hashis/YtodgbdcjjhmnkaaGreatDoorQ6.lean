/-
 The walks of package swu: the map to the second curve.
 The walks of package swu: fractions, Iso, Map.
-/
import Derived.Test.YtodgbdcjjhmnkaaGreatDoorQ5
import Derived.Test.YtodgbdcjjhmnkaaGreatDoorX3
import Derived.Test.YtodgbdcjjhmnkaaGreatDoorXW
set_option maxRecDepth 100000
set_option maxHeartbeats 1000000
namespace Go.Proofs.YtodgbdcjjhmnkaaGreatDoor
open Go.Proofs.Tryz
section
open Go.RowKit
attribute [local simp] bp bQ aI aB bj bc aX aW bv PLl eK eI N1l eP eU eW bJ bV bY bX cH eT cb cw
theorem ent182:am Tryz.prog 182:=fun _ _=>by kernel_rfl
theorem jg(s0:ByteArray)(xs:List (BitVec 8))(h0:s0.data.toList=xs.map (fun x=>UInt8.ofBitVec x)):Pure Tryz.prog Gt 166 [.string s0] (EV (FV xs)):=by
 intro w hw
 refine Hf func166 rfl hw<|fun hGF=>ae (E:=EE [1000022])<|Al 2 hGF zv27<|fun b2=>aa<|ae (E:=EE [1000022])<|Mv rfl<|?_
 refine x9 7 (xs:=xs) rfl hGF rfl underlying9 underlying22 underlying5 h0 rfl rfl (fun b7 c7 k7 e7 l7 t7=> ?_)
 refine Cc rfl ent87 (fun w' hC hG=>lr _ _ xs w' hG (kL (aU (n:=7) rfl w' hC) t7))<|Mv rfl<|Ext rfl rfl<|Ext rfl rfl<|Al 3 hGF zv27<|fun b3=>Sa 3 hGF rfl rfl rfl bU<|Asg rfl<|aa<|ae (E:=EE [1000022])<|La 3 rfl rfl bU<|Sa 2 hGF rfl rfl rfl bU<|aa<|aq<|Rr<|?_
 exact aw 2 rfl rfl rfl isAgg27 sizeOf27 (by simp) (fun w hw=>⟨rfl,ac hw⟩)
def R24(f g:Nat→W2)(i:Nat):List (BitVec 64):=(fe (f i).1++fe (f i).2)++(fe (g i).1++fe (g i).2)
theorem f7(f g:Nat→W2)(i:Nat):(R24 f g i).length=24:=by simp[R24]
attribute [local simp] f7
def z4:Nat→W2:=fun _=>ze2
abbrev Jt(f g:Nat→W2):Value:=.agg ((RW 24 (R24 f g) 4).map U64).toArray
theorem zv186(w:World):(zeroValue 186).run Tryz.prog w=.ok (.agg (((fe 0++fe 0)++(fe 0++fe 0)).map U64).toArray) w:=by rw[ij];exact (zeroValue186 w).trans (by rfl)
theorem iJ:Two Tryz.prog 186 ⟨ "over",29,0,false, "", "pharos/swu",0⟩ ⟨ "under",29,12,false, "", "pharos/swu",96⟩ 12 12 (fe 0++fe 0) (fe 0++fe 0):=⟨underlying186,rfl,rfl,sizeOf29,sizeOf29,zv186,by simp,by simp⟩
theorem G7:RW 24 (R24 z4 z4) 4=List.replicate 96 0#64:=by
 have e: ∀i,R24 z4 z4 i=List.replicate 24 0#64:=fun i=>by
  show (fe 0++fe 0)++(fe 0++fe 0)=List.replicate 24 0#64
  rw[ij];rfl
 simp only[RW,e]
 rfl
theorem zv187(w:World):(zeroValue 187).run Tryz.prog w=.ok (Jt z4 z4) w:=by
 show _=Result.ok (Value.agg ((RW 24 (R24 z4 z4) 4).map U64).toArray) w
 rw[G7];exact (zeroValue187 w).trans (by rfl)
theorem vV(f z:Nat→List (BitVec 64)): ∀i,i<4→wU f [0,1,2,3] z i=f i:=fun i hi=>pX _ _ _ _ (.inl (by
 match i,hi with
 |0,_=>decide
 |1,_=>decide
 |2,_=>decide
 |3,_=>decide))
theorem mC(f g:Nat→W2)(w:World)(hw:Gt w):Calls Tryz.prog 165 [Jt f g].toArray w (fun e w'=> ∃b1,e=.returned (.func (.func 182) #[] #[.pointer (some ⟨b1,0,none⟩)])∧Grow w w'∧w.heap.size≤b1∧OwnB w' b1 ((RW 24 (R24 f g) 4).map U64) 187):=by
 refine Hf func165 rfl hw<|fun hGF=>Xp<|Bx 1 hGF rfl<|fun b1=>Asg rfl<|aa<|Xp<|iY rfl rfl rfl rfl<|Asg rfl<|aa<|aq<|Rr<|?_
 exact aQ rfl rfl (fun w hw=>⟨b1,rfl,ac hw,(hw.own 1 b1 _ _ rfl).2.elim id False.elim,(hw.own 1 b1 _ _ rfl).1⟩)
def PS4(f g:Nat→W2):List (List Value):=(List.range 4).map fun (k:Nat)=>[EV2 (f k),EV2 (g k)]
theorem qg(f g:Nat→W2):(PS4 f g).length=4:=by rw[PS4,List.length_map,List.length_range]
theorem vE(f g:Nat→W2)(k:Nat)(h:k<4):(PS4 f g)[k]? =some [EV2 (f k),EV2 (g k)]:=by
 rw[PS4,List.getElem?_map,List.getElem?_range h];rfl
theorem Ju(f g:Nat→W2)(k:Nat)(v:List Value)(h:(PS4 f g)[k]? =some v):k<4∧v=[EV2 (f k),EV2 (g k)]:=by
 have hk:k<4:=by
  rcases Nat.lt_or_ge k 4 with hk|hk
  ·exact hk
  ·rw[List.getElem?_eq_none (by rw[qg];exact hk)]at h;cases h
 exact ⟨hk,(Option.some.inj ((vE f g k hk).symm.trans h)).symm⟩
def G6(bb:Nat)(f g:Nat→W2):Cls:=fun w=>w.rangeAt bb 0 ((RW 24 (R24 f g) 4).map U64)
theorem Bg(bb:Nat)(f g:Nat→W2):iI Tryz.prog Gt 182 [.pointer (some ⟨bb,0,none⟩)] (PS4 f g) (G6 bb f g):=by
 intro l J Jx hJ hJx hRd hGx hY w hj
 have okJ: ∀k,BOk Gt (Bi w (fun Y=>J Y k)):=fun k=>⟨fun _ _ _ h=>(hRd _ _ _ h.rid).1,hJ k⟩
 have okX: ∀k,BOk Gt (Bi w (fun Y=>Jx Y k)):=fun k=>⟨fun _ _ _ h=>hGx _ _ _ h.rid,hJx k⟩
 have c1: ∀k L w',Hp (Bi w (fun Y=>J Y k)) L w'→G6 bb f g w':=fun k L w' h=>(hRd _ _ _ h.rid).2
 refine cN (G:=Gt) func182 rfl rfl (Hp (Bi w (fun Y=>J Y 0)) []) (cP (Bi w _) hj (hJ 0)) (az (okJ 0))<|Xp<|dB rfl isAgg187 sizeOf187 (by simp) (fun w h=>c1 _ _ w h) rfl rfl<|Mv rfl<|aa<|ai<|jk (ι:={i:Nat // i≤4}) (fun y=>[(0,.func (.yield l) #[] #[]),(1,.pointer (some ⟨bb,0,none⟩)),(5,Jt f g),(6,I (y.1:Int))]) (fun y=>Bi w (fun Y=>J Y y.1)) (fun y=>[]) (fun y=>4-y.1) ⟨0,Nat.zero_le _⟩ (fun _=>okJ _) rfl ⟨rfl,rfl,rfl,rfl,trivial⟩ trivial<|?_
 rintro ⟨i,hi⟩
 dsimp only
 refine Xp<|Bnr rfl rfl (fun _=>av _ _ _)<|aa<|ah<|?_
 refine ba rfl (fun hc=> ?_) (fun hc=> ?_)
 ·have hi2:i<4:=by simp at hc;omega
  refine au<|ah<|ai<|Xp<|DR (s:=24) (R24 f g) i rfl rfl underlying187 sizeOf186 isAgg186 rfl (by omega) (f7 _ _ _) rfl rfl<|Al 4 (okJ _) zv186<|fun b4=>Sa 4 (okJ _) rfl rfl rfl Nz<|aa<|Xp<|Mv rfl<|Fa 0 rfl underlying186 rfl sizeOf29<|db 4 _ rfl rfl isAgg29 sizeOf29 (by simp) AN rfl rfl<|Fa 12 rfl underlying186 rfl sizeOf29<|db 4 _ rfl rfl isAgg29 sizeOf29 (by simp) (zB (by simp)) rfl rfl<|?_
  refine eB (hY.b (k:=i) (vE f g i (by omega)) w) (okJ _) (okX _) rfl rfl rfl rfl rfl ?_ ?_
  ·refine bT rfl (fun _=>bI _) rfl rfl<|aa<|aV rfl<|au<|Xq<|Bnr rfl rfl (fun _=>ap _ _ _ (by unfold inI;omega))<|Mv rfl<|aa<|?_
   repeat (refine aJ ?_)
   exact aA<|⟨rfl,⟨i+1,by omega⟩,_,by show 4-(i+1)<4-i;omega,rfl,⟨rfl,rfl,rfl,rfl,trivial⟩,trivial⟩
  ·refine bT rfl (fun _=>bI _) rfl rfl<|aa<|bf rfl<|aq<|Rr<|?_
   repeat (first|refine eV ?_|refine dw ?_|refine fP rfl ?_|refine ck ?_|refine cn ?_)
   exact fK rfl (fun w hw=>⟨⟨_,rfl⟩,.inr ⟨_,cf (hJx _) hw.rid⟩⟩)
 ·obtain rfl:i=4:=by simp at hc;omega
  refine aM ?_
  repeat (first|refine eV ?_|refine dw ?_|refine fP rfl ?_|refine ck ?_|refine cn ?_)
  refine cT rfl (fun w hw=>⟨⟨_,rfl⟩,.inl ?_⟩)
  have:=cf (hJ _) hw.rid
  rw[qg]
  exact this
end
section
open Go.RowKit
attribute [local simp] bp bQ aI aB bj bc aX aW bv PLl eK eI N1l eP eU eW bJ bV bY bX cH eT cb cw f7
theorem jv{w w':World}{b o:Nat}{cs:List Value}(hg:Grow w w')(h:w.rangeAt b o cs):w'.rangeAt b o cs:=fun j v hj=>(hg.cell (block_lt_of_cell (h j v hj))).trans (h j v hj)
theorem m8(x:W2)(f g:Nat→W2)(bb:Nat)(w:World)(hw:Gt w)(hRs: ∀w',Grow w w'→G6 bb f g w'):
 Calls Tryz.prog 137 [EV2 x,.func (.func 182) #[] #[.pointer (some ⟨bb,0,none⟩)]].toArray w (fun r w'=>r=.returned (.tuple #[EV2 (HK f x 4),EV2 (HK g x 4)])∧Grow w w'):=by
 have hGF:BOk Gt (pl w):=gt_low.plain hw
 refine el (G:=Gt) func137 rfl rfl (Hp (pl w) []) (cP (pl w) trivial ao) (az hGF)<|Xp<|Bx 2 hGF rfl<|fun b2=>Al 4 hGF zv29<|fun b4=>Al 5 hGF zv29<|fun b5=>aa<|ah<|Xp<|Mv rfl<|aa<|ai<|?_
 refine iS (fun _=>pl w) (fun _ _=>pl w) (fun _=>hGF) (fun _ _=>hGF) (fun _=>rfl) (fun _ _=>rfl) rfl rfl ent182 (Bg bb f g) (fun x hx=>by obtain ⟨k,hk,rfl⟩:=List.mem_map.1 hx;rfl) rfl (fun k=>[(2,b2,(fe (x).1++fe (x).2).map U64,29),(4,b4,(fe (HK f x k).1++fe (HK f x k).2).map U64,29),(5,b5,(fe (HK g x k).1++fe (HK g x k).2).map U64,29)]) (fun _ _ _=>False) ⟨rfl,rfl,rfl,trivial⟩ (fun k _ w' h=>hRs w' (h.below (fun _ h=>h))) ?_ ?_ (fun _ _ _ _ _ h=>h.elim)
 ·intro k v hx R hR
  obtain ⟨hk,rfl⟩:=Ju f g k v hx
  refine Xp<|eM 6 (hR (pl w) rfl hGF).1 zv29 rfl rfl<|fun b6=>aF 6 (hR (pl w) rfl hGF).1 rfl rfl rfl sizeOf29 (by simp) (by simp) (bq _) rfl<|aa<|Xq<|eM 7 (hR (pl w) rfl hGF).1 zv29 rfl rfl<|fun b7=>aF 7 (hR (pl w) rfl hGF).1 rfl rfl rfl sizeOf29 (by simp) (by simp) (bq _) rfl<|aa<|?_
  refine ⟨rfl,_,rfl, ?_⟩
  refine ai<|Xe []<|La 4 rfl rfl a9<|La 2 rfl rfl a9<|Ca rfl (gt _ _)<|La 6 rfl rfl a9<|Ca rfl (wl _ _)<|La 5 rfl rfl a9<|La 2 rfl rfl a9<|Ca rfl (gt _ _)<|La 7 rfl rfl a9<|Ca rfl (wl _ _)<|aF 4 (hR (pl w) rfl hGF).2.1 rfl rfl rfl sizeOf29 (by simp) (by simp) (bq _) rfl<|aF 5 (hR (pl w) rfl hGF).2.1 rfl rfl rfl sizeOf29 (by simp) (by simp) (bq _) rfl<|aa<|?_
  repeat (refine aJ ?_)
  exact ⟨_,rfl,⟨rfl,rfl,rfl,trivial⟩⟩
 ·intro D hD
  rw[qg]
  refine iG (E:=EE []) (fun X=>X=Hp (B2 (pl w) D) [(5,b5,(fe (HK g x 4).1++fe (HK g x 4).2).map U64,29)]) (mkB [4]) (rkB [22]) [0,1,2,3] eH rfl (by kernel_rfl) (by kernel_rfl) (by kernel_rfl)<|qU rfl rfl<|La 4 rfl rfl a9<|aa<|mR (X:=Hp (B2 (pl w) D) [(5,b5,(fe (HK g x 4).1++fe (HK g x 4).2).map U64,29)]) rfl (dv hD.r ⟨rfl,trivial⟩) (fun _=>rfl)<|La 5 rfl rfl a9<|aa<|iM rfl<|Sa 4 hD rfl rfl rfl a9<|aa<|?_
  refine ⟨fun _ X hX _=>by subst hX;exact dv hD.r ⟨rfl,trivial⟩, ?_⟩
  refine iM rfl<|Sa 5 hD rfl rfl rfl a9<|aa<|?_
  refine ⟨fun h=>(by cases h), ?_⟩
  refine iV<|aq<|Rr<|?_
  exact i4 (.inl rfl) ao (g6 4 5 rfl rfl rfl rfl rfl isAgg29 sizeOf29 (by simp) (by simp) (fun w hw=>⟨rfl,ac hw⟩))
def oX(k:Nat):W2:=cXN (3-k)
def oY(k:Nat):W2:=cYN (3-k)
def uX:Nat→W2
 |0=>ze2
 |1=>on2
 |2=>(zp 12,-zp 12)
 |_=>(0,-zp 72)
def uY:Nat→W2
 |0=>on2
 |1=>(zp 18,-zp 18)
 |2=>(0,-zp 216)
 |_=>(-zp 432,-zp 432)
theorem oX_h(x:W2):HK oX x 4=R2.pev iXN x:=wT oX x
theorem oY_h(x:W2):HK oY x 4=R2.pev iYN x:=wT oY x
theorem uX_h(x:W2):HK uX x 4=R2.pev iXD x:=(HK_z uX x rfl).trans (by rw[show [uX 3,uX 2,uX 1]=iXD by decide+kernel])
theorem uY_h(x:W2):HK uY x 4=R2.pev iYD x:=(wT uY x).trans (by rw[show [uY 3,uY 2,uY 1,uY 0]=iYD by decide+kernel])
def pb0:List (BitVec 8):=[23#8,29#8,101#8,65#8,250#8,56#8,204#8,250#8,237#8,109#8,234#8,105#8,31#8,95#8,182#8,20#8,203#8,20#8,180#8,231#8,244#8,232#8,16#8,170#8,34#8,214#8,16#8,143#8,20#8,43#8,133#8,117#8,112#8,152#8,227#8,141#8,15#8,103#8,28#8,113#8,136#8,226#8,170#8,170#8,170#8,170#8,94#8,209#8]
theorem ML:FV pb0=zp 0x171d6541fa38ccfaed6dea691f5fb614cb14b4e7f4e810aa22d6108f142b85757098e38d0f671c7188e2aaaaaaaa5ed1:=by rw[FV,if_pos ⟨rfl,by decide+kernel⟩];decide+kernel
theorem Ny(s0:ByteArray)(h0:s0.data.toList=pb0.map (fun x=>UInt8.ofBitVec x)){a:Zp}(ha:zp 0x171d6541fa38ccfaed6dea691f5fb614cb14b4e7f4e810aa22d6108f142b85757098e38d0f671c7188e2aaaaaaaa5ed1=a):Pure Tryz.prog Gt 166 [.string s0] (EV a):=by
 have h:=jg s0 pb0 h0
 rw[ML,ha]at h
 exact h
def pb1:List (BitVec 8):=[17#8,86#8,11#8,241#8,123#8,170#8,153#8,188#8,50#8,18#8,111#8,206#8,215#8,135#8,200#8,143#8,152#8,79#8,135#8,173#8,247#8,174#8,12#8,127#8,154#8,32#8,140#8,107#8,79#8,32#8,164#8,24#8,20#8,114#8,170#8,169#8,203#8,141#8,85#8,85#8,38#8,169#8,255#8,255#8,255#8,255#8,199#8,30#8]
theorem M3:FV pb1=zp 0x11560bf17baa99bc32126fced787c88f984f87adf7ae0c7f9a208c6b4f20a4181472aaa9cb8d555526a9ffffffffc71e:=by rw[FV,if_pos ⟨rfl,by decide+kernel⟩];decide+kernel
theorem Mg(s0:ByteArray)(h0:s0.data.toList=pb1.map (fun x=>UInt8.ofBitVec x)){a:Zp}(ha:zp 0x11560bf17baa99bc32126fced787c88f984f87adf7ae0c7f9a208c6b4f20a4181472aaa9cb8d555526a9ffffffffc71e=a):Pure Tryz.prog Gt 166 [.string s0] (EV a):=by
 have h:=jg s0 pb1 h0
 rw[M3,ha]at h
 exact h
def pb2:List (BitVec 8):=[8#8,171#8,5#8,248#8,189#8,213#8,76#8,222#8,25#8,9#8,55#8,231#8,107#8,195#8,228#8,71#8,204#8,39#8,195#8,214#8,251#8,215#8,6#8,63#8,205#8,16#8,70#8,53#8,167#8,144#8,82#8,12#8,10#8,57#8,85#8,84#8,229#8,198#8,170#8,170#8,147#8,84#8,255#8,255#8,255#8,255#8,227#8,141#8]
theorem M9:FV pb2=zp 0x8ab05f8bdd54cde190937e76bc3e447cc27c3d6fbd7063fcd104635a790520c0a395554e5c6aaaa9354ffffffffe38d:=by rw[FV,if_pos ⟨rfl,by decide+kernel⟩];decide+kernel
theorem M7(s0:ByteArray)(h0:s0.data.toList=pb2.map (fun x=>UInt8.ofBitVec x)){a:Zp}(ha:zp 0x8ab05f8bdd54cde190937e76bc3e447cc27c3d6fbd7063fcd104635a790520c0a395554e5c6aaaa9354ffffffffe38d=a):Pure Tryz.prog Gt 166 [.string s0] (EV a):=by
 have h:=jg s0 pb2 h0
 rw[M9,ha]at h
 exact h
def pb3:List (BitVec 8):=[17#8,86#8,11#8,241#8,123#8,170#8,153#8,188#8,50#8,18#8,111#8,206#8,215#8,135#8,200#8,143#8,152#8,79#8,135#8,173#8,247#8,174#8,12#8,127#8,154#8,32#8,140#8,107#8,79#8,32#8,164#8,24#8,20#8,114#8,170#8,169#8,203#8,141#8,85#8,85#8,38#8,169#8,255#8,255#8,255#8,255#8,199#8,26#8]
theorem NQ:FV pb3=zp 0x11560bf17baa99bc32126fced787c88f984f87adf7ae0c7f9a208c6b4f20a4181472aaa9cb8d555526a9ffffffffc71a:=by rw[FV,if_pos ⟨rfl,by decide+kernel⟩];decide+kernel
theorem LN(s0:ByteArray)(h0:s0.data.toList=pb3.map (fun x=>UInt8.ofBitVec x)){a:Zp}(ha:zp 0x11560bf17baa99bc32126fced787c88f984f87adf7ae0c7f9a208c6b4f20a4181472aaa9cb8d555526a9ffffffffc71a=a):Pure Tryz.prog Gt 166 [.string s0] (EV a):=by
 have h:=jg s0 pb3 h0
 rw[NQ,ha]at h
 exact h
def pb4:List (BitVec 8):=[5#8,199#8,89#8,80#8,126#8,142#8,51#8,62#8,187#8,91#8,122#8,154#8,71#8,215#8,237#8,133#8,50#8,197#8,45#8,57#8,253#8,58#8,4#8,42#8,136#8,181#8,132#8,35#8,197#8,10#8,225#8,93#8,92#8,38#8,56#8,227#8,67#8,217#8,199#8,28#8,98#8,56#8,170#8,170#8,170#8,170#8,151#8,214#8]
theorem Nl:FV pb4=zp 0x5c759507e8e333ebb5b7a9a47d7ed8532c52d39fd3a042a88b58423c50ae15d5c2638e343d9c71c6238aaaaaaaa97d6:=by rw[FV,if_pos ⟨rfl,by decide+kernel⟩];decide+kernel
theorem Gk(s0:ByteArray)(h0:s0.data.toList=pb4.map (fun x=>UInt8.ofBitVec x)){a:Zp}(ha:zp 0x5c759507e8e333ebb5b7a9a47d7ed8532c52d39fd3a042a88b58423c50ae15d5c2638e343d9c71c6238aaaaaaaa97d6=a):Pure Tryz.prog Gt 166 [.string s0] (EV a):=by
 have h:=jg s0 pb4 h0
 rw[Nl,ha]at h
 exact h
theorem gC(w:World)(hw:Gt w):Calls Tryz.prog 138 [].toArray w (fun e w'=> ∃b1,e=.returned (.func (.func 182) #[] #[.pointer (some ⟨b1,0,none⟩)])∧Grow w w'∧w.heap.size≤b1∧OwnB w' b1 ((RW 24 (R24 oX uX) 4).map U64) 187):=by
 refine Hf func138 rfl hw<|fun hGF=>ae (E:=EE [165,2000165])<|Asg rfl<|aa<|ae (E:=EE [165,2000165])<|Ca rfl (Ny _ rfl rfl)<|ux eF rfl (by simp) rfl rfl<|Ds eF rfl rfl<|cq iJ rfl rfl (by simp) (by simp) rfl rfl<|Ca rfl (Mg _ rfl rfl)<|Ca rfl (M7 _ rfl rfl)<|cq eF rfl rfl (by simp) (by simp) rfl rfl<|Ca rfl (yY)<|cq iJ rfl rfl (by simp) (by simp) rfl rfl<|Ca rfl (LN _ rfl rfl)<|kp eF rfl (by simp) rfl rfl<|Ca rfl (dk _)<|Ca rfl (dk _)<|Ca rfl (dK _)<|cq eF rfl rfl (by simp) (by simp) rfl rfl<|cq iJ rfl rfl (by simp) (by simp) rfl rfl<|Ca rfl (Gk _ rfl rfl)<|Ca rfl (Gk _ rfl rfl)<|cq eF rfl rfl (by simp) (by simp) rfl rfl<|Ca rfl (dk _)<|Ca rfl (dK _)<|kp eF rfl (by simp) rfl rfl<|cq iJ rfl rfl (by simp) (by simp) rfl rfl<|qM (s:=24) (R24 oX uX) (R24 oX uX) [0,1,2,3] rfl rfl rfl (fun i _=>f7 _ _ _) underlying187 sizeOf186 zv187 (vV _ _) rfl rfl<|?_
 refine bx rfl rfl ent165 rfl rfl (fun w' hw'=>(mC oX uX w' (hGF.g _ _ _ hw')).mono fun e' w'' h=> ?_)
 obtain ⟨c1,rfl,hg,h1,ho⟩:=h
 refine ⟨_,_,rfl,az hGF,hw'.news ao hg [(33,c1,(RW 24 (R24 oX uX) 4).map U64,187)] ?_ bH,bB ao rfl, ?_⟩
 ·intro n' b' c' t' hl
  rcases aH hl with ⟨_,e⟩|⟨_,hl⟩
  ·cases e;exact ⟨h1,ho⟩
  ·cases hl
 clear hw' hg h1 ho
 refine Asg rfl<|aa<|aq<|Rr<|?_
 exact aQ rfl rfl (fun w hw=>⟨c1,rfl,ac hw,(hw.own 33 c1 _ _ rfl).2.elim id False.elim,(hw.own 33 c1 _ _ rfl).1⟩)
def pb5:List (BitVec 8):=[18#8,76#8,154#8,212#8,59#8,108#8,247#8,155#8,251#8,247#8,4#8,61#8,227#8,129#8,26#8,208#8,118#8,27#8,15#8,55#8,161#8,226#8,98#8,134#8,176#8,233#8,119#8,198#8,154#8,162#8,116#8,82#8,78#8,121#8,9#8,122#8,86#8,220#8,75#8,217#8,225#8,179#8,113#8,199#8,28#8,113#8,139#8,16#8]
theorem Nk:FV pb5=zp 0x124c9ad43b6cf79bfbf7043de3811ad0761b0f37a1e26286b0e977c69aa274524e79097a56dc4bd9e1b371c71c718b10:=by rw[FV,if_pos ⟨rfl,by decide+kernel⟩];decide+kernel
theorem KY(s0:ByteArray)(h0:s0.data.toList=pb5.map (fun x=>UInt8.ofBitVec x)){a:Zp}(ha:zp 0x124c9ad43b6cf79bfbf7043de3811ad0761b0f37a1e26286b0e977c69aa274524e79097a56dc4bd9e1b371c71c718b10=a):Pure Tryz.prog Gt 166 [.string s0] (EV a):=by
 have h:=jg s0 pb5 h0
 rw[Nk,ha]at h
 exact h
def pb6:List (BitVec 8):=[17#8,86#8,11#8,241#8,123#8,170#8,153#8,188#8,50#8,18#8,111#8,206#8,215#8,135#8,200#8,143#8,152#8,79#8,135#8,173#8,247#8,174#8,12#8,127#8,154#8,32#8,140#8,107#8,79#8,32#8,164#8,24#8,20#8,114#8,170#8,169#8,203#8,141#8,85#8,85#8,38#8,169#8,255#8,255#8,255#8,255#8,199#8,28#8]
theorem MX:FV pb6=zp 0x11560bf17baa99bc32126fced787c88f984f87adf7ae0c7f9a208c6b4f20a4181472aaa9cb8d555526a9ffffffffc71c:=by rw[FV,if_pos ⟨rfl,by decide+kernel⟩];decide+kernel
theorem Od(s0:ByteArray)(h0:s0.data.toList=pb6.map (fun x=>UInt8.ofBitVec x)){a:Zp}(ha:zp 0x11560bf17baa99bc32126fced787c88f984f87adf7ae0c7f9a208c6b4f20a4181472aaa9cb8d555526a9ffffffffc71c=a):Pure Tryz.prog Gt 166 [.string s0] (EV a):=by
 have h:=jg s0 pb6 h0
 rw[MX,ha]at h
 exact h
def pb7:List (BitVec 8):=[8#8,171#8,5#8,248#8,189#8,213#8,76#8,222#8,25#8,9#8,55#8,231#8,107#8,195#8,228#8,71#8,204#8,39#8,195#8,214#8,251#8,215#8,6#8,63#8,205#8,16#8,70#8,53#8,167#8,144#8,82#8,12#8,10#8,57#8,85#8,84#8,229#8,198#8,170#8,170#8,147#8,84#8,255#8,255#8,255#8,255#8,227#8,143#8]
theorem LR:FV pb7=zp 0x8ab05f8bdd54cde190937e76bc3e447cc27c3d6fbd7063fcd104635a790520c0a395554e5c6aaaa9354ffffffffe38f:=by rw[FV,if_pos ⟨rfl,by decide+kernel⟩];decide+kernel
theorem Md(s0:ByteArray)(h0:s0.data.toList=pb7.map (fun x=>UInt8.ofBitVec x)){a:Zp}(ha:zp 0x8ab05f8bdd54cde190937e76bc3e447cc27c3d6fbd7063fcd104635a790520c0a395554e5c6aaaa9354ffffffffe38f=a):Pure Tryz.prog Gt 166 [.string s0] (EV a):=by
 have h:=jg s0 pb7 h0
 rw[LR,ha]at h
 exact h
def pb8:List (BitVec 8):=[5#8,199#8,89#8,80#8,126#8,142#8,51#8,62#8,187#8,91#8,122#8,154#8,71#8,215#8,237#8,133#8,50#8,197#8,45#8,57#8,253#8,58#8,4#8,42#8,136#8,181#8,132#8,35#8,197#8,10#8,225#8,93#8,92#8,38#8,56#8,227#8,67#8,217#8,199#8,28#8,98#8,56#8,170#8,170#8,170#8,170#8,151#8,190#8]
theorem K5:FV pb8=zp 0x5c759507e8e333ebb5b7a9a47d7ed8532c52d39fd3a042a88b58423c50ae15d5c2638e343d9c71c6238aaaaaaaa97be:=by rw[FV,if_pos ⟨rfl,by decide+kernel⟩];decide+kernel
theorem Oj(s0:ByteArray)(h0:s0.data.toList=pb8.map (fun x=>UInt8.ofBitVec x)){a:Zp}(ha:zp 0x5c759507e8e333ebb5b7a9a47d7ed8532c52d39fd3a042a88b58423c50ae15d5c2638e343d9c71c6238aaaaaaaa97be=a):Pure Tryz.prog Gt 166 [.string s0] (EV a):=by
 have h:=jg s0 pb8 h0
 rw[K5,ha]at h
 exact h
def pb9:List (BitVec 8):=[21#8,48#8,71#8,124#8,122#8,180#8,17#8,59#8,89#8,164#8,193#8,139#8,7#8,109#8,17#8,147#8,15#8,125#8,165#8,212#8,160#8,127#8,100#8,155#8,245#8,68#8,57#8,216#8,125#8,39#8,229#8,0#8,252#8,140#8,37#8,235#8,248#8,201#8,47#8,104#8,18#8,207#8,199#8,28#8,113#8,198#8,215#8,6#8]
theorem NW:FV pb9=zp 0x1530477c7ab4113b59a4c18b076d11930f7da5d4a07f649bf54439d87d27e500fc8c25ebf8c92f6812cfc71c71c6d706:=by rw[FV,if_pos ⟨rfl,by decide+kernel⟩];decide+kernel
theorem Gv(s0:ByteArray)(h0:s0.data.toList=pb9.map (fun x=>UInt8.ofBitVec x)){a:Zp}(ha:zp 0x1530477c7ab4113b59a4c18b076d11930f7da5d4a07f649bf54439d87d27e500fc8c25ebf8c92f6812cfc71c71c6d706=a):Pure Tryz.prog Gt 166 [.string s0] (EV a):=by
 have h:=jg s0 pb9 h0
 rw[NW,ha]at h
 exact h
theorem gi(w:World)(hw:Gt w):Calls Tryz.prog 139 [].toArray w (fun e w'=> ∃b1,e=.returned (.func (.func 182) #[] #[.pointer (some ⟨b1,0,none⟩)])∧Grow w w'∧w.heap.size≤b1∧OwnB w' b1 ((RW 24 (R24 oY uY) 4).map U64) 187):=by
 refine Hf func139 rfl hw<|fun hGF=>ae (E:=EE [165,2000165])<|Asg rfl<|aa<|ae (E:=EE [165,2000165])<|Ca rfl (KY _ rfl rfl)<|ux eF rfl (by simp) rfl rfl<|Ca rfl (yY)<|cq iJ rfl rfl (by simp) (by simp) rfl rfl<|Ca rfl (Od _ rfl rfl)<|Ca rfl (Md _ rfl rfl)<|cq eF rfl rfl (by simp) (by simp) rfl rfl<|Ca rfl (dk _)<|Ca rfl (dk _)<|Ca rfl (dK _)<|cq eF rfl rfl (by simp) (by simp) rfl rfl<|cq iJ rfl rfl (by simp) (by simp) rfl rfl<|Ca rfl (Oj _ rfl rfl)<|kp eF rfl (by simp) rfl rfl<|Ca rfl (dk _)<|Ca rfl (dK _)<|kp eF rfl (by simp) rfl rfl<|cq iJ rfl rfl (by simp) (by simp) rfl rfl<|Ca rfl (Gv _ rfl rfl)<|Ca rfl (Gv _ rfl rfl)<|cq eF rfl rfl (by simp) (by simp) rfl rfl<|Ca rfl (dk _)<|Ca rfl (dK _)<|Ca rfl (dk _)<|Ca rfl (dK _)<|cq eF rfl rfl (by simp) (by simp) rfl rfl<|cq iJ rfl rfl (by simp) (by simp) rfl rfl<|qM (s:=24) (R24 oY uY) (R24 oY uY) [0,1,2,3] rfl rfl rfl (fun i _=>f7 _ _ _) underlying187 sizeOf186 zv187 (vV _ _) rfl rfl<|?_
 refine bx rfl rfl ent165 rfl rfl (fun w' hw'=>(mC oY uY w' (hGF.g _ _ _ hw')).mono fun e' w'' h=> ?_)
 obtain ⟨c1,rfl,hg,h1,ho⟩:=h
 refine ⟨_,_,rfl,az hGF,hw'.news ao hg [(33,c1,(RW 24 (R24 oY uY) 4).map U64,187)] ?_ bH,bB ao rfl, ?_⟩
 ·intro n' b' c' t' hl
  rcases aH hl with ⟨_,e⟩|⟨_,hl⟩
  ·cases e;exact ⟨h1,ho⟩
  ·cases hl
 clear hw' hg h1 ho
 refine Asg rfl<|aa<|aq<|Rr<|?_
 exact aQ rfl rfl (fun w hw=>⟨c1,rfl,ac hw,(hw.own 33 c1 _ _ rfl).2.elim id False.elim,(hw.own 33 c1 _ _ rfl).1⟩)
theorem nd(x:W2)(bb:Nat)(w:World)(hw:Gt w)(h:w.rangeAt bb 0 ((RW 24 (R24 oX uX) 4).map U64)):Calls Tryz.prog 137 [EV2 x,.func (.func 182) #[] #[.pointer (some ⟨bb,0,none⟩)]].toArray w (fun r w'=>r=.returned (.tuple #[EV2 (R2.pev iXN x),EV2 (R2.pev iXD x)])∧Grow w w'):=by
 have e:=m8 x oX uX bb w hw (fun w' hg=>jv hg h)
 rw[oX_h,uX_h]at e
 exact e
theorem mA(x:W2)(bb:Nat)(w:World)(hw:Gt w)(h:w.rangeAt bb 0 ((RW 24 (R24 oY uY) 4).map U64)):Calls Tryz.prog 137 [EV2 x,.func (.func 182) #[] #[.pointer (some ⟨bb,0,none⟩)]].toArray w (fun r w'=>r=.returned (.tuple #[EV2 (R2.pev iYN x),EV2 (R2.pev iYD x)])∧Grow w w'):=by
 have e:=m8 x oY uY bb w hw (fun w' hg=>jv hg h)
 rw[oY_h,uY_h]at e
 exact e
theorem KX{x y:W2}(h:ml2 y y=gO x):Pure Tryz.prog Gt 49 [EV2 (ml2 (R2.pev iXN x) (R2.pev iYD x)),EV2 (iv2 (ml2 (R2.pev iXD x) (R2.pev iYD x)))] (EV2 (XIs x)):=by
 have e:=gt (ml2 (R2.pev iXN x) (R2.pev iYD x)) (iv2 (ml2 (R2.pev iXD x) (R2.pev iYD x)))
 rw[MV (ry h) (qV h)]at e
 exact e
theorem LY{x y:W2}(h:ml2 y y=gO x):Pure Tryz.prog Gt 49 [EV2 (ml2 (ml2 y (R2.pev iYN x)) (R2.pev iXD x)),EV2 (iv2 (ml2 (R2.pev iXD x) (R2.pev iYD x)))] (EV2 (YIs x y)):=by
 have e:=gt (ml2 (ml2 y (R2.pev iYN x)) (R2.pev iXD x)) (iv2 (ml2 (R2.pev iXD x) (R2.pev iYD x)))
 rw[Lp (ry h) (qV h)]at e
 exact e
theorem Er{x y:W2}(h:ml2 y y=gO x): ¬ml2 (R2.pev iXD x) (R2.pev iYD x)=ze2:=fun e=>(eE e).elim (ry h) (qV h)
def NA(x y:W2)(h:ml2 y y=gO x):GP:=NN (XIs x) (YIs x y) (B1.1 (ub h))
theorem piso(x y:W2)(h:ml2 y y=gO x):Pure Tryz.prog Gt 100 [EV2 x,EV2 y] (PtV (NA x y h)):=by
 intro w hw
 refine Hf func100 rfl hw<|fun hGF=>Xp<|Bx 2 hGF rfl<|fun b2=>Bx 3 hGF rfl<|fun b3=>Al 4 hGF zv31<|fun b4=>aa<|?_
 refine f8 (ι:=Nat×Nat) (fun z=>[(2,.pointer (some ⟨b2,0,none⟩)),(3,.pointer (some ⟨b3,0,none⟩)),(4,.pointer (some ⟨b4,0,none⟩)),(5,.pointer (some ⟨z.1,0,none⟩)),(6,.pointer (some ⟨z.2,0,none⟩))]) (fun z=>[(2,b2,(fe (x).1++fe (x).2).map U64,29),(3,b3,(fe (y).1++fe (y).2).map U64,29),(4,b4,(GL rO).map U64,31),(5,z.1,(fe (R2.pev iXN x).1++fe (R2.pev iXN x).2).map U64,29),(6,z.2,(fe (R2.pev iXD x).1++fe (R2.pev iXD x).2).map U64,29)]) hGF ?_ ?_
 ·refine jn (EE [138,2000138,2999999]) eH (by kernel_rfl) (by kernel_rfl)<|aG (m:=9) [0] (by kernel_rfl)<|La 2 rfl rfl a9<|aa<|eJ (m:=8) [1,6,7] (by kernel_rfl) (by kernel_rfl) (by decide)<|?_
  intro i hi
  simp only[List.mem_cons,List.not_mem_nil,or_false]at hi
  rcases hi with rfl|rfl|rfl
  ·refine bx rfl rfl ent138 rfl rfl (fun w' hw'=>(gC w' (hGF.g _ _ _ hw')).mono fun e' w'' h=> ?_)
   obtain ⟨c1,rfl,hg,h1,ho⟩:=h
   refine ⟨_,_,rfl,az hGF,hw'.news ao hg [(33,c1,(RW 24 (R24 oX uX) 4).map U64,187)] ?_ bH,bB ao rfl, ?_⟩
   ·intro n' b' c' t' hl
    rcases aH hl with ⟨_,e⟩|⟨_,hl⟩
    ·cases e;exact ⟨h1,ho⟩
    ·cases hl
   clear hw' hg h1 ho
   refine aa<|aG (m:=4) [2,3,4,5] (by kernel_rfl)<|Cc rfl ent137 (fun w' hC hG=>nd x _ w' hG (aU (n:=33) rfl w' hC))<|Mv rfl<|Ext rfl rfl<|Ext rfl rfl<|aa<|eJ (m:=3) [6,7] (by kernel_rfl) (by kernel_rfl) (by decide)<|?_
   intro i hi
   simp only[List.mem_cons,List.not_mem_nil,or_false]at hi
   rcases hi with rfl|rfl
   ·exact a5 5 hGF zv29 rfl rfl rfl<|fun b5=>aa<|aG (m:=2) [7] (by kernel_rfl)<|a5 6 hGF zv29 rfl rfl rfl<|fun b6=>aa<|aG (m:=1) [8] (by kernel_rfl)<|Sa 5 hGF rfl rfl rfl a9<|aa<|aG (m:=0) [9] (by kernel_rfl)<|Sa 6 hGF rfl rfl rfl a9<|aa<|cv (by kernel_rfl)<|aA<|⟨rfl,(b5,b6),_,rfl,⟨rfl,rfl,rfl,rfl,rfl,trivial⟩,⟨rfl,rfl,rfl,rfl,rfl,trivial⟩⟩
   ·exact a5 6 hGF zv29 rfl rfl rfl<|fun b6=>aa<|aG (m:=2) [6] (by kernel_rfl)<|a5 5 hGF zv29 rfl rfl rfl<|fun b5=>aa<|aG (m:=1) [8] (by kernel_rfl)<|Sa 5 hGF rfl rfl rfl a9<|aa<|aG (m:=0) [9] (by kernel_rfl)<|Sa 6 hGF rfl rfl rfl a9<|aa<|cv (by kernel_rfl)<|aA<|⟨rfl,(b5,b6),_,rfl,⟨rfl,rfl,rfl,rfl,rfl,trivial⟩,⟨rfl,rfl,rfl,rfl,rfl,trivial⟩⟩
  ·refine a5 5 hGF zv29 rfl rfl rfl<|fun b5=>aa<|eJ (m:=7) [1,7] (by kernel_rfl) (by kernel_rfl) (by decide)<|?_
   intro i hi
   simp only[List.mem_cons,List.not_mem_nil,or_false]at hi
   rcases hi with rfl|rfl
   ·refine bx rfl rfl ent138 rfl rfl (fun w' hw'=>(gC w' (hGF.g _ _ _ hw')).mono fun e' w'' h=> ?_)
    obtain ⟨c1,rfl,hg,h1,ho⟩:=h
    refine ⟨_,_,rfl,az hGF,hw'.news ao hg [(33,c1,(RW 24 (R24 oX uX) 4).map U64,187)] ?_ bH,bB ao rfl, ?_⟩
    ·intro n' b' c' t' hl
     rcases aH hl with ⟨_,e⟩|⟨_,hl⟩
     ·cases e;exact ⟨h1,ho⟩
     ·cases hl
    clear hw' hg h1 ho
    exact aa<|aG (m:=3) [2,3,4,5] (by kernel_rfl)<|Cc rfl ent137 (fun w' hC hG=>nd x _ w' hG (aU (n:=33) rfl w' hC))<|Mv rfl<|Ext rfl rfl<|Ext rfl rfl<|aa<|aG (m:=2) [7] (by kernel_rfl)<|a5 6 hGF zv29 rfl rfl rfl<|fun b6=>aa<|aG (m:=1) [8] (by kernel_rfl)<|Sa 5 hGF rfl rfl rfl a9<|aa<|aG (m:=0) [9] (by kernel_rfl)<|Sa 6 hGF rfl rfl rfl a9<|aa<|cv (by kernel_rfl)<|aA<|⟨rfl,(b5,b6),_,rfl,⟨rfl,rfl,rfl,rfl,rfl,trivial⟩,⟨rfl,rfl,rfl,rfl,rfl,trivial⟩⟩
   ·refine a5 6 hGF zv29 rfl rfl rfl<|fun b6=>aa<|aG (m:=6) [1] (by kernel_rfl)<|?_
    refine bx rfl rfl ent138 rfl rfl (fun w' hw'=>(gC w' (hGF.g _ _ _ hw')).mono fun e' w'' h=> ?_)
    obtain ⟨c1,rfl,hg,h1,ho⟩:=h
    refine ⟨_,_,rfl,az hGF,hw'.news ao hg [(33,c1,(RW 24 (R24 oX uX) 4).map U64,187)] ?_ bH,bB ao rfl, ?_⟩
    ·intro n' b' c' t' hl
     rcases aH hl with ⟨_,e⟩|⟨_,hl⟩
     ·cases e;exact ⟨h1,ho⟩
     ·cases hl
    clear hw' hg h1 ho
    exact aa<|aG (m:=2) [2,3,4,5] (by kernel_rfl)<|Cc rfl ent137 (fun w' hC hG=>nd x _ w' hG (aU (n:=33) rfl w' hC))<|Mv rfl<|Ext rfl rfl<|Ext rfl rfl<|aa<|aG (m:=1) [8] (by kernel_rfl)<|Sa 5 hGF rfl rfl rfl a9<|aa<|aG (m:=0) [9] (by kernel_rfl)<|Sa 6 hGF rfl rfl rfl a9<|aa<|cv (by kernel_rfl)<|aA<|⟨rfl,(b5,b6),_,rfl,⟨rfl,rfl,rfl,rfl,rfl,trivial⟩,⟨rfl,rfl,rfl,rfl,rfl,trivial⟩⟩
  ·refine a5 6 hGF zv29 rfl rfl rfl<|fun b6=>aa<|eJ (m:=7) [1,6] (by kernel_rfl) (by kernel_rfl) (by decide)<|?_
   intro i hi
   simp only[List.mem_cons,List.not_mem_nil,or_false]at hi
   rcases hi with rfl|rfl
   ·refine bx rfl rfl ent138 rfl rfl (fun w' hw'=>(gC w' (hGF.g _ _ _ hw')).mono fun e' w'' h=> ?_)
    obtain ⟨c1,rfl,hg,h1,ho⟩:=h
    refine ⟨_,_,rfl,az hGF,hw'.news ao hg [(33,c1,(RW 24 (R24 oX uX) 4).map U64,187)] ?_ bH,bB ao rfl, ?_⟩
    ·intro n' b' c' t' hl
     rcases aH hl with ⟨_,e⟩|⟨_,hl⟩
     ·cases e;exact ⟨h1,ho⟩
     ·cases hl
    clear hw' hg h1 ho
    exact aa<|aG (m:=3) [2,3,4,5] (by kernel_rfl)<|Cc rfl ent137 (fun w' hC hG=>nd x _ w' hG (aU (n:=33) rfl w' hC))<|Mv rfl<|Ext rfl rfl<|Ext rfl rfl<|aa<|aG (m:=2) [6] (by kernel_rfl)<|a5 5 hGF zv29 rfl rfl rfl<|fun b5=>aa<|aG (m:=1) [8] (by kernel_rfl)<|Sa 5 hGF rfl rfl rfl a9<|aa<|aG (m:=0) [9] (by kernel_rfl)<|Sa 6 hGF rfl rfl rfl a9<|aa<|cv (by kernel_rfl)<|aA<|⟨rfl,(b5,b6),_,rfl,⟨rfl,rfl,rfl,rfl,rfl,trivial⟩,⟨rfl,rfl,rfl,rfl,rfl,trivial⟩⟩
   ·refine a5 5 hGF zv29 rfl rfl rfl<|fun b5=>aa<|aG (m:=6) [1] (by kernel_rfl)<|?_
    refine bx rfl rfl ent138 rfl rfl (fun w' hw'=>(gC w' (hGF.g _ _ _ hw')).mono fun e' w'' h=> ?_)
    obtain ⟨c1,rfl,hg,h1,ho⟩:=h
    refine ⟨_,_,rfl,az hGF,hw'.news ao hg [(33,c1,(RW 24 (R24 oX uX) 4).map U64,187)] ?_ bH,bB ao rfl, ?_⟩
    ·intro n' b' c' t' hl
     rcases aH hl with ⟨_,e⟩|⟨_,hl⟩
     ·cases e;exact ⟨h1,ho⟩
     ·cases hl
    clear hw' hg h1 ho
    exact aa<|aG (m:=2) [2,3,4,5] (by kernel_rfl)<|Cc rfl ent137 (fun w' hC hG=>nd x _ w' hG (aU (n:=33) rfl w' hC))<|Mv rfl<|Ext rfl rfl<|Ext rfl rfl<|aa<|aG (m:=1) [8] (by kernel_rfl)<|Sa 5 hGF rfl rfl rfl a9<|aa<|aG (m:=0) [9] (by kernel_rfl)<|Sa 6 hGF rfl rfl rfl a9<|aa<|cv (by kernel_rfl)<|aA<|⟨rfl,(b5,b6),_,rfl,⟨rfl,rfl,rfl,rfl,rfl,trivial⟩,⟨rfl,rfl,rfl,rfl,rfl,trivial⟩⟩
 ·rintro ⟨b5,b6⟩
  dsimp only
  refine f8 (ι:=Nat×Nat) (fun z=>[(2,.pointer (some ⟨b2,0,none⟩)),(3,.pointer (some ⟨b3,0,none⟩)),(4,.pointer (some ⟨b4,0,none⟩)),(5,.pointer (some ⟨b5,0,none⟩)),(6,.pointer (some ⟨b6,0,none⟩)),(7,.pointer (some ⟨z.1,0,none⟩)),(8,.pointer (some ⟨z.2,0,none⟩))]) (fun z=>[(2,b2,(fe (x).1++fe (x).2).map U64,29),(3,b3,(fe (y).1++fe (y).2).map U64,29),(4,b4,(GL rO).map U64,31),(5,b5,(fe (R2.pev iXN x).1++fe (R2.pev iXN x).2).map U64,29),(6,b6,(fe (R2.pev iXD x).1++fe (R2.pev iXD x).2).map U64,29),(7,z.1,(fe (R2.pev iYN x).1++fe (R2.pev iYN x).2).map U64,29),(8,z.2,(fe (R2.pev iYD x).1++fe (R2.pev iYD x).2).map U64,29)]) hGF ?_ ?_
  ·refine jn (EE [139,2000139,2999999]) eH (by kernel_rfl) (by kernel_rfl)<|aG (m:=9) [0] (by kernel_rfl)<|La 2 rfl rfl a9<|aa<|eJ (m:=8) [1,6,7] (by kernel_rfl) (by kernel_rfl) (by decide)<|?_
   intro i hi
   simp only[List.mem_cons,List.not_mem_nil,or_false]at hi
   rcases hi with rfl|rfl|rfl
   ·refine bx rfl rfl ent139 rfl rfl (fun w' hw'=>(gi w' (hGF.g _ _ _ hw')).mono fun e' w'' h=> ?_)
    obtain ⟨c1,rfl,hg,h1,ho⟩:=h
    refine ⟨_,_,rfl,az hGF,hw'.news ao hg [(33,c1,(RW 24 (R24 oY uY) 4).map U64,187)] ?_ bH,bB ao rfl, ?_⟩
    ·intro n' b' c' t' hl
     rcases aH hl with ⟨_,e⟩|⟨_,hl⟩
     ·cases e;exact ⟨h1,ho⟩
     ·cases hl
    clear hw' hg h1 ho
    refine aa<|aG (m:=4) [2,3,4,5] (by kernel_rfl)<|Cc rfl ent137 (fun w' hC hG=>mA x _ w' hG (aU (n:=33) rfl w' hC))<|Mv rfl<|Ext rfl rfl<|Ext rfl rfl<|aa<|eJ (m:=3) [6,7] (by kernel_rfl) (by kernel_rfl) (by decide)<|?_
    intro i hi
    simp only[List.mem_cons,List.not_mem_nil,or_false]at hi
    rcases hi with rfl|rfl
    ·exact a5 7 hGF zv29 rfl rfl rfl<|fun b7=>aa<|aG (m:=2) [7] (by kernel_rfl)<|a5 8 hGF zv29 rfl rfl rfl<|fun b8=>aa<|aG (m:=1) [8] (by kernel_rfl)<|Sa 7 hGF rfl rfl rfl a9<|aa<|aG (m:=0) [9] (by kernel_rfl)<|Sa 8 hGF rfl rfl rfl a9<|aa<|cv (by kernel_rfl)<|aA<|⟨rfl,(b7,b8),_,rfl,⟨rfl,rfl,rfl,rfl,rfl,rfl,rfl,trivial⟩,⟨rfl,rfl,rfl,rfl,rfl,rfl,rfl,trivial⟩⟩
    ·exact a5 8 hGF zv29 rfl rfl rfl<|fun b8=>aa<|aG (m:=2) [6] (by kernel_rfl)<|a5 7 hGF zv29 rfl rfl rfl<|fun b7=>aa<|aG (m:=1) [8] (by kernel_rfl)<|Sa 7 hGF rfl rfl rfl a9<|aa<|aG (m:=0) [9] (by kernel_rfl)<|Sa 8 hGF rfl rfl rfl a9<|aa<|cv (by kernel_rfl)<|aA<|⟨rfl,(b7,b8),_,rfl,⟨rfl,rfl,rfl,rfl,rfl,rfl,rfl,trivial⟩,⟨rfl,rfl,rfl,rfl,rfl,rfl,rfl,trivial⟩⟩
   ·refine a5 7 hGF zv29 rfl rfl rfl<|fun b7=>aa<|eJ (m:=7) [1,7] (by kernel_rfl) (by kernel_rfl) (by decide)<|?_
    intro i hi
    simp only[List.mem_cons,List.not_mem_nil,or_false]at hi
    rcases hi with rfl|rfl
    ·refine bx rfl rfl ent139 rfl rfl (fun w' hw'=>(gi w' (hGF.g _ _ _ hw')).mono fun e' w'' h=> ?_)
     obtain ⟨c1,rfl,hg,h1,ho⟩:=h
     refine ⟨_,_,rfl,az hGF,hw'.news ao hg [(33,c1,(RW 24 (R24 oY uY) 4).map U64,187)] ?_ bH,bB ao rfl, ?_⟩
     ·intro n' b' c' t' hl
      rcases aH hl with ⟨_,e⟩|⟨_,hl⟩
      ·cases e;exact ⟨h1,ho⟩
      ·cases hl
     clear hw' hg h1 ho
     exact aa<|aG (m:=3) [2,3,4,5] (by kernel_rfl)<|Cc rfl ent137 (fun w' hC hG=>mA x _ w' hG (aU (n:=33) rfl w' hC))<|Mv rfl<|Ext rfl rfl<|Ext rfl rfl<|aa<|aG (m:=2) [7] (by kernel_rfl)<|a5 8 hGF zv29 rfl rfl rfl<|fun b8=>aa<|aG (m:=1) [8] (by kernel_rfl)<|Sa 7 hGF rfl rfl rfl a9<|aa<|aG (m:=0) [9] (by kernel_rfl)<|Sa 8 hGF rfl rfl rfl a9<|aa<|cv (by kernel_rfl)<|aA<|⟨rfl,(b7,b8),_,rfl,⟨rfl,rfl,rfl,rfl,rfl,rfl,rfl,trivial⟩,⟨rfl,rfl,rfl,rfl,rfl,rfl,rfl,trivial⟩⟩
    ·refine a5 8 hGF zv29 rfl rfl rfl<|fun b8=>aa<|aG (m:=6) [1] (by kernel_rfl)<|?_
     refine bx rfl rfl ent139 rfl rfl (fun w' hw'=>(gi w' (hGF.g _ _ _ hw')).mono fun e' w'' h=> ?_)
     obtain ⟨c1,rfl,hg,h1,ho⟩:=h
     refine ⟨_,_,rfl,az hGF,hw'.news ao hg [(33,c1,(RW 24 (R24 oY uY) 4).map U64,187)] ?_ bH,bB ao rfl, ?_⟩
     ·intro n' b' c' t' hl
      rcases aH hl with ⟨_,e⟩|⟨_,hl⟩
      ·cases e;exact ⟨h1,ho⟩
      ·cases hl
     clear hw' hg h1 ho
     exact aa<|aG (m:=2) [2,3,4,5] (by kernel_rfl)<|Cc rfl ent137 (fun w' hC hG=>mA x _ w' hG (aU (n:=33) rfl w' hC))<|Mv rfl<|Ext rfl rfl<|Ext rfl rfl<|aa<|aG (m:=1) [8] (by kernel_rfl)<|Sa 7 hGF rfl rfl rfl a9<|aa<|aG (m:=0) [9] (by kernel_rfl)<|Sa 8 hGF rfl rfl rfl a9<|aa<|cv (by kernel_rfl)<|aA<|⟨rfl,(b7,b8),_,rfl,⟨rfl,rfl,rfl,rfl,rfl,rfl,rfl,trivial⟩,⟨rfl,rfl,rfl,rfl,rfl,rfl,rfl,trivial⟩⟩
   ·refine a5 8 hGF zv29 rfl rfl rfl<|fun b8=>aa<|eJ (m:=7) [1,6] (by kernel_rfl) (by kernel_rfl) (by decide)<|?_
    intro i hi
    simp only[List.mem_cons,List.not_mem_nil,or_false]at hi
    rcases hi with rfl|rfl
    ·refine bx rfl rfl ent139 rfl rfl (fun w' hw'=>(gi w' (hGF.g _ _ _ hw')).mono fun e' w'' h=> ?_)
     obtain ⟨c1,rfl,hg,h1,ho⟩:=h
     refine ⟨_,_,rfl,az hGF,hw'.news ao hg [(33,c1,(RW 24 (R24 oY uY) 4).map U64,187)] ?_ bH,bB ao rfl, ?_⟩
     ·intro n' b' c' t' hl
      rcases aH hl with ⟨_,e⟩|⟨_,hl⟩
      ·cases e;exact ⟨h1,ho⟩
      ·cases hl
     clear hw' hg h1 ho
     exact aa<|aG (m:=3) [2,3,4,5] (by kernel_rfl)<|Cc rfl ent137 (fun w' hC hG=>mA x _ w' hG (aU (n:=33) rfl w' hC))<|Mv rfl<|Ext rfl rfl<|Ext rfl rfl<|aa<|aG (m:=2) [6] (by kernel_rfl)<|a5 7 hGF zv29 rfl rfl rfl<|fun b7=>aa<|aG (m:=1) [8] (by kernel_rfl)<|Sa 7 hGF rfl rfl rfl a9<|aa<|aG (m:=0) [9] (by kernel_rfl)<|Sa 8 hGF rfl rfl rfl a9<|aa<|cv (by kernel_rfl)<|aA<|⟨rfl,(b7,b8),_,rfl,⟨rfl,rfl,rfl,rfl,rfl,rfl,rfl,trivial⟩,⟨rfl,rfl,rfl,rfl,rfl,rfl,rfl,trivial⟩⟩
    ·refine a5 7 hGF zv29 rfl rfl rfl<|fun b7=>aa<|aG (m:=6) [1] (by kernel_rfl)<|?_
     refine bx rfl rfl ent139 rfl rfl (fun w' hw'=>(gi w' (hGF.g _ _ _ hw')).mono fun e' w'' h=> ?_)
     obtain ⟨c1,rfl,hg,h1,ho⟩:=h
     refine ⟨_,_,rfl,az hGF,hw'.news ao hg [(33,c1,(RW 24 (R24 oY uY) 4).map U64,187)] ?_ bH,bB ao rfl, ?_⟩
     ·intro n' b' c' t' hl
      rcases aH hl with ⟨_,e⟩|⟨_,hl⟩
      ·cases e;exact ⟨h1,ho⟩
      ·cases hl
     clear hw' hg h1 ho
     exact aa<|aG (m:=2) [2,3,4,5] (by kernel_rfl)<|Cc rfl ent137 (fun w' hC hG=>mA x _ w' hG (aU (n:=33) rfl w' hC))<|Mv rfl<|Ext rfl rfl<|Ext rfl rfl<|aa<|aG (m:=1) [8] (by kernel_rfl)<|Sa 7 hGF rfl rfl rfl a9<|aa<|aG (m:=0) [9] (by kernel_rfl)<|Sa 8 hGF rfl rfl rfl a9<|aa<|cv (by kernel_rfl)<|aA<|⟨rfl,(b7,b8),_,rfl,⟨rfl,rfl,rfl,rfl,rfl,rfl,rfl,trivial⟩,⟨rfl,rfl,rfl,rfl,rfl,rfl,rfl,trivial⟩⟩
  ·rintro ⟨b7,b8⟩
   dsimp only
   refine Xp<|La 6 rfl rfl a9<|La 8 rfl rfl a9<|Ca rfl (gt _ _)<|Al 9 hGF zv29<|fun b9=>Sa 9 hGF rfl rfl rfl a9<|aa<|ah<|Xp<|La 9 rfl rfl a9<|Cbl false rfl ent91 (qZ _) (decide_eq_false (Er h))<|aa<|aV rfl<|au<|Xp<|La 9 rfl rfl a9<|Ca rfl (Gn _)<|Al 10 hGF zv29<|fun b10=>Sa 10 hGF rfl rfl rfl a9<|aa<|Xa [0,1,2,3,4,5,6,7,8,9,10,11,12,13,14,15] ⟨16,11,31,(GL rO).map U64⟩ [17,18] (cB rfl zv31 rfl)<|La 5 rfl rfl a9<|La 8 rfl rfl a9<|Ca rfl (gt _ _)<|La 10 rfl rfl a9<|Ca rfl (KX h)<|La 3 rfl rfl a9<|La 7 rfl rfl a9<|Ca rfl (gt _ _)<|La 6 rfl rfl a9<|Ca rfl (gt _ _)<|La 10 rfl rfl a9<|Ca rfl (LY h)<|Ca rfl (Ly _ _ (B1.1 (ub h)))<|Mv rfl<|Ext rfl rfl<|Ext rfl rfl<|aa<|?_
   refine ⟨_,_,rfl,hGF,by intro x hx;simp only[List.mem_cons,List.not_mem_nil,or_false]at hx;subst hx;rfl,by intro x hx;simp only[List.mem_cons,List.not_mem_nil,or_false]at hx;subst hx;rfl,fun adr7=> ?_⟩
   refine Sa 11 hGF rfl rfl rfl dj<|Asg rfl<|aa<|Xp<|La 11 rfl rfl dj<|Sa 4 hGF rfl rfl rfl dj<|aa<|aq<|Rr<|?_
   exact aw 4 rfl rfl rfl isAgg31 sizeOf31 (by simp) (fun w hw=>⟨rfl,ac hw⟩)
theorem pmap{u x r:W2}(h:SwR u x r):Pure Tryz.prog Gt 59 [EV2 u] (PtV (NA x (sgS r u) h.on)):=by
 intro w hw
 refine Hf func59 rfl hw<|fun hGF=>Xp<|Bx 1 hGF rfl<|fun b1=>Al 2 hGF zv31<|fun b2=>aa<|Xp<|La 1 rfl rfl a9<|Ca rfl (pswu h)<|Ext rfl rfl<|Ext rfl rfl<|Ca rfl (piso _ _ h.on)<|Sa 2 hGF rfl rfl rfl dj<|aa<|aq<|Rr<|?_
 exact aw 2 rfl rfl rfl isAgg31 sizeOf31 (by simp) (fun w hw=>⟨rfl,ac hw⟩)
end
end Go.Proofs.YtodgbdcjjhmnkaaGreatDoor
