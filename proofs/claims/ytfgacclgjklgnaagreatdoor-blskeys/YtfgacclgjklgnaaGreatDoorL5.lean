/- L5 -/
import Derived.Test.YtfgacclgjklgnaaGreatDoorL4
import Derived.Lib.BufferMore
set_option maxRecDepth 100000
set_option maxHeartbeats 1000000
namespace Go.Proofs.YtfgacclgjklgnaaGreatDoor
open Go.Proofs.Tryz
open Go.RowKit
attribute [local simp] a5 be aE aB aP aY aM aJ aH PLl cB cz N1l cD cC cE ba bj aZ a9 bd
theorem ent143:ai prog 143:=λ_ _=>kr
theorem ent192:ai prog 192:=λ_ _=>kr
theorem yo(a:L6)(_ha:a.length=6)(w:World)(hw:Gt w):CLS 143 [aI (a)].toArray w (λe w'=> ∃b1,e=.returned (.func (.func 192) #[] #[pnt b1])/\Grow w w'/\w.heap.size<=b1/\OwnB w' b1 (a.map U64) 25):=by
 refine Hf func143 O hw<|λhGF=>Xp<|Bx 1 hGF O<|λb1=>Asg O<|aa<|Xp<|fP O O O O<|Asg O<|aa<|ak<|Rr<|?_;exact aO O O (λw hw=>⟨b1,rfl,ac hw,(hw.own 1 b1 _ _ O).2.elim id False.elim,(hw.own 1 b1 _ _ O).1⟩)
theorem u9(bb:Nat)(a:L6)(ha:a.length=6):eS prog Gt 192 [pnt bb] (BT a) (λW=>W.rangeAt bb 0 (a.map U64)):=by
 intro l J Jx hJ hJx hRd hGx hY w hj;have okJ: ∀k,BOk Gt (Bi w (λY=>J Y k)):=λk=>⟨λ_ _ _ h=>(hRd _ _ _ h.rid).1,hJ k⟩;have okX: ∀k,BOk Gt (Bi w (λY=>Jx Y k)):=λk=>⟨λ_ _ _ h=>hGx _ _ _ h.rid,hJx k⟩;refine ck (G:=Gt) func192 O O (Hp (Bi w (λY=>J Y 0)) []) (bZ (Bi w _) hj (hJ 0)) (ay (okJ 0))<|ae (E:=EE [133])<|iz 2 (okJ _) O O O<|λb2=>aa<|ae (E:=EE [133])<|bB (l:=0) (h':=6) O underlying25 sizeOf24 O O om om O O<|?_;refine dp O O ent133 O O (λw' hw'=>(mC _ O w' ((okJ _).g _ _ _ hw')).mono λe w'' h=> ?_);obtain ⟨c2,rfl,hgr,h2,hc2⟩:=h;refine ⟨_,_,rfl,ay (okJ _),hw'.news (hJ _) hgr [(33,c2,[.slice (spt bb) 6 6],67)] ?_ bR, ?_⟩
 ·intro n' b' c' t' hl
  rcases aK hl with ⟨_,e⟩|⟨_,hl⟩
  ·cases e;exact ⟨h2,hc2⟩
  ·cases hl
 clear hw' hgr h2 hc2;refine aa<|am<|?_;refine ep (λk=>(Bi w (λY=>J Y (f7 a k).length))) (λ_ k=>Bi w (λY=>Jx Y (f7 a k).length)) (λ_=>okJ _) (λ_ _=>okX _) (λ_=>rfl) (λ_ _=>rfl) O O ent188 (qU c2 bb a 6 dc ha) (λx hx=>by obtain ⟨k,hk,rfl⟩:=List.mem_map.1 hx;rfl) O (λ_=>[(2,b2,[.func (.yield l) #[] #[]],82),(33,c2,[.slice (spt bb) 6 6],67)]) (λc _ _=>c=.ret) trv (λk Y w' h=>⟨cp (n:=33) O O w' h,(hRd _ _ _ h.rid).2⟩) ?_ ?_ ?_
 ·intro k x hx R hR
  obtain ⟨hk,rfl⟩:=NM a 6 k x hx;rw[show 64*6-1-k=383-k from O];refine ae (E:=EE [133])<|Asg O<|aa<|bQ (E:=EE [133])<|Asg O<|aa<|?_;refine ⟨rfl,_,rfl, ?_⟩;rcases Decidable.em (dig a (383-k)=1)with h1|h1
  ·refine am<|ae (E:=EE [133])<|Mv O<|Bnr (v:=.bool true) O O (λw=>(bu _ _ _).trans (congrArg (λb=>Result.ok (Value.bool b) w) (beq_iff_eq.2 h1)))<|Mv O<|cG 2 O O O isAgg82 O O<|Mv O<|?_
   refine c9 ((hY.b (k:=(f7 a k).length) (XZ a k om h1) w).br R.l R.D R.rb R.Y R.W) (hR (Bi w (λY=>J Y ((f7 a k).length+1))) O (okJ _)).2.1 (hR (Bi w (λY=>Jx Y ((f7 a k).length+1))) O (okX _)).2.1 O O O O O ?_ ?_
   ·refine aU O (λ_=>aF _) O O<|Pk O O O<|aa<|aw O<|aq<|?_
    show∃L',_=Hp (R.b (Bi w (λY=>J Y (f7 a (k+1)).length))) L'/\kA L' [(2,b2,[.func (.yield l) #[] #[]],82),(33,c2,[.slice (spt bb) 6 6],67)];rw[u1 a k h1];exact ⟨_,rfl,trv⟩
   ·refine aU O (λ_=>aF _) O O<|Pk O O O<|aa<|aL O<|ak<|Rr<|?_
    show∃L',_=Hp (R.b (Bi w (λY=>Jx Y (f7 a (k+1)).length))) L'/\Code.ret=Code.ret;rw[u1 a k h1];exact ⟨_,rfl,rfl⟩
  ·refine am<|ae (E:=EE [133,3000000])<|Mv O<|Bnr (v:=.bool false) O O (λw=>(bu _ _ _).trans (congrArg (λb=>Result.ok (Value.bool b) w) (beq_eq_false_iff_ne.2 h1)))<|Mv O<|Sk<|Sk<|Sk<|Sk<|Pk O O O<|aa<|aw O<|aq<|?_
   show∃L',_=Hp (R.b (Bi w (λY=>J Y (f7 a (k+1)).length))) L'/\kA L' [(2,b2,[.func (.yield l) #[] #[]],82),(33,c2,[.slice (spt bb) 6 6],67)];rw[JY a k h1];exact ⟨_,rfl,trv⟩
 ·intro D _
  refine dr (.inr O) (hJ _) (cX O (λw hw=>⟨⟨_,rfl⟩,.inl ?_⟩));have:=bG (hJ _) hw.rid;rw[eZ]at this;rw[PZ];exact this
 ·intro D c j L' _ hc
  subst hc;exact dr (.inl O) (hJx _) (cX O (λw hw=>⟨⟨_,rfl⟩,.inr ⟨_,bG (hJx _) hw.rid⟩⟩))
section
attribute [local simp] J1.bk J2.bk Q6.eX Q6.fZ
attribute [local simp] iH wu
theorem oq(k:Zr)(w:World)(hw:Gt w):CLS 93 [RV k].toArray w (λe w'=> ∃b1,e=.returned (.func (.func 192) #[] #[pnt b1])/\Grow w w'/\w.heap.size<=b1/\OwnB w' b1 ((nr k).map U64) 25):=by
 refine Hf func93 O hw<|λhGF=>ae (E:=EE [143])<|Bx 1 hGF O<|λb1=>Asg O<|aa<|ae (E:=EE [143])<|Fa 0 O underlying27 O sizeOf25<|La 1 O O bT<|?_;refine dp O O ent143 O O (λw' hw'=>(yo (nr k) sm w' (hGF.g _ _ _ hw')).mono λe' w'' h=> ?_);obtain ⟨c1,rfl,hg,h1,ho⟩:=h;refine ⟨_,_,rfl,ay hGF,hw'.news ap hg [(33,c1,(nr k).map U64,25)] ?_ bR, ?_⟩
 ·intro n' b' c' t' hl
  rcases aK hl with ⟨_,e⟩|⟨_,hl⟩
  ·cases e;exact ⟨h1,ho⟩
  ·cases hl
 clear hw' hg h1 ho;refine Asg O<|aa<|ak<|Rr<|?_;exact aO O O (λw hw=>⟨c1,rfl,ac hw,(hw.own 33 c1 _ _ O).2.elim id False.elim,(hw.own 33 c1 _ _ O).1⟩)
def dg(a:L6)(m:Nat):Bool:=decide (dig a (383-m)=1)
theorem Au(a:L6): ∀m,f7 a m=oL (dg a) 384 m
 |0=>rfl
 |m+1=>by
  rw[f7,oL,Au a m];by_cases h:dig a (383-m)=1
  ·rw[if_pos h,if_pos (show dg a m=true from decide_eq_true h)]
  ·rw[if_neg h,if_neg (show¬dg a m=true from λe=>h (of_decide_eq_true e))]
theorem S7(a:L6)(m:Nat)(hm:m<384):dg a m=true↔V a 6 / 2^(384-1-m) % 2=1:=by
 have e:=uC a 6 (383-m) om;rw[show 384-1-m=383-m from by omega,<-e]
 constructor
 ·intro h
  have h2:dig a (383-m)=1:=of_decide_eq_true h;rw[h2];rfl
 ·intro h
  refine decide_eq_true (BitVec.eq_of_toNat_eq ?_);rw[h];rfl
theorem D9{a:L6}{N:Nat}(hN:N=384)(h:V a 6<2^N):SOg (oL (dg a) N N)=V a 6:=by
 rw[yw];exact TX h (λm hm=>by subst hN;exact S7 a m hm)
def onK(k:Zr):List Nat:=f7 (nr k) 384
theorem Ih(k:Zr){N:Nat}(hN:N=384):onK k=oL (dg (nr k)) N N:=by
 subst hN;exact Au (nr k) 384
theorem Ub(k:Zr){N:Nat}(hN:N=384):V (nr k) 6<2^N:=by
 have h:=rR (nr k) 6;rw[show 64*6=N from hN.symm]at h;exact h
theorem z5(k:Zr){N:Nat}(hN:N=384):SOg (onK k)=k.val:=by rw[Ih k hN,D9 hN (Ub k hN),K3]
theorem Dr(k:Zr){N:Nat}(hN:N=384):(onK k).Pairwise (λa b=>b<=a):=by rw[Ih k hN];exact wy _ _ _ (Nat.le_refl _)
theorem Eb(k:Zr){N:Nat}(hN:N=384){b:Nat}(h:b∈onK k):b<100000000:=by
 rw[Ih k hN]at h;have:=Ix h (Nat.le_refl _);omega
theorem vA{b:Nat}{c:List Value}{w w':World}(h:w.rangeAt b 0 c)(hg:Grow w w'):w'.rangeAt b 0 c:=λj v hv=>(hg.cell (block_lt_of_cell (h j v hv))).trans (h j v hv)
namespace J1
theorem tC(c1:Nat)(k:Zr){L:List Nat}(hL:onK k=L):eS prog Gt 192 [pnt c1] (NLs L) (λW=>W.rangeAt c1 0 ((nr k).map U64)):=by
 subst hL;exact u9 c1 (nr k) (iH k)
theorem xq(p:GP)(k:Zr){L:List Nat}(hL:onK k=L)(hb: ∀b∈L,b<100000000):PUR 43 [PtV p,RV k] (JV (tmF p.J L)):=by
 intro w hw;refine Hf func43 O hw<|λhGF=>ae (E:=EE [93,2000093])<|Bx 2 hGF O<|λb2=>Bx 3 hGF O<|λb3=>Al 4 hGF zv54<|λb4=>aa<|Xd [93,2000093]<|La 2 O O bV<|La 3 O O nU<|?_;refine bM O O ent93 O O (λw' hw'=>(oq k w' (hGF.g _ _ _ hw')).mono λe' w'' h=> ?_);obtain ⟨c1,rfl,hg,h1,ho⟩:=h;refine ⟨_,_,rfl,ay hGF,hw'.news ap hg [(33,c1,(nr k).map U64,25)] ?_ bR,bN ap O, ?_⟩
 ·intro n' b' c' t' hl
  rcases aK hl with ⟨_,e⟩|⟨_,hl⟩
  ·cases e;exact ⟨h1,ho⟩
  ·cases hl
 clear hw' hg h1 ho;refine Cc O ent92 (λw' hC hG=>fM p.J 192 [pnt c1] L (λW=>W.rangeAt c1 0 ((nr k).map U64)) ent192 (tC c1 k hL) hb w' hG (λw'' hg=>vA (aX (n:=33) O w' hC) hg))<|Sa 4 hGF O O O bV<|aa<|ak<|Rr<|?_;exact au 4 O O O isAgg54 sizeOf54 sm (λw hw=>⟨rfl,ac hw⟩)
theorem yx{x:Zp×Zp×Zp}{P:Pt Zp}(hP:E1.onP P)(hx:E1.jr x P)(k:Zr):E1.jr (tmF x (onK k)) (E1.times P k.val):=by
 rw[<-z5 k O];exact tmF_jr hP hx (Dr k O)
def r7(p:GP)(k:Zr):GP:=⟨tmF p.J (onK k),E1.times p.P k.val,E1.times_on p.on _,yx p.on p.jr k⟩
theorem un(p:GP)(k:Zr):PUR 43 [PtV p,RV k] (PtV (r7 p k)):=xq p k O (λ_ h=>Eb k O h)
end J1
namespace J2
theorem tC(c1:Nat)(k:Zr){L:List Nat}(hL:onK k=L):eS prog Gt 192 [pnt c1] (NLs L) (λW=>W.rangeAt c1 0 ((nr k).map U64)):=by
 subst hL;exact u9 c1 (nr k) (iH k)
theorem xq(p:GP)(k:Zr){L:List Nat}(hL:onK k=L)(hb: ∀b∈L,b<100000000):PUR 46 [PtV p,RV k] (EV6 (E2w.tmF p.J L)):=by
 intro w hw;refine Hf func46 O hw<|λhGF=>ae (E:=EE [93,2000093])<|Bx 2 hGF O<|λb2=>Bx 3 hGF O<|λb3=>Al 4 hGF zv94<|λb4=>aa<|Xd [93,2000093]<|La 2 O O cf<|La 3 O O nU<|?_;refine bM O O ent93 O O (λw' hw'=>(oq k w' (hGF.g _ _ _ hw')).mono λe' w'' h=> ?_);obtain ⟨c1,rfl,hg,h1,ho⟩:=h;refine ⟨_,_,rfl,ay hGF,hw'.news ap hg [(33,c1,(nr k).map U64,25)] ?_ bR,bN ap O, ?_⟩
 ·intro n' b' c' t' hl
  rcases aK hl with ⟨_,e⟩|⟨_,hl⟩
  ·cases e;exact ⟨h1,ho⟩
  ·cases hl
 clear hw' hg h1 ho;refine Cc O ent98 (λw' hC hG=>fM p.J 192 [pnt c1] L (λW=>W.rangeAt c1 0 ((nr k).map U64)) ent192 (tC c1 k hL) hb w' hG (λw'' hg=>vA (aX (n:=33) O w' hC) hg))<|Sa 4 hGF O O O cf<|aa<|ak<|Rr<|?_;exact au 4 O O O isAgg94 sizeOf94 sm (λw hw=>⟨rfl,ac hw⟩)
theorem yx{x:W6}{P:Pt W2}(hP:E2w.onP P)(hx:E2w.jr x P)(k:Zr):E2w.jr (E2w.tmF x (onK k)) (E2w.times P k.val):=by
 rw[<-z5 k O];exact E2w.tmF_jr hP hx (Dr k O)
def r7(p:GP)(k:Zr):GP:=⟨E2w.tmF p.J (onK k),E2w.times p.P k.val,E2w.times_on p.on _,yx p.on p.jr k⟩
theorem un(p:GP)(k:Zr):PUR 46 [PtV p,RV k] (PtV (r7 p k)):=xq p k O (λ_ h=>Eb k O h)
end J2
end
theorem ent282:ai prog 282:=λ_ _=>kr
theorem ent283:ai prog 283:=λ_ _=>kr
theorem ent296:ai prog 296:=λ_ _=>kr
theorem ent293:ai prog 293:=λ_ _=>kr
theorem ent297:ai prog 297:=λ_ _=>kr
theorem ent303:ai prog 303:=λ_ _=>kr
namespace Sh
theorem zv106(w:World):(zeroValue 106).run prog w=.ok (.agg ((List.replicate 64 (0#32)).map U32).toArray) w:=(zeroValue106 w).trans rr
theorem zv105(w:World):(zeroValue 105).run prog w=.ok (.agg ((List.replicate 8 (0#32)).map U32).toArray) w:=(zeroValue105 w).trans rr
theorem zv313(w:World):(zeroValue 313).run prog w=.ok (.agg ((List.replicate 64 (0#8)).map U8).toArray) w:=(zeroValue313 w).trans rr
theorem zv112(w:World):(zeroValue 112).run prog w=.ok (.agg ((List.replicate 32 (0#8)).map U8).toArray) w:=(zeroValue112 w).trans rr
def mH(x:BitVec 32)(k:Int):BitVec 32:=(x<<<(BitVec.ofInt 64 k &&& 31#64).toNat)|||(x>>>(32#64-(BitVec.ofInt 64 k &&& 31#64)).toNat)
theorem d9(x:BitVec 32)(k:Int):PUR 306 [U32 x,I k] (U32 (mH x k)):=by
 intro w hw;refine Hf func306 O hw<|λhGF=>Xp<|Asg O<|aa<|Xp<|Mv O<|cu O O (λ_=>iB underlying3 underlying216 _) O O<|Bnr O O (λ_=>fI _ _ _)<|Asg O<|aa<|Xp<|Mv O<|Mv O<|Bnr O O (λ_=>iV _ _ _)<|Mv O<|Mv O<|Bnr O O (λ_=>gM _ _ _)<|Bnr O O (λ_=>fG _ _ _)<|Bnr O O (λ_=>jK _ _ _)<|Asg O<|aa<|ak<|Rr<|?_;exact aO O O (λw hw=>⟨rfl,ac hw⟩)
def turn(x:BitVec 32)(n:Nat):BitVec 32:=(x>>>n)|||(x<<<(32-n))
def wH(x:BitVec 32):BitVec 32:=mH x (-6)^^^mH x (-11)^^^mH x (-25)
theorem Cs(x:BitVec 32):PUR 301 [U32 x] (U32 (wH x)):=by
 intro w hw;refine Hf func301 O hw<|λhGF=>Xp<|Asg O<|aa<|Xp<|Mv O<|Ca O (d9 _ _)<|Mv O<|Ca O (d9 _ _)<|Bnr O O (λ_=>cS _ _ _)<|Mv O<|Ca O (d9 _ _)<|Bnr O O (λ_=>cS _ _ _)<|Asg O<|aa<|ak<|Rr<|?_;exact aO O O (λw hw=>⟨rfl,ac hw⟩)
def HI(x:BitVec 32):BitVec 32:=mH x (-2)^^^mH x (-13)^^^mH x (-22)
theorem CO(x:BitVec 32):PUR 302 [U32 x] (U32 (HI x)):=by
 intro w hw;refine Hf func302 O hw<|λhGF=>Xp<|Asg O<|aa<|Xp<|Mv O<|Ca O (d9 _ _)<|Mv O<|Ca O (d9 _ _)<|Bnr O O (λ_=>cS _ _ _)<|Mv O<|Ca O (d9 _ _)<|Bnr O O (λ_=>cS _ _ _)<|Asg O<|aa<|ak<|Rr<|?_;exact aO O O (λw hw=>⟨rfl,ac hw⟩)
def LH(x:BitVec 32):BitVec 32:=mH x (-7)^^^mH x (-18)^^^(x>>>3)
theorem Ct(x:BitVec 32):PUR 305 [U32 x] (U32 (LH x)):=by
 intro w hw;refine Hf func305 O hw<|λhGF=>Xp<|Asg O<|aa<|Xp<|Mv O<|Ca O (d9 _ _)<|Mv O<|Ca O (d9 _ _)<|Bnr O O (λ_=>cS _ _ _)<|Mv O<|Bnr O O (λ_=>fG _ _ _)<|Bnr O O (λ_=>cS _ _ _)<|Asg O<|aa<|ak<|Rr<|?_;exact aO O O (λw hw=>⟨rfl,ac hw⟩)
def Jr(x:BitVec 32):BitVec 32:=mH x (-17)^^^mH x (-19)^^^(x>>>10)
theorem Cr(x:BitVec 32):PUR 304 [U32 x] (U32 (Jr x)):=by
 intro w hw;refine Hf func304 O hw<|λhGF=>Xp<|Asg O<|aa<|Xp<|Mv O<|Ca O (d9 _ _)<|Mv O<|Ca O (d9 _ _)<|Bnr O O (λ_=>cS _ _ _)<|Mv O<|Bnr O O (λ_=>fG _ _ _)<|Bnr O O (λ_=>cS _ _ _)<|Asg O<|aa<|ak<|Rr<|?_;exact aO O O (λw hw=>⟨rfl,ac hw⟩)
end Sh
namespace Sh
def w4(bl:L8)(i:Nat):BitVec 32:=((bl.getD (4*i) 0).setWidth 32<<<24)|||((bl.getD (4*i+1) 0).setWidth 32<<<16)|||((bl.getD (4*i+2) 0).setWidth 32<<<8)|||(bl.getD (4*i+3) 0).setWidth 32
def W1(bl:L8):Nat->L3
 |0=>List.replicate 64 0#32
 |k+1=>(W1 bl k).set k (w4 bl k)
theorem zj(bl:L8): ∀k,(W1 bl k).length=64
 |0=>by simp[W1]
 |k+1=>by simp[W1,zj bl k]
def w5(ws:L3)(i:Nat):BitVec 32:=Jr (ws.getD (i-2) 0)+ws.getD (i-7) 0+LH (ws.getD (i-15) 0)+ws.getD (i-16) 0
def W2(bl:L8):Nat->L3
 |0=>W1 bl 16
 |k+1=>(W2 bl k).set (16+k) (w5 (W2 bl k) (16+k))
theorem gQ(bl:L8): ∀k,(W2 bl k).length=64
 |0=>zj bl 16
 |k+1=>by simp[W2,gQ bl k]
theorem yc(bl:L8)(hb:bl.length=64):PUR 300 [.agg (bl.map U8).toArray] (.agg ((W2 bl 48).map U32).toArray):=by
 intro w hw;refine Hf func300 O hw<|λhGF=>Xp<|Bx 1 hGF O<|λb1=>Al 2 hGF zv106<|λb2=>aa<|Xp<|Al 3 hGF zv106<|λb3=>aa<|ah<|Xp<|Mv O<|aa<|am<|cb (ι:={i:Nat // i<=16}) (λx=>[(6,I (x.1:Int)),(1,pnt b1),(2,pnt b2),(3,pnt b3)]) (λx=>[(3,b3,(W1 bl x.1).map U32,106),(2,b2,(List.replicate 64 (0#32)).map U32,106),(1,b1,bl.map U8,313)]) (λx=>16-x.1) ⟨0,om⟩ hGF trv trv<|?_;rintro ⟨i,hi⟩;dsimp only;refine Xp<|Bnr O O (λ_=>aC _ _ _)<|aa<|ah<|?_;refine bE O (λhc=> ?_) (λhc=> ?_)
 ·simp only[decide_eq_true_eq]at hc
  refine aq<|ah<|am<|Xp<|Mv O<|Asg O<|aa<|Xe []<|Mv O<|Mv O<|Bnr O O (λ_=>bJ _ _ _ oi)<|Ia ((4*i)) O O underlying313 sizeOf5<|Lm 1 U8 0 O O isAgg5 (by rw[hb];omega)<|cu O O (λ_=>iT underlying5 underlying104 _) O O<|Bnr O O (λ_=>iV _ _ _)<|Mv O<|Bnr O O (λ_=>bJ _ _ _ oi)<|Bnr O O (λ_=>az _ _ _ oi)<|Ia (((4*i)+1)) O O underlying313 sizeOf5<|Lm 1 U8 0 O O isAgg5 (by rw[hb];omega)<|cu O O (λ_=>iT underlying5 underlying104 _) O O<|Bnr O O (λ_=>iV _ _ _)<|Bnr O O (λ_=>jK _ _ _)<|Mv O<|Bnr O O (λ_=>bJ _ _ _ oi)<|Bnr O O (λ_=>az _ _ _ oi)<|Ia (((4*i)+2)) O O underlying313 sizeOf5<|Lm 1 U8 0 O O isAgg5 (by rw[hb];omega)<|cu O O (λ_=>iT underlying5 underlying104 _) O O<|Bnr O O (λ_=>iV _ _ _)<|Bnr O O (λ_=>jK _ _ _)<|Mv O<|Bnr O O (λ_=>bJ _ _ _ oi)<|Bnr O O (λ_=>az _ _ _ oi)<|Ia (((4*i)+3)) O O underlying313 sizeOf5<|Lm 1 U8 0 O O isAgg5 (by rw[hb];omega)<|cu O O (λ_=>iT underlying5 underlying104 _) O O<|Bnr O O (λ_=>jK _ _ _)<|Ia (i) O O underlying106 sizeOf104<|bc 3 U32 hGF O O O sizeOf104 O (by rw[zj];omega) O<|?_
  exact aa<|Xq<|Bnr O O (λ_=>az _ _ _ oi)<|Mv O<|aa<|aQ<|⟨rfl,⟨i+1,om⟩,_,by show 16-(i+1)<16-i;omega,rfl,trv,trv⟩
 ·obtain rfl:i=16:=by simp at hc;omega
  refine a6<|ah<|Xp<|Asg O<|aa<|am<|cb (ι:={i:Nat // i<=48}) (λx=>[(5,I ((16+x.1:Nat):Int)),(2,pnt b2),(3,pnt b3)]) (λx=>[(3,b3,(W2 bl x.1).map U32,106),(2,b2,(List.replicate 64 (0#32)).map U32,106)]) (λx=>48-x.1) ⟨0,om⟩ hGF trv trv<|?_;rintro ⟨j,hj⟩;dsimp only;refine ah<|Xp<|Mv O<|Bnr O O (λ_=>aC _ _ _)<|aa<|?_;refine bE O (λhc=> ?_) (λhc=> ?_)
  ·simp only[decide_eq_true_eq]at hc
   exact aq<|ah<|am<|Xe []<|Mv O<|Mv O<|Bnr O O (λ_=>bf _ _ _ oi)<|Ia (((16+j)-2)) O O underlying106 sizeOf104<|Lm 3 U32 0 O O isAgg104 (by rw[gQ];omega)<|Ca O (Cr _)<|Mv O<|Bnr O O (λ_=>bf _ _ _ oi)<|Ia (((16+j)-7)) O O underlying106 sizeOf104<|Lm 3 U32 0 O O isAgg104 (by rw[gQ];omega)<|Bnr O O (λ_=>bP _ _ _)<|Mv O<|Bnr O O (λ_=>bf _ _ _ oi)<|Ia (((16+j)-15)) O O underlying106 sizeOf104<|Lm 3 U32 0 O O isAgg104 (by rw[gQ];omega)<|Ca O (Ct _)<|Bnr O O (λ_=>bP _ _ _)<|Mv O<|Bnr O O (λ_=>bf _ _ _ oi)<|Ia (((16+j)-16)) O O underlying106 sizeOf104<|Lm 3 U32 0 O O isAgg104 (by rw[gQ];omega)<|Bnr O O (λ_=>bP _ _ _)<|Ia ((16+j)) O O underlying106 sizeOf104<|bc 3 U32 hGF O O O sizeOf104 O (by rw[gQ];omega) O<|aa<|Xq<|Mv O<|Bnr O O (λ_=>az _ _ _ oi)<|Asg O<|aa<|aQ<|⟨rfl,⟨j+1,om⟩,_,by show 48-(j+1)<48-j;omega,rfl,trv,trv⟩
  ·obtain rfl:j=48:=by simp at hc;omega
   refine a6<|Xp<|Lw 3 O O AC (gQ _ _)<|Sx 2 hGF O O O AC (gQ _ _) (iR _)<|aa<|ak<|Rr<|?_;exact au 2 O O O isAgg106 sizeOf106 (by rw[List.length_map,gQ]) (λw hw=>⟨rfl,ac hw⟩)
theorem gk{B:Bs}{L:Hl}{Y:Nat->Prop}(hw:Gt B.w0)(hM: ¬B.M 7)(k:Nat)(hk:k<64): ∀w,Hq B L Y w->w.cell? ⟨7,k,none⟩=some (U32 (KW.getD k 0)):=by
 have:=hw.g7 k _ (gm U32 KW 0 k hk);rw[Nat.zero_add]at this;exact nP this hM
structure V8 where
 (a b c d e f g h:BitVec 32)
def rnd(v:V8)(k w:BitVec 32):V8:=
 ⟨(v.h+wH v.e+(v.e &&& v.f^^^ ~~~v.e &&& v.g)+k+w)+(HI v.a+(v.a &&& v.b^^^v.a &&& v.c^^^v.b &&& v.c)),v.a,v.b,v.c,v.d+(v.h+wH v.e+(v.e &&& v.f^^^ ~~~v.e &&& v.g)+k+w),v.e,v.f,v.g⟩
def oW(v:V8)(ws:L3):Nat->V8
 |0=>v
 |k+1=>rnd (oW v ws k) (KW.getD k 0) (ws.getD k 0)
def v8(st:L3):V8:=⟨st.getD 0 0,st.getD 1 0,st.getD 2 0,st.getD 3 0,st.getD 4 0,st.getD 5 0,st.getD 6 0,st.getD 7 0⟩
def YB(st:L3)(v:V8):L3:=[st.getD 0 0+v.a,st.getD 1 0+v.b,st.getD 2 0+v.c,st.getD 3 0+v.d,st.getD 4 0+v.e,st.getD 5 0+v.f,st.getD 6 0+v.g,st.getD 7 0+v.h]
def uZ(st:L3)(bl:L8):L3:=YB st (oW (v8 st) (W2 bl 48) 64)
theorem sU(st:L3)(bl:L8)(hs:st.length=8)(hb:bl.length=64):PUR 294 [.agg (st.map U32).toArray,.agg (bl.map U8).toArray] (.agg ((uZ st bl).map U32).toArray):=by
 intro w hw;refine Hf func294 O hw<|λhGF=>Xp<|Bx 2 hGF O<|λb2=>Bx 3 hGF O<|λb3=>Al 4 hGF zv105<|λb4=>aa<|Xp<|Lw 3 O O B3 hb<|Ca O (yc _ hb)<|Al 5 hGF zv106<|λb5=>Sx 5 hGF O O O AC (gQ _ _) (iR _)<|aa<|Xd []<|Ia (0) O O underlying105 sizeOf104<|Lm 2 U32 0 O O isAgg104 (by rw[hs];omega)<|Ia (1) O O underlying105 sizeOf104<|Lm 2 U32 0 O O isAgg104 (by rw[hs];omega)<|Ia (2) O O underlying105 sizeOf104<|Lm 2 U32 0 O O isAgg104 (by rw[hs];omega)<|Ia (3) O O underlying105 sizeOf104<|Lm 2 U32 0 O O isAgg104 (by rw[hs];omega)<|Asg O<|Asg O<|Asg O<|Asg O<|aa<|Xd []<|Ia (4) O O underlying105 sizeOf104<|Lm 2 U32 0 O O isAgg104 (by rw[hs];omega)<|Ia (5) O O underlying105 sizeOf104<|Lm 2 U32 0 O O isAgg104 (by rw[hs];omega)<|Ia (6) O O underlying105 sizeOf104<|Lm 2 U32 0 O O isAgg104 (by rw[hs];omega)<|Ia (7) O O underlying105 sizeOf104<|Lm 2 U32 0 O O isAgg104 (by rw[hs];omega)<|Asg O<|Asg O<|Asg O<|Asg O<|aa<|?_
 refine ah<|Xp<|Lw 5 O O AC (gQ _ _)<|Mv O<|aa<|am<|cb (ι:={i:Nat // i<=64}) (λx=>[(39,I (x.1:Int)),(2,pnt b2),(4,pnt b4),(6,U32 (oW (v8 st) (W2 bl 48) x.1).a),(7,U32 (oW (v8 st) (W2 bl 48) x.1).b),(8,U32 (oW (v8 st) (W2 bl 48) x.1).c),(9,U32 (oW (v8 st) (W2 bl 48) x.1).d),(10,U32 (oW (v8 st) (W2 bl 48) x.1).e),(11,U32 (oW (v8 st) (W2 bl 48) x.1).f),(12,U32 (oW (v8 st) (W2 bl 48) x.1).g),(13,U32 (oW (v8 st) (W2 bl 48) x.1).h),(38,.agg ((W2 bl 48).map U32).toArray)]) (λx=>[(2,b2,st.map U32,105),(4,b4,(List.replicate 8 (0#32)).map U32,105)]) (λx=>64-x.1) ⟨0,om⟩ hGF trv trv<|?_;rintro ⟨i,hi⟩;dsimp only;refine Xp<|Bnr O O (λ_=>aC _ _ _)<|aa<|ah<|?_;refine bE O (λhc=> ?_) (λhc=> ?_)
 ·simp only[decide_eq_true_eq]at hc
  refine aq<|ah<|am<|Xp<|Mv O<|jP U32 0 (i) O O underlying106 sizeOf104 isAgg104 om om (gQ _ _) O O<|Asg O<|Asg O<|aa<|Xp<|Mv O<|Mv O<|Bnr O O (λ_=>gF _ _ _)<|Mv O<|aU O (λ_=>yZ _) O O<|Mv O<|Bnr O O (λ_=>gF _ _ _)<|Bnr O O (λ_=>cS _ _ _)<|Asg O<|aa<|Xd []<|Mv O<|Mv O<|Ca O (Cs _)<|Bnr O O (λ_=>bP _ _ _)<|Mv O<|Bnr O O (λ_=>bP _ _ _)<|Mv O<|Ia (i) O O underlying106 sizeOf104<|bp O isAgg104 (gk (B:=pl w) hw (λh=>h) (i) om) O O<|Bnr O O (λ_=>bP _ _ _)<|Mv O<|Bnr O O (λ_=>bP _ _ _)<|Asg O<|aa<|Xp<|Mv O<|Mv O<|Bnr O O (λ_=>gF _ _ _)<|Mv O<|?_;refine Mv O<|Bnr O O (λ_=>gF _ _ _)<|Bnr O O (λ_=>cS _ _ _)<|Mv O<|Mv O<|Bnr O O (λ_=>gF _ _ _)<|Bnr O O (λ_=>cS _ _ _)<|Asg O<|aa<|Xp<|Mv O<|Ca O (CO _)<|Mv O<|Bnr O O (λ_=>bP _ _ _)<|Asg O<|aa<|Xp<|Mv O<|Mv O<|Mv O<|Mv O<|Mv O<|Bnr O O (λ_=>bP _ _ _)<|Asg O<|Asg O<|Asg O<|Asg O<|aa<|Xq<|Mv O<|Mv O<|Mv O<|Mv O<|Mv O<|Bnr O O (λ_=>bP _ _ _)<|Asg O<|Asg O<|Asg O<|Asg O<|aa<|?_;exact Xq<|Bnr O O (λ_=>az _ _ _ oi)<|Mv O<|aa<|aQ<|⟨rfl,⟨i+1,om⟩,_,by show 64-(i+1)<64-i;omega,rfl,trv,trv⟩
 ·obtain rfl:i=64:=by simp at hc;omega
  refine a6<|Xp<|Ia (0) O O underlying105 sizeOf104<|Lm 2 U32 0 O O isAgg104 (by rw[hs];omega)<|Mv O<|Bnr O O (λ_=>bP _ _ _)<|Ia (1) O O underlying105 sizeOf104<|Lm 2 U32 0 O O isAgg104 (by rw[hs];omega)<|Mv O<|Bnr O O (λ_=>bP _ _ _)<|Ia (2) O O underlying105 sizeOf104<|Lm 2 U32 0 O O isAgg104 (by rw[hs];omega)<|Mv O<|Bnr O O (λ_=>bP _ _ _)<|Ia (3) O O underlying105 sizeOf104<|Lm 2 U32 0 O O isAgg104 (by rw[hs];omega)<|Mv O<|Bnr O O (λ_=>bP _ _ _)<|Ia (4) O O underlying105 sizeOf104<|Lm 2 U32 0 O O isAgg104 (by rw[hs];omega)<|Mv O<|Bnr O O (λ_=>bP _ _ _)<|Ia (5) O O underlying105 sizeOf104<|Lm 2 U32 0 O O isAgg104 (by rw[hs];omega)<|Mv O<|Bnr O O (λ_=>bP _ _ _)<|Ia (6) O O underlying105 sizeOf104<|Lm 2 U32 0 O O isAgg104 (by rw[hs];omega)<|Mv O<|Bnr O O (λ_=>bP _ _ _)<|Ia (7) O O underlying105 sizeOf104<|Lm 2 U32 0 O O isAgg104 (by rw[hs];omega)<|Mv O<|Bnr O O (λ_=>bP _ _ _)<|gg (n:=8) O O underlying105 sizeOf104 zeroValue105 O O O O<|aA 4 hGF O O O sizeOf105 O (by rw[List.length_map,List.length_replicate]) O O<|aa<|ak<|Rr<|?_
  exact au 4 O O O isAgg105 sizeOf105 O (λw hw=>⟨rfl,ac hw⟩)
def IV:L3:=[0x6a09e667#32,0xbb67ae85#32,0x3c6ef372#32,0xa54ff53a#32,0x510e527f#32,0x9b05688c#32,0x1f83d9ab#32,0x5be0cd19#32]
theorem yB  :PUR 299 [] (.agg (IV.map U32).toArray):=by
 intro w hw;refine Hf func299 O hw<|λhGF=>Xp<|Al 0 hGF zv105<|λb0=>aa<|Xp<|gg (n:=8) O O underlying105 sizeOf104 zeroValue105 O O O O<|aA 0 hGF O O O sizeOf105 O (by rw[List.length_map,List.length_replicate]) O O<|aa<|ak<|Rr<|?_
 exact au 0 O O O isAgg105 sizeOf105 O (λw hw=>⟨rfl,ac hw⟩)
def DG(st:L3):Nat->L8
 |0=>List.replicate 32 0#8
 |k+1=>((((DG st k).set (4*k) ((st.getD k 0>>>24).setWidth 8)).set (4*k+1) ((st.getD k 0>>>16).setWidth 8)).set (4*k+2) ((st.getD k 0>>>8).setWidth 8)).set (4*k+3) ((st.getD k 0).setWidth 8)
theorem eZ(st:L3): ∀k,(DG st k).length=32
 |0=>by simp[DG]
 |k+1=>by simp[DG,eZ st k]
theorem vL(st:L3)(hs:st.length=8):PUR 295 [.agg (st.map U32).toArray] (.agg ((DG st 8).map U8).toArray):=by
 intro w hw;refine Hf func295 O hw<|λhGF=>Xp<|Bx 1 hGF O<|λb1=>Al 2 hGF zv112<|λb2=>aa<|Xp<|Al 3 hGF zv112<|λb3=>aa<|ah<|Xp<|Lw 1 O O ol hs<|Mv O<|aa<|am<|cb (ι:={i:Nat // i<=8}) (λx=>[(7,I (x.1:Int)),(2,pnt b2),(3,pnt b3),(6,.agg (st.map U32).toArray)]) (λx=>[(3,b3,(DG st x.1).map U8,112),(2,b2,(List.replicate 32 (0#8)).map U8,112)]) (λx=>8-x.1) ⟨0,om⟩ hGF trv trv<|?_;rintro ⟨i,hi⟩;dsimp only;refine Xp<|Bnr O O (λ_=>aC _ _ _)<|aa<|ah<|?_;refine bE O (λhc=> ?_) (λhc=> ?_)
 ·simp only[decide_eq_true_eq]at hc
  refine aq<|ah<|am<|Xp<|Mv O<|jP U32 0 (i) O O underlying105 sizeOf104 isAgg104 om om (hs) O O<|Asg O<|Asg O<|aa<|Xp<|Mv O<|Bnr O O (λ_=>bJ _ _ _ oi)<|Mv O<|Bnr O O (λ_=>fG _ _ _)<|cu O O (λ_=>iM underlying104 underlying5 _) O O<|Ia ((4*i)) O O underlying112 sizeOf5<|bc 3 U8 hGF O O O sizeOf5 O (by simp[eZ];omega) O<|aa<|Xp<|Mv O<|Bnr O O (λ_=>bJ _ _ _ oi)<|Bnr O O (λ_=>az _ _ _ oi)<|Mv O<|Bnr O O (λ_=>fG _ _ _)<|cu O O (λ_=>iM underlying104 underlying5 _) O O<|Ia (((4*i)+1)) O O underlying112 sizeOf5<|bc 3 U8 hGF O O O sizeOf5 O (by simp[eZ];omega) O<|aa<|Xp<|Mv O<|Bnr O O (λ_=>bJ _ _ _ oi)<|Bnr O O (λ_=>az _ _ _ oi)<|Mv O<|Bnr O O (λ_=>fG _ _ _)<|cu O O (λ_=>iM underlying104 underlying5 _) O O<|Ia (((4*i)+2)) O O underlying112 sizeOf5<|bc 3 U8 hGF O O O sizeOf5 O (by simp[eZ];omega) O<|aa<|Xq<|Mv O<|?_
  exact Bnr O O (λ_=>bJ _ _ _ oi)<|Bnr O O (λ_=>az _ _ _ oi)<|Mv O<|cu O O (λ_=>iM underlying104 underlying5 _) O O<|Ia (((4*i)+3)) O O underlying112 sizeOf5<|bc 3 U8 hGF O O O sizeOf5 O (by simp[eZ];omega) O<|aa<|Xq<|Bnr O O (λ_=>az _ _ _ oi)<|Mv O<|aa<|aQ<|⟨rfl,⟨i+1,om⟩,_,by show 8-(i+1)<8-i;omega,rfl,trv,trv⟩
 ·obtain rfl:i=8:=by simp at hc;omega
  refine a6<|Xp<|Lw 3 O O vh (eZ _ _)<|Sx 2 hGF O O O vh (eZ _ _) (bL _)<|aa<|ak<|Rr<|?_;exact au 2 O O O isAgg112 sizeOf112 (by rw[List.length_map,eZ]) (λw hw=>⟨rfl,ac hw⟩)
end Sh
namespace Sh
theorem Fw:(prog.info? 5).map (·.size)=some 1:=kr
def e1(rs:L8):L8:=(rs++List.replicate (64-rs.length) 0#8).set rs.length 128#8
theorem EW(rs:L8)(h:rs.length<=64):(e1 rs).length=64:=by simp[e1];omega
def LB(bl:L8)(n:BitVec 64):Nat->L8
 |0=>bl
 |k+1=>(LB bl n k).set (56+k) (((8#64*n)>>>(56-8*(k:Int)).toNat).setWidth 8)
theorem wZ(bl:L8)(n:BitVec 64): ∀k,(LB bl n k).length=bl.length
 |0=>rfl
 |k+1=>by simp[LB,wZ bl n k]
theorem ue(rs:L8)(n:BitVec 64)(h:rs.length<=64)(k:Nat):(LB (e1 rs) n k).length=64:=by rw[wZ,EW rs h]
theorem uv(n:BitVec 64)(k:Nat):(LB (List.replicate 64 0#8) n k).length=64:=by rw[wZ];simp
def uK(br bn:Nat)(a:Option Addr)(cap:Nat)(rs:L8)(n:BitVec 64):Cls:=λW=>W.cell? ⟨br,0,none⟩=some (.slice a rs.length cap)/\W.cell? ⟨bn,0,none⟩=some (U64 n)/\BytesAt W a rs
def enc(bl:L8):List Value:=[.agg (bl.map U8).toArray]
theorem bG{J:(Nat->Prop)->World->Prop}(h:Rides J){L:Hl}{w:World}(hj:J (λb=>Yof L b\/False) w):J (λ_=>False) w:=h.less _ _ _ (λ_ h=>h.elim) hj
theorem CK(br bn:Nat)(a:Option Addr)(cap:Nat)(rs:L8)(n:BitVec 64)(h:rs.length<56):eS prog Gt 303 [pnt br,pnt bn] [enc (LB (e1 rs) n 8)] (uK br bn a cap rs n):=by
 intro l J Jx hJ hJx hRd hGx hY w hj;have okJ: ∀k,BOk Gt (Bi w (λY=>J Y k)):=λk=>⟨λ_ _ _ h=>(hRd _ _ _ h.rid).1,hJ k⟩;have okX: ∀k,BOk Gt (Bi w (λY=>Jx Y k)):=λk=>⟨λ_ _ _ h=>hGx _ _ _ h.rid,hJx k⟩;have c1: ∀k L w',Hp (Bi w (λY=>J Y k)) L w'->uK br bn a cap rs n w':=λk L w' h=>(hRd _ _ _ h.rid).2;refine ch (G:=Gt) func303 O O (Hp (Bi w (λY=>J Y 0)) []) (bZ (Bi w _) hj (hJ 0)) (ay (okJ 0))<|Xp<|Al 4 (okJ _) zv313<|λb4=>aa<|Xd []<|bB (l:=0) (h':=64) O underlying313 sizeOf5 O O om om O O<|bp O isAgg22 (λw h=>(c1 _ _ w h).1) O O<|dY 4 (okJ _) O O O underlying22 Fw (by show rs.length=Nat.min rs.length 64;exact (Nat.min_eq_left om).symm) (λw h=>(c1 _ _ w h).2.2) (by simp;omega) O O<|?_
 rw[tr rs 64 om];refine aa<|Xp<|bp O isAgg22 (λw h=>(c1 _ _ w h).1) O O<|bD O (λ_=>aV underlying22 _ _ _ _) O O<|Ia (rs.length) O O underlying313 sizeOf5<|bc 4 U8 (okJ _) O O O sizeOf5 O (by simp;omega) O<|aa<|ah<|Xp<|bp O isAgg22 (λw h=>(c1 _ _ w h).1) O O<|bD O (λ_=>aV underlying22 _ _ _ _) O O<|Bnr O O (λ_=>d8 _ _ _)<|aa<|aw (by show some (Value.bool (decide ((rs.length:Int)>=56)))=_;rw[decide_eq_false om])<|aq<|Xp<|bp O isAgg24 (λw h=>(c1 _ _ w h).2.1) O O<|Bnr O O (λ_=>cK _ _ _)<|Asg O<|aa<|ah<|Xp<|Mv O<|aa<|am<|cb (ι:={i:Nat // i<=8}) (λx=>[(23,I (x.1:Int)),(0,.func (.yield l) #[] #[]),(4,pnt b4),(5,U64 (8#64*n))]) (λx=>[(4,b4,(LB (e1 rs) n x.1).map U8,313)]) (λx=>8-x.1) ⟨0,om⟩ (okJ _) trv trv<|?_
 rintro ⟨i,hi⟩;dsimp only;refine Xp<|Bnr O O (λ_=>aC _ _ _)<|aa<|ah<|?_;refine bE O (λhc=> ?_) (λhc=> ?_)
 ·simp only[decide_eq_true_eq]at hc
  exact aq<|ah<|am<|Xp<|Mv O<|Asg O<|aa<|Xq<|Mv O<|Bnr O O (λ_=>az _ _ _ oi)<|Mv O<|Mv O<|Bnr O O (λ_=>bJ _ _ _ oi)<|Bnr O O (λ_=>bf _ _ _ oi)<|Bnr O O (λ_=>dZ _ _ _ om)<|cu O O (λ_=>gH underlying24 underlying5 _) O O<|Ia ((56+i)) O O underlying313 sizeOf5<|bc 4 U8 (okJ _) O O O sizeOf5 O (by rw[ue rs n om];omega) O<|aa<|Xq<|Bnr O O (λ_=>az _ _ _ oi)<|Mv O<|aa<|aQ<|⟨rfl,⟨i+1,om⟩,_,by show 8-(i+1)<8-i;omega,rfl,trv,trv⟩
 ·obtain rfl:i=8:=by simp at hc;omega
  refine a6<|Xq<|Mv O<|Lw 4 O O B3 (by rw[ue rs n om])<|?_
  refine c9 (hY.b (k:=0) O w) (okJ _) (okX _) O O O O O ?_ ?_
  ·exact aa<|cy O (λw hw=>⟨⟨_,rfl⟩,.inl (bG (hJ _) hw.rid)⟩)
  ·exact aa<|cy O (λw hw=>⟨⟨_,rfl⟩,.inr ⟨_,bG (hJx _) hw.rid⟩⟩)
theorem IJ(br bn:Nat)(a:Option Addr)(cap:Nat)(rs:L8)(n:BitVec 64)(h:56<=rs.length)(h2:rs.length<64):eS prog Gt 303 [pnt br,pnt bn] [enc (e1 rs),enc (LB (List.replicate 64 0#8) n 8)] (uK br bn a cap rs n):=by
 intro l J Jx hJ hJx hRd hGx hY w hj;have okJ: ∀k,BOk Gt (Bi w (λY=>J Y k)):=λk=>⟨λ_ _ _ h=>(hRd _ _ _ h.rid).1,hJ k⟩;have okX: ∀k,BOk Gt (Bi w (λY=>Jx Y k)):=λk=>⟨λ_ _ _ h=>hGx _ _ _ h.rid,hJx k⟩;have c1: ∀k L w',Hp (Bi w (λY=>J Y k)) L w'->uK br bn a cap rs n w':=λk L w' h=>(hRd _ _ _ h.rid).2;refine ch (G:=Gt) func303 O O (Hp (Bi w (λY=>J Y 0)) []) (bZ (Bi w _) hj (hJ 0)) (ay (okJ 0))<|Xp<|Al 4 (okJ _) zv313<|λb4=>aa<|Xd []<|bB (l:=0) (h':=64) O underlying313 sizeOf5 O O om om O O<|bp O isAgg22 (λw h=>(c1 _ _ w h).1) O O<|dY 4 (okJ _) O O O underlying22 Fw (by show rs.length=Nat.min rs.length 64;exact (Nat.min_eq_left om).symm) (λw h=>(c1 _ _ w h).2.2) (by simp;omega) O O<|?_
 rw[tr rs 64 om];refine aa<|Xp<|bp O isAgg22 (λw h=>(c1 _ _ w h).1) O O<|bD O (λ_=>aV underlying22 _ _ _ _) O O<|Ia (rs.length) O O underlying313 sizeOf5<|bc 4 U8 (okJ _) O O O sizeOf5 O (by simp;omega) O<|aa<|ah<|Xp<|bp O isAgg22 (λw h=>(c1 _ _ w h).1) O O<|bD O (λ_=>aV underlying22 _ _ _ _) O O<|Bnr O O (λ_=>d8 _ _ _)<|aa<|aL (by show some (Value.bool (decide ((rs.length:Int)>=56)))=_;rw[decide_eq_true om])<|ah<|Xp<|Mv O<|bO 4 O O isAgg313 sizeOf313 (by simp;omega) O O<|?_
 refine c9 (hY.b (k:=0) O w) (okJ _) (okX _) O O O O O ?_ ?_
 ·refine aU O (λ_=>aF _) O O<|aa<|aw O<|aq<|Xq<|fC zv313 underlying313 sizeOf5 O O<|aA 4 (okJ _) O O O sizeOf313 (by rw[List.length_map,List.length_replicate]) (by simp;omega) (bL _) O<|aa<|Xp<|bp O isAgg24 (λw h=>(c1 _ _ w h).2.1) O O<|Bnr O O (λ_=>cK _ _ _)<|Asg O<|aa<|ah<|Xp<|Mv O<|aa<|am<|cb (ι:={i:Nat // i<=8}) (λx=>[(23,I (x.1:Int)),(0,.func (.yield l) #[] #[]),(4,pnt b4),(5,U64 (8#64*n))]) (λx=>[(4,b4,(LB (List.replicate 64 0#8) n x.1).map U8,313)]) (λx=>8-x.1) ⟨0,om⟩ (okJ _) trv trv<|?_
  rintro ⟨i,hi⟩;dsimp only;refine Xp<|Bnr O O (λ_=>aC _ _ _)<|aa<|ah<|?_;refine bE O (λhc=> ?_) (λhc=> ?_)
  ·simp only[decide_eq_true_eq]at hc
   exact aq<|ah<|am<|Xp<|Mv O<|Asg O<|aa<|Xq<|Mv O<|Bnr O O (λ_=>az _ _ _ oi)<|Mv O<|Mv O<|Bnr O O (λ_=>bJ _ _ _ oi)<|Bnr O O (λ_=>bf _ _ _ oi)<|Bnr O O (λ_=>dZ _ _ _ om)<|cu O O (λ_=>gH underlying24 underlying5 _) O O<|Ia ((56+i)) O O underlying313 sizeOf5<|bc 4 U8 (okJ _) O O O sizeOf5 O (by rw[uv];omega) O<|aa<|Xq<|Bnr O O (λ_=>az _ _ _ oi)<|Mv O<|aa<|aQ<|⟨rfl,⟨i+1,om⟩,_,by show 8-(i+1)<8-i;omega,rfl,trv,trv⟩
  ·obtain rfl:i=8:=by simp at hc;omega
   refine a6<|Xq<|Mv O<|Lw 4 O O B3 (uv _ _)<|?_;refine c9 (hY.b (k:=1) O w) (okJ _) (okX _) O O O O O ?_ ?_
   ·exact aa<|cy O (λw hw=>⟨⟨_,rfl⟩,.inl (bG (hJ _) hw.rid)⟩)
   ·exact aa<|cy O (λw hw=>⟨⟨_,rfl⟩,.inr ⟨_,bG (hJx _) hw.rid⟩⟩)
 ·refine aU O (λ_=>aF _) O O<|aa<|aL O<|ak<|Rr<|?_
  exact cX O (λw hw=>⟨⟨_,rfl⟩,.inr ⟨_,bG (hJx _) hw.rid⟩⟩)
end Sh
namespace Sh
def fO(rs:L8)(n:BitVec 64):List L8:=if rs.length<56 then [LB (e1 rs) n 8]else [e1 rs,LB (List.replicate 64 0#8) n 8]
theorem vY(rs:L8)(n:BitVec 64)(h:rs.length<64): ∀bl∈fO rs n,bl.length=64:=by
 unfold fO;split
 ·intro bl hbl
  rcases List.mem_singleton.1 hbl with rfl
  exact ue rs n om 8
 ·intro bl hbl
  rcases List.mem_cons.1 hbl with rfl|hbl
  ·exact EW rs om
  ·rcases List.mem_singleton.1 hbl with rfl
   exact uv n 8
theorem Jp(br bn:Nat)(a:Option Addr)(cap:Nat)(rs:L8)(n:BitVec 64)(h:rs.length<64):eS prog Gt 303 [pnt br,pnt bn] ((fO rs n).map enc) (uK br bn a cap rs n):=by
 unfold fO;split
 ·exact CK br bn a cap rs n (by assumption)
 ·exact IJ br bn a cap rs n om h
def iO(bs:L8):List L8:=(List.range (bs.length / 64)).map λk=>(bs.drop (64*k)).take 64
def CP(bs:L8):List L8:=iO bs++fO (bs.drop (64*(bs.length / 64))) (BitVec.ofInt 64 bs.length)
theorem CI(bs:L8):(iO bs).length=bs.length / 64:=by simp[iO]
theorem s6(sv:Value)(n:BitVec 64)(hs:sv.cells= #[sv])(w:World)(hw:Gt w):CLS 297 [sv,U64 n].toArray w (λe w'=> ∃b2 b3,e=.returned (.func (.func 303) #[] #[pnt b2,pnt b3])/\Grow w w'/\w.heap.size<=b2/\w.heap.size<=b3/\b2≠b3/\OwnB w' b2 [sv] 22/\OwnB w' b3 [U64 n] 24):=by
 refine Hf func297 O hw<|λhGF=>Xp<|iz 2 hGF O O O<|λb2=>iz 3 hGF O O O<|λb3=>Asg O<|aa<|Xp<|fP O O O O<|Asg O<|aa<|ak<|Rr<|?_;exact aO O O (λw hw=>⟨b2,b3,rfl,ac hw,(hw.own 2 b2 _ _ O).2.elim id False.elim,(hw.own 3 b3 _ _ O).2.elim id False.elim,(λe=>by subst e;exact absurd (hw.inj 2 3 _ _ _ _ _ O O) dc),(by have:=(hw.own 2 b2 _ _ O).1;rw[hs]at this;exact this),(hw.own 3 b3 _ _ O).1⟩)
theorem uy{n m:Nat}{b1 b2:Nat}{c1 c2:List Value}{t1 t2:TypeId}(hne:b1≠b2): ∀i j b c t c' t',lkB [(n,b1,c1,t1),(m,b2,c2,t2)] i=some (b,c,t)->lkB [(n,b1,c1,t1),(m,b2,c2,t2)] j=some (b,c',t')->i=j:=by
 intro i j b c t c' t' h1 h2;rcases aK h1 with ⟨e1,x1⟩|⟨_,h1⟩<;>rcases aK h2 with ⟨e2,x2⟩|⟨_,h2⟩
 ·exact e1.trans e2.symm
 ·rcases aK h2 with ⟨_,x2⟩|⟨_,h2⟩
  ·cases x1;cases x2;exact (hne O).elim
  ·cases h2
 ·rcases aK h1 with ⟨_,x1⟩|⟨_,h1⟩
  ·cases x1;cases x2;exact (hne O).elim
  ·cases h1
 ·rcases aK h1 with ⟨e1,x1⟩|⟨_,h1⟩
  ·rcases aK h2 with ⟨e2,x2⟩|⟨_,h2⟩
   ·exact e1.trans e2.symm
   ·cases h2
  ·cases h1
end Sh
namespace Sh
def gX(st:L3)(bls:List L8):Nat->L3
 |0=>st
 |k+1=>uZ (gX st bls k) (bls.getD k [])
theorem im(st:L3)(bl:L8):(uZ st bl).length=8:=rfl
theorem iF(st:L3)(bls:List L8)(h:st.length=8): ∀k,(gX st bls k).length=8
 |0=>h
 |_+1=>im _ _
theorem Di(st:L3)(hs:st.length=8)(gf:Nat)(caps:List Value)(bls:List L8)(hb: ∀bl∈bls,bl.length=64)(Rd:Cls)(he:ai prog gf)(hseq:eS prog Gt gf caps (bls.map enc) Rd)(w:World)(hw:Gt w)(hRs: ∀w',Grow w w'->Rd w'):
 CLS 296 [.agg (st.map U32).toArray,.func (.func gf) #[] caps.toArray].toArray w (λe w'=>e=.returned (.agg ((gX st bls bls.length).map U32).toArray)/\Grow w w'):=by
 have hGF:BOk Gt (pl w):=gt_low.plain hw;refine ck (G:=Gt) func296 O O (Hp (pl w) []) (bZ (pl w) trivial ap) (ay hGF)<|Xp<|Bx 2 hGF O<|λb2=>Al 4 hGF zv105<|λb4=>aa<|ah<|Xp<|Mv O<|aa<|am<|?_;refine ep (λ_=>pl w) (λ_ _=>pl w) (λ_=>hGF) (λ_ _=>hGF) (λ_=>rfl) (λ_ _=>rfl) O O he hseq (by simp[enc]) O (λk=>[(2,b2,(gX st bls k).map U32,105),(4,b4,(List.replicate 8 0#32).map U32,105)]) (λ_ _ _=>False) trv (λ_ _ w' h=>hRs w' (h.below (λ_ h=>h))) ?_ ?_ (λ_ _ _ _ _ h=>h.elim)
 ·intro k x hx R hR
  obtain ⟨hk,rfl⟩:k<bls.length/\enc (bls.getD k [])=x:=by
   rw[List.getElem?_map]at hx;rcases Nat.lt_or_ge k bls.length with h|h
   ·simp[h]at hx;exact ⟨h,by simpa [h]using hx⟩
   ·simp[h]at hx
  have hb64:(bls.getD k []).length=64:=hb _ (by rw[show bls.getD k []=bls[k]from by simp[hk]];exact List.getElem_mem hk)
  refine Xq<|dJ 5 (hR (pl w) O hGF).1 zv313 O O<|λb5=>aA 5 (hR (pl w) O hGF).1 O O O sizeOf313 (by rw[List.length_map,hb64]) (by rw[List.length_map,List.length_replicate]) (bL _) O<|aa<|?_
  refine ⟨rfl,_,rfl, ?_⟩;exact am<|Xq<|Lw 2 O O ol (by rw[iF st bls hs])<|Lw 5 O O B3 hb64<|Ca O (sU _ _ (iF _ _ hs _) hb64)<|aA 2 (hR (pl w) O hGF).2.1 O O O sizeOf105 (by rw[List.length_map,im]) (by rw[List.length_map,iF st bls hs]) (iR _) O<|aa<|⟨_,rfl,trv⟩
 ·intro D hD
  refine Xp<|Lw 2 O O ol (by rw[iF st bls hs])<|Sx 4 hD O O O ol (by rw[iF st bls hs]) (iR _)<|aa<|ak<|Rr<|?_
  refine dr (.inl O) ap (au 4 O O O isAgg105 sizeOf105 (by rw[List.length_map,iF st bls hs]) (λw hw=>⟨?_,ac hw⟩))
  rw[List.length_map]
def SHA(bs:L8):L8:=DG (gX IV (CP bs) (CP bs).length) 8
theorem hO(bs:L8):(SHA bs).length=32:=eZ _ 8
theorem bR{n:Nat}{b1:Nat}{c1:List Value}{t1:TypeId}: ∀i j b c t c' t',lkB [(n,b1,c1,t1)] i=some (b,c,t)->lkB [(n,b1,c1,t1)] j=some (b,c',t')->i=j:=by
 intro i j b c t c' t' h1 h2;rcases aK h1 with ⟨e1,x1⟩|⟨_,h1⟩
 ·rcases aK h2 with ⟨e2,x2⟩|⟨_,h2⟩
  ·exact e1.trans e2.symm
  ·cases h2
 ·cases h1
end Sh
namespace Sh
def hc(st:L3)(rs:L8)(n:BitVec 64):List Value:=st.map U32++(rs.map U8++[U64 n])
section
variable {st st':L3} {rs rs':L8} {n m:BitVec 64}
theorem uA(h1:st.length=8)(h2:rs.length=64):(hc st rs n).length=73:=by simp[hc,h1,h2]
theorem sr(h1:st.length=8)(h2:rs.length=64):(hc st rs n)[72]? =some (U64 n):=by
 unfold hc;rw[List.getElem?_append_right (by simp[h1]),List.getElem?_append_right (by simp[h1,h2])]
 simp[h1,h2]
theorem Uh: ∀j v,(st.map U32)[j]? =some v->(hc st rs n)[0+j]? =some v:=λj v hv=>by
 have:j<(st.map U32).length:=by
  rcases Nat.lt_or_ge j (st.map U32).length with h|h
  ·exact h
  ·rw[List.getElem?_eq_none h]at hv;cases hv
 unfold hc;rw[Nat.zero_add,List.getElem?_append_left this];exact hv
theorem M2(h1:st.length=8): ∀j v,(rs.map U8)[j]? =some v->(hc st rs n)[8+j]? =some v:=λj v hv=>by
 have:j<(rs.map U8).length:=by
  rcases Nat.lt_or_ge j (rs.map U8).length with h|h
  ·exact h
  ·rw[List.getElem?_eq_none h]at hv;cases hv
 unfold hc;rw[List.getElem?_append_right (by simp[h1]),List.getElem?_append_left (by simpa [h1]using this)]
 simpa [h1]using hv
theorem S4(h1:st.length=8)(h1':st'.length=8):lay 0 (st'.map U32) (hc st rs n)=hc st' rs n:=by
 rw[i6 _ _ _ (by simp[hc,h1,h1'])]
 simp[hc,h1',h1]
theorem wx(h1:st.length=8)(o:Nat)(xs:L8)(h:o+xs.length<=rs.length):lay (8+o) (xs.map U8) (hc st rs n)=hc st (rs.take o++xs++rs.drop (o+xs.length)) n:=by
 rw[i6 _ _ _ (by simp[hc,h1];omega)]
 simp only[hc,List.take_append,List.drop_append,List.length_map,h1,List.map_append,List.map_take,List.map_drop];rw[List.take_of_length_le (by simp[h1]),List.drop_eq_nil_of_le (by simp[h1];omega)]
 rw[show 8+o-8=o from by omega,show o-rs.length=0 from by omega,show 8+o+xs.length-8=o+xs.length from by omega,show o+xs.length-rs.length=0 from by omega]
 simp
theorem SC(h1:st.length=8)(h2:rs.length=64)(h2':rs'.length=64):lay 8 (rs'.map U8) (hc st rs n)=hc st rs' n:=by
 have:=wx (rs:=rs) (n:=n) h1 0 rs' om;rw[Nat.add_zero]at this;rw[this,Nat.zero_add,List.drop_eq_nil_of_le om];simp
theorem PO(h1:st.length=8)(h2:rs.length=64):(hc st rs n).set 72 (U64 m)=hc st rs m:=by
 unfold hc;rw[List.set_append_right _ _ (by simp[h1]),List.set_append_right _ _ (by simp[h1,h2])]
 simp[h1,h2]
end
def tl(T:L8):L8:=T.drop (64*(T.length / 64))
theorem me(T:L8):(tl T).length=T.length % 64:=by simp[tl];omega
def ot(rs:L8):L8:=rs++List.replicate (64-rs.length) 0#8
theorem B8(rs:L8)(h:rs.length<=64):(ot rs).length=64:=by simp[ot];omega
def full(T:L8):L3:=gX IV (iO T) (T.length / 64)
structure HInv(T:L8)(st:L3)(rs:L8)(n:BitVec 64):Prop where
 len:T.length<9223372036854775808
 st8:st.length=8
 rest:rs=ot (tl T)
 num:n=BitVec.ofNat 64 T.length
 state:64<=T.length->st=full T
theorem HInv.zero:HInv [] (List.replicate 8 0#32) (List.replicate 64 0#8) 0:=⟨sm,sm,by simp[ot,tl],rfl,λh=>by simp at h⟩
theorem HInv.rs64{T:L8}{st:L3}{rs:L8}{n:BitVec 64}(h:HInv T st rs n):rs.length=64:=by rw[h.rest];exact B8 _ (by rw[me];omega)
theorem HInv.toNat{T:L8}{st:L3}{rs:L8}{n:BitVec 64}(h:HInv T st rs n):n.toNat=T.length:=by
 have:=h.len;rw[h.num,BitVec.toNat_ofNat];omega
def rch(st:L3)(n:BitVec 64):L3:=if n<64#64 then IV else st
theorem HInv.rch{T:L8}{st:L3}{rs:L8}{n:BitVec 64}(h:HInv T st rs n):rch st n=full T:=by
 unfold Sh.rch;by_cases hlt:n<64#64
 ·have:T.length<64:=by have h1:=BitVec.lt_def.1 hlt;rw[h.toNat]at h1;simpa using h1
  rw[if_pos hlt,full,Nat.div_eq_of_lt this];rfl
 ·have: ¬T.length<64:=λh'=>hlt (BitVec.lt_def.2 (by rw[h.toNat];simpa using h'))
  rw[if_neg hlt];exact h.state om
theorem mu{st:L3}{n:BitVec 64}(h:st.length=8):(rch st n).length=8:=by unfold rch;split;rfl;exact h
theorem jJ(st:L3)(a b:List L8): ∀k,(∀i,i<k->a.getD i []=b.getD i [])->gX st a k=gX st b k
 |0,_=>rfl
 |k+1,h=>by rw[gX,gX,jJ st a b k (λi hi=>h i om),h k om]
theorem oE(st:L3)(a b:List L8): ∀k,gX st (a++b) (a.length+k)=gX (gX st a a.length) b k
 |0=>by
  show gX st (a++b) a.length=gX st a a.length;exact jJ st _ _ _ (λi hi=>by simp[List.getElem?_append_left hi])
 |k+1=>by
  rw[<-Nat.add_assoc,gX,oE st a b k,gX];congr 1;simp only[List.getD_eq_getElem?_getD];rw[List.getElem?_append_right om,Nat.add_sub_cancel_left]
theorem GS(T:L8):SHA T=DG (gX (full T) (fO (tl T) (BitVec.ofInt 64 T.length)) (fO (tl T) (BitVec.ofInt 64 T.length)).length) 8:=by
 have:=oE IV (iO T) (fO (tl T) (BitVec.ofInt 64 T.length)) (fO (tl T) (BitVec.ofInt 64 T.length)).length;unfold SHA;rw[show CP T=iO T++fO (tl T) (BitVec.ofInt 64 T.length)from O,List.length_append,this,CI];rfl
theorem HInv.part{T:L8}{st:L3}{rs:L8}{n:BitVec 64}(h:HInv T st rs n)(xs:L8)(hx:T.length % 64+xs.length<64)(hl:(T++xs).length<9223372036854775808):
 HInv (T++xs) st (rs.take (T.length % 64)++xs++rs.drop (T.length % 64+xs.length)) (n+BitVec.ofInt 64 xs.length):=by
 have hd:(T++xs).length / 64=T.length / 64:=by simp;omega
 have ht:tl (T++xs)=tl T++xs:=by
  unfold tl;rw[hd,List.drop_append_of_le_length om]
 refine ⟨hl,h.st8, ?_, ?_,λh64=> ?_⟩
 ·have e:=me T
  rw[h.rest,ht,ot,ot];rw[List.take_append_of_le_length om,List.take_of_length_le om,List.drop_append,List.drop_eq_nil_of_le om];simp only[List.nil_append,List.append_assoc,List.drop_replicate,List.length_append];congr 3;omega
 ·apply BitVec.eq_of_toNat_eq
  rw[BitVec.toNat_add,h.toNat,BitVec.ofInt_natCast,BitVec.toNat_ofNat,BitVec.toNat_ofNat];simp
 ·have h64':64<=T.length:=by simp at h64;omega
  rw[h.state h64',full,full,hd];refine jJ _ _ _ _ (λi hi=> ?_);have h1:i<T.length / 64:=hi;have h2:i<(T++xs).length / 64:=om;have e1:(iO T).getD i []=(T.drop (64*i)).take 64:=by simp[iO,h1]
  have e2:(iO (T++xs)).getD i []=((T++xs).drop (64*i)).take 64:=by
   unfold iO;simp[-List.length_append,h2]
  rw[e1,e2,List.drop_append_of_le_length om,List.take_append_of_le_length (by simp;omega)]
theorem HInv.fill{T:L8}{st:L3}{rs:L8}{n:BitVec 64}(h:HInv T st rs n)(xs:L8)(hx:T.length % 64+xs.length=64)(hl:(T++xs).length<9223372036854775808):
 HInv (T++xs) (uZ (full T) (rs.take (T.length % 64)++xs++rs.drop (T.length % 64+xs.length))) (List.replicate 64 0#8) (n+BitVec.ofInt 64 xs.length):=by
 have hd:(T++xs).length / 64=T.length / 64+1:=by simp;omega
 have ht:tl (T++xs)=[]:=by
  unfold tl;rw[hd];apply List.drop_eq_nil_of_le;simp;omega
 refine ⟨hl,im _ _,by rw[ht];rfl, ?_,λ_=> ?_⟩
 ·apply BitVec.eq_of_toNat_eq
  rw[BitVec.toNat_add,h.toNat,BitVec.ofInt_natCast,BitVec.toNat_ofNat,BitVec.toNat_ofNat];simp
 ·rw[full,full,hd,gX]
  have e2: ∀i,i<(T++xs).length / 64->(iO (T++xs)).getD i []=((T++xs).drop (64*i)).take 64:=λi hi=>by
   unfold iO;simp[-List.length_append,hi]
  congr 1
  ·refine jJ _ _ _ _ (λi hi=> ?_)
   have e1:(iO T).getD i []=(T.drop (64*i)).take 64:=by simp[iO,hi]
   rw[e1,e2 i om,List.drop_append_of_le_length om,List.take_append_of_le_length (by simp;omega)]
  ·have e:=me T
   rw[e2 _ om,h.rest,ot,List.take_append_of_le_length om,List.take_of_length_le om,List.drop_append,List.drop_eq_nil_of_le om];rw[List.drop_append_of_le_length om,show T.drop (64*(T.length / 64))=tl T from O,List.take_of_length_le (by simp;omega)]
   simp;omega
end Sh
namespace Sh
theorem Df{w:World}{b:Nat}{c:List Value}{t:TypeId}(h:OwnB w b c t){o:Nat}{cs:List Value}(hc: ∀j v,cs[j]? =some v->c[o+j]? =some v):w.rangeAt b o cs:=λj v hv=>(h.cell (o+j)).trans (hc j v hv)
theorem lV(bh:Nat)(st:L3)(rs:L8)(n:BitVec 64)(h1:st.length=8)(h2:rs.length=64)(w:World)(hw:Gt w)(ho:OwnB w bh (hc st rs n) 315):
 CLS 293 [pnt bh].toArray w (λe w'=>e=.returned (.agg ((rch st n).map U32).toArray)/\Grow w w'):=by
 refine Hf func293 O hw<|λhGF=>Xp<|Al 2 hGF zv105<|λb2=>aa<|ah<|Xp<|Mv O<|el O O O<|Fa 72 O underlying315 O sizeOf24<|bp O isAgg24 (nP (B:=pl w) ((ho.cell 72).trans (sr h1 h2)) (λh=>h)) O O<|Bnr O O (λ_=>oz _ _ _)<|aa<|?_;refine bE O (λhc=> ?_) (λhc=> ?_)
 ·simp only[decide_eq_true_eq]at hc
  refine Xp<|Ca O (yB)<|Sx 2 hGF O O O ol (by rw[(show IV.length=8 from O)]) (iR _)<|aa<|ak<|Rr<|?_
  exact au 2 O O O isAgg105 sizeOf105 O (λw hw=>⟨by rw[rch,if_pos hc],ac hw⟩)
 ·simp only[decide_eq_false_iff_not]at hc
  refine aq<|Xp<|Mv O<|el O O O<|Fa 0 O underlying315 O sizeOf105<|dK O isAgg105 sizeOf105 (by rw[List.length_map,h1]) (fB (B:=pl w) (Df ho Uh) (λh=>h)) O O<|Sx 2 hGF O O O ol h1 (iR _)<|aa<|ak<|Rr<|?_
  exact au 2 O O O isAgg105 sizeOf105 (by rw[List.length_map,h1]) (λw hw=>⟨by rw[rch,if_neg hc],ac hw⟩)
theorem y3(T:L8)(bh:Nat)(st:L3)(rs:L8)(n:BitVec 64)(hi:HInv T st rs n)(w:World)(hw:Gt w)(ho:OwnB w bh (hc st rs n) 315):
 CLS 283 [pnt bh].toArray w (λe w'=>e=.returned (.agg ((SHA T).map U8).toArray)/\Grow w w'):=by
 have hGF:BOk Gt (pl w):=gt_low.plain hw;have hmt:(n % 64#64).toNat=(tl T).length:=by rw[BitVec.toNat_umod,hi.toNat,me];rfl
 have hm64:(n % 64#64).toNat<64:=by rw[hmt,me];omega
 have hn:BitVec.ofInt 64 T.length=n:=by rw[hi.num,BitVec.ofInt_natCast]
 refine Hd func283 O hGF<|ae (E:=EE [297])<|Al 2 hGF zv112<|λb2=>aa<|Xd [297]<|Mv O<|Cc O ent293 (λw' hw' hG=>lV bh st rs n hi.st8 hi.rs64 w' hG (ho.of_same ((ac hw').block bh ho.lt)))<|Mv O<|el O O O<|Fa 8 O underlying315 O sizeOf313<|Mv O<|el O O O<|Fa 72 O underlying315 O sizeOf24<|bp O isAgg24 (nP (B:=pl w) ((ho.cell 72).trans (sr hi.st8 hi.rs64)) (λh=>h)) O O<|Bnr O O (λ_=>ew _ _ _ dc)<|KR O underlying313 sizeOf5 O hm64 O O<|Mv O<|el O O O<|Fa 72 O underlying315 O sizeOf24<|bp O isAgg24 (nP (B:=pl w) ((ho.cell 72).trans (sr hi.st8 hi.rs64)) (λh=>h)) O O<|?_;refine dp O O ent297 O O (λw' hw'=>(s6 _ _ O w' (hGF.g _ _ _ hw')).mono λe w'' h=> ?_);obtain ⟨c2,c3,rfl,hgr,h2,h3,hne,hc2,hc3⟩:=h;refine ⟨_,_,rfl,ay hGF,hw'.news ap hgr [(31,c2,[.slice (some ⟨bh,8,none⟩) (n % 64#64).toNat 64],22),(32,c3,[U64 n],24)] ?_ ?_, ?_⟩
 ·intro n' b c t hl
  rcases aK hl with ⟨_,e⟩|⟨_,hl⟩
  ·cases e;exact ⟨h2,hc2⟩
  ·rcases aK hl with ⟨_,e⟩|⟨_,hl⟩
   ·cases e;exact ⟨h3,hc3⟩
   ·cases hl
 ·exact uy hne
 refine Cc O ent296 (λw' hw' hG=>Di (rch st n) (mu hi.st8) 303 [pnt c2,pnt c3] (fO (tl T) n) (vY _ _ (by rw[me];omega)) (uK c2 c3 (some ⟨bh,8,none⟩) 64 (tl T) n) ent303 (Jp c2 c3 (some ⟨bh,8,none⟩) 64 (tl T) n (by rw[me];omega)) w' hG (λw3 hg3=> ?_)) ?_
 ·have hx:=hw'.grow ap hg3
  refine ⟨by rw[<-hmt];exact cp (n:=31) O O w3 hx,cp (n:=32) O O w3 hx,BytesAt.range ?_⟩
  intro j v hv;refine nP (B:=pl w) ((ho.cell (8+j)).trans ?_) (λh=>h) w3 hx;refine M2 hi.st8 j v ?_;rw[hi.rest,ot,List.map_append];have hlt:j<((tl T).map U8).length:=by
   rcases Nat.lt_or_ge j ((tl T).map U8).length with h|h
   ·exact h
   ·rw[List.getElem?_eq_none h]at hv;cases hv
  rw[List.getElem?_append_left hlt];exact hv
 refine Ca O (vL _ (iF _ _ (mu hi.st8) _))<|Sx 2 hGF O O O vh (eZ _ _) (bL _)<|aa<|ak<|Rr<|?_;exact au 2 O O O isAgg112 sizeOf112 (by rw[List.length_map,eZ]) (λw hw=>⟨by rw[GS T,hi.rch,hn],ac hw⟩)
end Sh
namespace Sh
structure WSt(T bs:L8)(w:World)(bh:Nat) where
 (c:Nat) (st:L3) (rs:L8) (n:BitVec 64) (a:Option Addr) (cap:Nat)
 hc:c<=bs.length
 hi:HInv (T++bs.take c) st rs n
 hb:BytesAt w a (bs.drop c)
 hcap:(bs.drop c).length<=cap
 hne:bs.drop c≠[]->∀ad,a=some ad->ad.block≠bh
theorem Cl(bs:L8)(c m:Nat):bs.take c++(bs.drop c).take m=bs.take (c+m):=by rw[List.take_add]
theorem wX(T bs:L8)(bh:Nat)(st:L3)(rs:L8)(n:BitVec 64)(hi:HInv T st rs n)(hT:(T++bs).length<9223372036854775808)(a:Option Addr)(cap:Nat)(hcap:bs.length<=cap)(w:World)(hw:Gt w)(ho:OwnB w bh (hc st rs n) 315)(hbh:8<=bh)(hby:BytesAt w a bs)(hne:bs≠[]->∀ad,a=some ad->ad.block≠bh):
 CLS 282 [pnt bh,.slice a bs.length cap].toArray w (λe w'=>e=.returned (.tuple #[])/\Mod bh w w'/\∃st' rs' n',HInv (T++bs) st' rs' n'/\OwnB w' bh (hc st' rs' n') 315):=by
 have hGF:BOk Gt (plM w (λk=>k=bh)):=(gt_low.from (M:=λk=>k=bh) hw (λm hm=>by subst hm;exact hbh)).ok (B:=plM w (λk=>k=bh)) ap
 refine ch (G:=Gt) func282 O O (Hp (plM w (λk=>k=bh)) [(0,bh,hc st rs n,315)]) (HC ho) (ay hGF)<|am<|cb (ι:=WSt T bs w bh) (λx=>[(0,pnt bh),(1,.slice x.a (bs.drop x.c).length x.cap)]) (λx=>[(0,bh,hc x.st x.rs x.n,315)]) (λx=>bs.length-x.c) ⟨0,st,rs,n,a,cap,Nat.zero_le _,by simpa using hi,by simpa using hby,by simpa using hcap,hne⟩ hGF trv trv<|?_
 rintro x;have x8:=x.hi.st8;have x64:=x.hi.rs64;have hdl:(bs.drop x.c).length=bs.length-x.c:=List.length_drop;have hxc:=x.hc;refine ah<|Xp<|Mv O<|bD O (λ_=>aV underlying22 _ _ _ _) O O<|Bnr O O (λ_=>cm _ _ _)<|aa<|?_;refine bE O (λhc=> ?_) (λhc=> ?_)
 ·simp only[decide_eq_true_eq]at hc
  have hmod:(x.n % 64#64).toNat=(T++bs.take x.c).length % 64:=by rw[BitVec.toNat_umod,x.hi.toNat];rfl
  have hm64:(x.n % 64#64).toNat<64:=om;obtain ⟨xs,hxs⟩: ∃xs,(bs.drop x.c).take (64-(x.n % 64#64).toNat)=xs:=⟨_,rfl⟩;have hxl:xs.length=Nat.min (bs.drop x.c).length (64-(x.n % 64#64).toNat):=by rw[<-hxs,List.length_take];exact Nat.min_comm _ _
  have hx1:xs.length<=(bs.drop x.c).length:=by rw[hxl];exact Nat.min_le_left _ _
  have hx2:xs.length<=64-(x.n % 64#64).toNat:=by rw[hxl];exact Nat.min_le_right _ _
  have hx0:0<xs.length:=by rw[hxl];exact Nat.lt_min.2 ⟨om,om⟩
  have hdne:bs.drop x.c≠[]:=λe=>by rw[e]at hc;simp at hc
  have hbx:BytesAt w x.a xs:=hxs▸x.hb.take _;have hmx:(x.n % 64#64).toNat+xs.length<=x.rs.length:=by rw[x64];omega
  have hxt:T++bs.take (x.c+xs.length)=T++bs.take x.c++xs:=by
   rw[<-Cl,<-List.append_assoc,<-List.prefix_iff_eq_take.1 (hxs▸List.take_prefix _ _)]
  have hdn:(bs.drop x.c).length-xs.length=(bs.drop (x.c+xs.length)).length:=by rw[List.length_drop,List.length_drop];omega
  have hroom:8+(x.n % 64#64).toNat+xs.length<=73:=om;have hlen2:(T++bs.take x.c++xs).length<9223372036854775808:=by simp at hT⊢;omega
  have hb3:BytesAt w (if x.cap=xs.length then x.a else x.a.map (·.add (xs.length*1))) (bs.drop (x.c+xs.length)):=by
   have:=x.hb.drop (cap:=x.cap) (l:=xs.length) x.hcap om
   rwa [List.drop_drop]at this
  have hc3:(bs.drop (x.c+xs.length)).length<=x.cap-xs.length:=by have:=x.hcap;simp at this⊢;omega
  have hn3:bs.drop (x.c+xs.length)≠[]->∀ad,(if x.cap=xs.length then x.a else x.a.map (·.add (xs.length*1)))=some ad->ad.block≠bh:=by
   intro _ ad had;split at had
   ·exact x.hne hdne ad had
   ·cases hxa:x.a with
    |none=>rw[hxa]at had;cases had
    |some ad0=>
     rw[hxa]at had
     cases had
     rw[sR];exact x.hne hdne ad0 hxa
  have hsum:(x.n+BitVec.ofInt 64 xs.length).toNat=(T++bs.take x.c).length+xs.length:=by
   rw[BitVec.toNat_add,x.hi.toNat,BitVec.ofInt_natCast,BitVec.toNat_ofNat];simp at hlen2⊢;omega
  have hsm:((x.n+BitVec.ofInt 64 xs.length) % 64#64).toNat=((T++bs.take x.c).length+xs.length) % 64:=by rw[BitVec.toNat_umod,hsum];rfl
  have hfl0:(((x.n+BitVec.ofInt 64 xs.length) % 64#64==0#64)=true->(T++bs.take x.c).length % 64+xs.length=64)/\(((x.n+BitVec.ofInt 64 xs.length) % 64#64==0#64)=false->(T++bs.take x.c).length % 64+xs.length<64):=by
   refine ⟨λh=> ?_,λh=> ?_⟩
   ·have:=congrArg BitVec.toNat (beq_iff_eq.1 h)
    rw[hsm]at this;have h0:(0#64).toNat=0:=rfl;omega
   ·have hne: ¬((x.n+BitVec.ofInt 64 xs.length) % 64#64).toNat=0:=λe=>(beq_eq_false_iff_ne.1 h) (BitVec.eq_of_toNat_eq (by rw[e];rfl))
    rw[hsm]at hne;omega
  refine aq<|am<|Xp<|Mv O<|Cc O ent293 (λw' hw' hG=>lV bh x.st x.rs x.n x8 x64 w' hG (hw'.own 0 _ _ _ O).1)<|Al 4 hGF zv105<|λb4=>Sx 4 hGF O O O ol (mu x.hi.st8) (iR _)<|aa<|Xd []<|Mv O<|el O O O<|Fa 8 O underlying315 O sizeOf313<|Mv O<|el O O O<|Fa 72 O underlying315 O sizeOf24<|cG 0 O O (sr x8 x64) isAgg24 O O<|Bnr O O (λ_=>ew _ _ _ dc)<|JB O underlying313 sizeOf5 O hm64 O O<|Mv O<|dY (cs:=xs) 0 hGF O O O underlying22 Fw hxl (λw' h=>Cf hbx (yW h) (x.hne hdne)) (by rw[uA x8 x64];exact hroom) O O<|?_
  rw[wx x8 _ xs hmx];have x64:(x.rs.take (x.n % 64#64).toNat++xs++x.rs.drop ((x.n % 64#64).toNat+xs.length)).length=64:=by rw[List.length_append,List.length_append,List.length_take,List.length_drop,x64];omega
  obtain ⟨rs1,hrs1⟩: ∃rs1,x.rs.take (x.n % 64#64).toNat++xs++x.rs.drop ((x.n % 64#64).toNat+xs.length)=rs1:=⟨_,rfl⟩;rw[hrs1]at x64⊢;refine Asg O<|aa<|Xp<|Mv O<|el O O O<|Fa 72 O underlying315 O sizeOf24<|cG 0 O O (sr x8 x64) isAgg24 O O<|Mv O<|cu O O (λ_=>iB underlying3 underlying24 _) O O<|Bnr O O (λ_=>a8 _ _ _)<|el O O O<|Fa 72 O underlying315 O sizeOf24<|da 0 hGF O O O sizeOf24 O (by rw[uA x8 x64];decide) O<|?_
  rw[PO x8 x64];refine aa<|Xp<|Mv O<|Mv O<|mF (l:=xs.length) (h':=(bs.drop x.c).length) O underlying22 sizeOf5 O O ⟨om,x.hcap⟩ O O<|Asg O<|aa<|Xp<|Mv O<|el O O O<|Fa 72 O underlying315 O sizeOf24<|cG 0 O O (sr x8 x64) isAgg24 O O<|Bnr O O (λ_=>ew _ _ _ dc)<|Bnr O O (λ_=>bu _ _ _)<|aa<|?_;refine bE O (λhc=> ?_) (λhc=> ?_)
  ·have hfl:=hfl0.1 hc
   refine Xd []<|Mv O<|Lw 4 O O ol (mu x.hi.st8)<|Mv O<|el O O O<|Fa 8 O underlying315 O sizeOf313<|Iz 0 O O isAgg313 sizeOf313 (by rw[List.length_map,x64]) (M2 x8) O O<|Ca O (sU _ _ (mu x.hi.st8) x64)<|el O O O<|Fa 0 O underlying315 O sizeOf105<|ik 0 hGF O O O sizeOf105 (by rw[List.length_map,im]) (iR _) (by rw[uA x8 x64,List.length_map,im];decide) O<|?_
   rw[S4 x8 (im _ _)];have x8:=im (rch x.st x.n) rs1;refine aa<|Xq<|Mv O<|fC zv313 underlying313 sizeOf5 O O<|el O O O<|Fa 8 O underlying315 O sizeOf313<|ik 0 hGF O O O sizeOf313 (by rw[List.length_map,List.length_replicate]) (bL _) (by rw[uA x8 x64,List.length_map,List.length_replicate];decide) O<|?_
   rw[SC x8 x64 List.length_replicate];refine aa ?_
   repeat (refine aW ?_)
   exact aQ<|⟨rfl,⟨x.c+xs.length,uZ (rch x.st x.n) rs1,List.replicate 64 0#8,x.n+BitVec.ofInt 64 xs.length,if x.cap=xs.length then x.a else x.a.map (·.add (xs.length*1)),x.cap-xs.length,om,(by rw[hxt,<-hrs1,hmod,x.hi.rch];exact x.hi.fill xs hfl hlen2),hb3,hc3,hn3⟩,_,by show bs.length-(x.c+xs.length)<bs.length-x.c;omega,rfl,⟨rfl,congrArg (λk=>some (Value.slice (if x.cap=xs.length then x.a else x.a.map (·.add (xs.length*1))) k (x.cap-xs.length))) hdn,trivial⟩,trv⟩
  ·have hfl:=hfl0.2 hc
   refine aq ?_
   repeat (refine aW ?_)
   exact aQ<|⟨rfl,⟨x.c+xs.length,x.st,rs1,x.n+BitVec.ofInt 64 xs.length,if x.cap=xs.length then x.a else x.a.map (·.add (xs.length*1)),x.cap-xs.length,om,(by rw[hxt,<-hrs1,hmod];exact x.hi.part xs hfl hlen2),hb3,hc3,hn3⟩,_,by show bs.length-(x.c+xs.length)<bs.length-x.c;omega,rfl,⟨rfl,congrArg (λk=>some (Value.slice (if x.cap=xs.length then x.a else x.a.map (·.add (xs.length*1))) k (x.cap-xs.length))) hdn,trivial⟩,trv⟩
 ·simp only[decide_eq_false_iff_not]at hc
  refine a6 ?_;have hall:bs.take x.c=bs:=List.take_of_length_le (by have:=x.hc;omega)
  repeat (refine df ?_)
  exact ce<|cy O (λw' hw'=>⟨rfl,yW hw',x.st,x.rs,x.n,by have:=x.hi;rw[hall]at this;exact this,(hw'.own 0 _ _ _ O).1⟩)
end Sh
namespace Sh
theorem ti5:TI prog 5 (.int .u8 0) 1 1:=z7 kr
def Cln(w w':World)(bs:L8)(sv:Value):Prop:=
 (bs=[]/\sv=.slice none 0 0)\/∃b c cap1,sv=.slice (spt b) bs.length cap1/\w.heap.size<=b/\OwnB w' b c 5/\c.length=cap1/\bs.length<=cap1/\c.take bs.length=bs.map U8
theorem Cln.cells{w w':World}{bs:L8}{sv:Value}(h:Cln w w' bs sv):sv.cells= #[sv]:=by
 rcases h with ⟨_,rfl⟩|⟨_,_,_,rfl,_⟩<;>rfl
end Sh
namespace Sh
end Sh
namespace Sh
def MK:L3:=IV++KW
end Sh
section
set_option maxHeartbeats 2000000
namespace Sh
def wk(p:L8)(o:Nat)(x:BitVec 32):Nat->BitVec 32
 |0=>x
 |k+1=>(wk p o x k<<<8)|||(p.getD (o+k) 0).setWidth 32
def V1(p:L8)(q:Nat):Nat->L3
 |0=>List.replicate 64 0#32
 |i+1=>(V1 p q i).set i (wk p (q+4*i) ((V1 p q i).getD i 0) 4)
theorem vP(l:L3)(i:Nat)(h:i<l.length):l=l.set i (l.getD i 0):=by
 have e:l.getD i 0=l[i]:=by simp[h]
 rw[e,List.set_getElem_self]
theorem vT(l:L3)(i:Nat)(x:BitVec 32)(h:i<l.length):(l.set i x).getD i 0=x:=by simp[h]
def r0(x:BitVec 32):BitVec 32:=turn x 7^^^turn x 18^^^(x>>>3)
def r1(x:BitVec 32):BitVec 32:=turn x 17^^^turn x 19^^^(x>>>10)
def r5(ws:L3)(i:Nat):BitVec 32:=ws.getD (i-16) 0+r0 (ws.getD (i-15) 0)+ws.getD (i-7) 0+r1 (ws.getD (i-2) 0)
def V2(p:L8)(q:Nat):Nat->L3
 |0=>V1 p q 16
 |j+1=>(V2 p q j).set (16+j) (r5 (V2 p q j) (16+j))
theorem bH:MK.length=72:=rfl
end Sh
end
namespace Sh
end Sh
namespace Xm
theorem zv112(w:World):(zeroValue 112).run prog w=.ok (.agg ((List.replicate 32 (0#8)).map U8).toArray) w:=Sh.zv112 w
theorem ti5:TI prog 5 (.int .u8 0) 1 1:=Sh.ti5
def D(dst:L8):L8:=dst++[BitVec.ofInt 8 (dst.length:Int)]
theorem lM(dst:L8):(D dst).length=dst.length+1:=by simp[D]
def F(msg dst:L8)(n:Nat):L8:=((List.replicate 64 0#8++msg)++[BitVec.ofInt 8 ((n / 256:Nat):Int),BitVec.ofInt 8 (n:Int),0#8])++D dst
theorem qF(msg dst:L8)(n:Nat):(F msg dst n).length=64+msg.length+3+(dst.length+1):=by
 rw[F,List.length_append,List.length_append,List.length_append,List.length_replicate,lM];rfl
def B0(msg dst:L8)(n:Nat):L8:=Sh.SHA (F msg dst n)
theorem kP(msg dst:L8)(n:Nat):(B0 msg dst n).length=32:=Sh.hO _
def R(b l:L8):Nat->L8
 |0=>b
 |j+1=>(R b l j).set j (b.getD j 0^^^l.getD j 0)
theorem ku(b l:L8): ∀j,(R b l j).length=b.length
 |0=>rfl
 |j+1=>by rw[R,List.length_set,ku b l j]
def Xk(b d:L8):Nat->L8
 |0=>List.replicate 32 0#8
 |k+1=>Sh.SHA (((if k=0 then b else R b (Xk b d k) 32)++[BitVec.ofInt 8 ((k+1:Nat):Int)])++d)
theorem gw(b d:L8): ∀k,(Xk b d k).length=32
 |0=>List.length_replicate
 |_+1=>Sh.hO _
def Ozz(b d:L8):Nat->L8
 |0=>[]
 |k+1=>Ozz b d k++Xk b d (k+1)
theorem jv(b d:L8): ∀k,(Ozz b d k).length=32*k
 |0=>rfl
 |k+1=>by rw[Ozz,List.length_append,jv b d k,gw];omega
def E(msg dst:L8)(n:Nat):L8:=(Ozz (B0 msg dst n) (D dst) ((n+31) / 32)).take n
theorem rX(msg dst:L8)(n:Nat):(E msg dst n).length=n:=by rw[E,List.length_take,jv];omega
structure Bk(xs:L8) where
 (b:Nat) (c:List Value)
 h1:xs.length<=c.length
 h2:c.take xs.length=xs.map U8
theorem hmc{i:TypeInfo}(k:Nat)(h:prog.info? 5=some i/\i.zero=some (.int .u8 0)/\i.size=1/\i.bytes=1)(hk:(madeCells (Value.int .u8 0).cells (k*1)).toList=(List.replicate k 0#8).map U8):(madeCells (Value.int .u8 0).cells (k*i.size)).toList=(List.replicate k 0#8).map U8:=by
 rw[h.2.2.1];exact hk
theorem hmk(k:Nat)(h:k<=1000):k*ti5.choose.size<=16777216/\ti5.choose.bytes*k<=281474976710656/\k<=1000000:=by
 rw[ti5.choose_spec.2.2.1,ti5.choose_spec.2.2.2];omega
theorem mc64:(madeCells (Value.int .u8 0).cells (64*1)).toList=(List.replicate 64 0#8).map U8:=kr
end Xm
namespace Xm
attribute [local simp] Sh.hO kP qF ku gw jv Sh.bH lM
theorem Ni{w:World}{b:Nat}{c:List Value}{xs:L8}(h:w.rangeAt b 0 c)(h2:c.take xs.length=xs.map U8):BytesAt w (spt b) xs:=BytesAt.range λj v hv=>h j v (by
 rw[<-h2,List.getElem?_take]at hv;split at hv
 ·exact hv
 ·cases hv)
def X16(b l:L8)(k:Nat):L8:=if k=0 then b else R b l 32
theorem AP{b l:L8}(hb:b.length=32)(k:Nat):(X16 b l k).length=32:=by
 unfold X16;split
 ·exact hb
 ·rw[ku];exact hb
theorem OG{xs ys:L8}(h:ys.length=32)(e:xs++ys=[]):False:=by
 have:=congrArg List.length e;rw[List.length_append,h,List.length_nil]at this;omega
theorem IL{c:List Value}{xs:L8}{n:Nat}(h:c.take xs.length=xs.map U8)(hn:n<=xs.length):c.take n=(xs.take n).map U8:=by
 have e:=congrArg (List.take n) h;rw[List.take_take,Nat.min_eq_left hn]at e;rw[e,List.map_take]
attribute [local simp] AP
end Xm
theorem ent227:ai prog 227:=λ_ _=>kr
theorem ent193:ai prog 193:=λ_ _=>kr
namespace Xm
attribute [local simp] Sh.hO kP qF ku gw jv Sh.bH lM
def Bad(msg dst:L8)(z:Int):Prop:=z<0\/8160<z\/255<dst.length\/65536<msg.length
structure RT(msg dst:L8)(z:Int)(w:World)(v:Value):Prop where
 bad:Bad msg dst z->v=.tuple #[.slice none 0 0,I 130]
 ok: ¬Bad msg dst z->∃a cap,v=.tuple #[.slice a (E msg dst z.toNat).length cap,I 0]/\BytesAt w a (E msg dst z.toNat)/\(E msg dst z.toNat).length<=cap
def PXC:Prop:= ∀(a1:Option Addr) (cap1:Nat) (msg:L8) (a2:Option Addr) (cap2:Nat) (dst:L8) (z:Int) (w:World),msg.length<=100000->msg.length<=cap1->dst.length<=100000->dst.length<=cap2->Gt w->BytesAt w a1 msg->BytesAt w a2 dst->CLS 227 [.slice a1 msg.length cap1,.slice a2 dst.length cap2,I z].toArray w (λe w'=> ∃v,e=.returned v/\Grow w w'/\RT msg dst z w' v)
end Xm
theorem zO{a b:Zp}(ha:IsQ a)(hb:IsQ b):IsQ (a*b):=rD (s:=SQr a*SQr b) (by
 have ha:SQr a*SQr a=a:=ha;have hb:SQr b*SQr b=b:=hb;generalize SQr a=s at*;generalize SQr b=t at*;subst ha hb;grind)
theorem LZ{a b:Zp}(ha: ¬IsQ a)(hb: ¬IsQ b):IsQ (a*b):=by
 have h:=zO ((tU a).resolve_left ha) ((tU b).resolve_left hb);rw[show-a* -b=a*b by grind]at h
 exact h
def S5:Zp:=zp 0x186417302d5a65347a88b0f999ab2b504614aa5e2eebdeb1a014c40bceb7d2306c12a6d436befcf94d39c9db7b263cd4
theorem WZ:S5*S5= -(zp 5):=by decide+kernel
theorem XL: ¬IsQ (zp 5):=by
 rcases k5 (a:=zp 5) (b:= -(zp 5)) (c:=zp 5) (by generalize zp 5=a;grind) (by decide+kernel)with h|h
 ·exact absurd (rD WZ) h.2
 ·exact h.1
def OA:W2:=(0,zp 240)
def OB:W2:=(zp 1012,zp 1012)
def OZ:W2:=ng2 (zp 2,zp 1)
def gO(x:W2):W2:=ad2 (ad2 (ml2 (ml2 x x) x) (ml2 OA x)) OB
def zu2(u:W2):W2:=ml2 (ml2 OZ u) u
def tu2(u:W2):W2:=ad2 (ml2 (zu2 u) (zu2 u)) (zu2 u)
def X1c:W2:=(zp 0x1a59d4b6bbf912a32d63b43028e2deeebe8d5d97ca64b6d66f64ac7a265a9305e1a40da5edb81b4e3ac4f5c28f5bd27,zp 0x15103a07f641331bb298f5ed3ba1230aa0bcc9f87d923077324df24a0f7ffa93045d3d6f94c17ae10efa11eb851e7336)
def R1c:W2:=(zp 0x28a5c165c0f2b6f84373bd5beb9a30d9ffef84fe5dc9a01a5e6825ee681d72252e4afbaf882c28f1c2935d806d2f71b,zp 0x17407d2938baedf8f3a537708747853994282b0535a8c4d8ffd7c0ebe3e31b581e4adea8190ec4a4a8ecaae9fd615d8a)
theorem KV:ml2 X1c (ml2 OZ OA)=OB:=by decide+kernel
theorem Er:ml2 R1c R1c=gO X1c:=by decide+kernel
theorem Xc:ml2 OZ OA≠ze2:=by decide+kernel
theorem BG:OA≠ze2:=by decide+kernel
theorem Cg(a b c:W2):ml2 (ml2 a b) c=ml2 a (ml2 b c):=R2.mul_assoc a b c
theorem GE:ml2 OB (iv2 (ml2 OZ OA))=X1c:=by
 rw[<-KV,Cg,cQ Xc];exact R2.mul_one X1c
def x1O(u:W2):W2:=if tu2 u=ze2 then ml2 OB (iv2 (ml2 OZ OA))else ml2 (ml2 (ng2 OB) (iv2 OA)) (ad2 on2 (iv2 (tu2 u)))
theorem No{u:W2}(h:tu2 u≠ze2):ml2 (ml2 OA (x1O u)) (tu2 u)=ml2 (ng2 OB) (ad2 (tu2 u) on2):=by
 have e1:=cQ BG;have e2:=cQ h;rw[show x1O u=ml2 (ml2 (ng2 OB) (iv2 OA)) (ad2 on2 (iv2 (tu2 u)))from if_neg h];generalize tu2 u=t at*;generalize iv2 t=s at*;generalize iv2 OA=a' at*;generalize OA=a at*;generalize ng2 OB=b at*;exact zl R2 [a,a',b,t,s] 0x556558742a9 0x45558942a2582 0x58492 0x45558942a5675859a (lca (lcm e1) (lcm e2))
theorem g_x2{u:W2}(h:tu2 u≠ze2):gO (ml2 (zu2 u) (x1O u))=ml2 (ml2 (ml2 (zu2 u) (zu2 u)) (zu2 u)) (gO (x1O u)):=by
 have k:=No h;unfold tu2 at k;unfold gO;generalize zu2 u=z at*;generalize x1O u=x at*;generalize OA=a at*;generalize OB=b at*;exact zk R2 [a,b,z,x] 0x4455589589589565897 0x55588844559995697 0x4238 0x5374458882 0x556945888 k
theorem VZ(u:W2):nm2 (zu2 u)=zp 5*(nm2 u*nm2 u):=by
 rw[zu2,gC,gC,show nm2 OZ=zp 5 by decide+kernel]
 generalize zp 5=a;generalize nm2 u=n;grind
theorem Jf{u:W2}(h: ¬IsQ (nm2 (gO (x1O u)))):IsQ (nm2 (gO (ml2 (zu2 u) (x1O u)))):=by
 by_cases ht:tu2 u=ze2
 ·refine absurd ((jz _).1 ⟨R1c, ?_⟩) h
  rw[Er,show x1O u=ml2 OB (iv2 (ml2 OZ OA))from if_pos ht,GE]
 ·rw[g_x2 ht,gC,gC,gC,VZ]
  have k:=zO (LZ XL h) (oo (zp 5*(nm2 u*nm2 u)*(nm2 u)));generalize nm2 (gO (x1O u))=g at*;generalize nm2 u=n at*;generalize zp 5=a at*;rw[show a*(n*n)*(a*(n*n))*(a*(n*n))*g=a*g*(a*(n*n)*n*(a*(n*n)*n)) by grind]
  exact k
def iXN:List W2:=[(zp 0x5c759507e8e333ebb5b7a9a47d7ed8532c52d39fd3a042a88b58423c50ae15d5c2638e343d9c71c6238aaaaaaaa97d6,zp 0x5c759507e8e333ebb5b7a9a47d7ed8532c52d39fd3a042a88b58423c50ae15d5c2638e343d9c71c6238aaaaaaaa97d6),(0,zp 0x11560bf17baa99bc32126fced787c88f984f87adf7ae0c7f9a208c6b4f20a4181472aaa9cb8d555526a9ffffffffc71a),(zp 0x11560bf17baa99bc32126fced787c88f984f87adf7ae0c7f9a208c6b4f20a4181472aaa9cb8d555526a9ffffffffc71e,zp 0x8ab05f8bdd54cde190937e76bc3e447cc27c3d6fbd7063fcd104635a790520c0a395554e5c6aaaa9354ffffffffe38d),(zp 0x171d6541fa38ccfaed6dea691f5fb614cb14b4e7f4e810aa22d6108f142b85757098e38d0f671c7188e2aaaaaaaa5ed1,0)]
def iXD:List W2:=[(0,-zp 72),(zp 0xc,-zp 12),(zp 0x1,0)]
def iYN:List W2:=[(zp 0x1530477c7ab4113b59a4c18b076d11930f7da5d4a07f649bf54439d87d27e500fc8c25ebf8c92f6812cfc71c71c6d706,zp 0x1530477c7ab4113b59a4c18b076d11930f7da5d4a07f649bf54439d87d27e500fc8c25ebf8c92f6812cfc71c71c6d706),(0,zp 0x5c759507e8e333ebb5b7a9a47d7ed8532c52d39fd3a042a88b58423c50ae15d5c2638e343d9c71c6238aaaaaaaa97be),(zp 0x11560bf17baa99bc32126fced787c88f984f87adf7ae0c7f9a208c6b4f20a4181472aaa9cb8d555526a9ffffffffc71c,zp 0x8ab05f8bdd54cde190937e76bc3e447cc27c3d6fbd7063fcd104635a790520c0a395554e5c6aaaa9354ffffffffe38f),(zp 0x124c9ad43b6cf79bfbf7043de3811ad0761b0f37a1e26286b0e977c69aa274524e79097a56dc4bd9e1b371c71c718b10,0)]
def iYD:List W2:=[(-zp 432,-zp 432),(0,-zp 216),(zp 0x12,-zp 18),(zp 0x1,0)]
theorem IU:R2.pp (R2.pp iYN iYN) (R2.pp [OB,OA,ze2,on2] (R2.pp iXD (R2.pp iXD iXD)))=R2.pp (R2.pp iYD iYD) (R2.pa (R2.pp iXN (R2.pp iXN iXN)) (R2.pk (zp 4,zp 4) (R2.pp iXD (R2.pp iXD iXD)))):=by decide+kernel
theorem PV(x:W2):R2.pev [OB,OA,ze2,on2] x=gO x:=by
 show ad2 OB (ml2 x (ad2 OA (ml2 x (ad2 ze2 (ml2 x (ad2 on2 (ml2 x ze2)))))))=ad2 (ad2 (ml2 (ml2 x x) x) (ml2 OA x)) OB;generalize OA=a;generalize OB=b;exact zx R2 [a,b,x] 0x47584658415842581 0x44558885687
theorem Px(x:W2):ml2 (ml2 (R2.pev iYN x) (R2.pev iYN x)) (ml2 (gO x) (ml2 (R2.pev iXD x) (ml2 (R2.pev iXD x) (R2.pev iXD x))))=ml2 (ml2 (R2.pev iYD x) (R2.pev iYD x)) (ad2 (ml2 (R2.pev iXN x) (ml2 (R2.pev iXN x) (R2.pev iXN x))) (ml2 (zp 4,zp 4) (ml2 (R2.pev iXD x) (ml2 (R2.pev iXD x) (R2.pev iXD x))))):=by
 have h:=congrArg (λl=>R2.pev l x) IU;simp only[R2.pev_pp,R2.pev_pa,R2.pev_pk,PV]at h;exact h
theorem Ud{x y:W2}(h:ml2 y y=gO x)(hx:R2.pev iXD x≠ze2)(hy:R2.pev iYD x≠ze2):E2w.on (ml2 (R2.pev iXN x) (iv2 (R2.pev iXD x)),ml2 (ml2 y (R2.pev iYN x)) (iv2 (R2.pev iYD x))):=by
 have e:=Px x;rw[<-h]at e;have e1:=cQ hx;have e2:=cQ hy;show ml2 (ml2 (ml2 y (R2.pev iYN x)) (iv2 (R2.pev iYD x))) (ml2 (ml2 y (R2.pev iYN x)) (iv2 (R2.pev iYD x)))=ad2 (ml2 (ml2 (R2.pev iXN x) (iv2 (R2.pev iXD x))) (ml2 (ml2 (R2.pev iXN x) (iv2 (R2.pev iXD x))) (ml2 (R2.pev iXN x) (iv2 (R2.pev iXD x))))) (zp 4,zp 4);generalize R2.pev iXN x=xn at*;generalize R2.pev iXD x=xd at*;generalize R2.pev iYN x=yn at*;generalize R2.pev iYD x=yd at*;generalize iv2 xd=s at*;generalize iv2 yd=t at*;generalize ((zp 4,zp 4):W2)=b at*;exact zl R2 [y,xn,xd,yn,yd,s,t,b] 0x55569c5569c 0x445555bbb5cc55aa4575775d585885543555665995ccd44558b58b58b2255455757755bbb5d5558b58b58b45ac22 0x4557b557b57bd 0x445555bbb5cc55995566585885543555665995ccd44558b58b58b258b55455757755bbb5d5558b58b58b45ac25ac (lca (lca (lcm e) (lcm e1)) (lcm e2))
theorem Fb{a b:W2}(ha:a≠ze2)(hb:b≠ze2):iv2 (ml2 a b)=ml2 (iv2 a) (iv2 b):=by
 have e0:=cQ (x:=ml2 a b) (λh=>(fS h).elim ha hb);have e1:=cQ ha;have e2:=cQ hb;generalize iv2 (ml2 a b)=w at*;generalize iv2 a=s at*;generalize iv2 b=t at*;exact zl R2 [a,b,s,t,w] 0xa 0x4455892535a579253a2 0x589 0x4455895567a535a57956853a579 (lca (lca (lcm e0) (lcm e1)) (lcm e2))
theorem SJ{x:W2}(h:x≠ze2):ng2 x≠ze2:=λe=>h (by
 have:=congrArg ng2 e;rw[EN]at this;exact (R2.neg_neg x).symm.trans this)
theorem Ns(x:W2):ad2 (ml2 (ad2 (ml2 x x) OA) x) OB=gO x:=by
 unfold gO;generalize OA=a;generalize OB=b;exact zx R2 [x,a,b] 0x454566768 0x44556665768
theorem Yx(u:W2):ml2 (ml2 u u) OZ=zu2 u:=by
 unfold zu2;generalize OZ=z;exact zx R2 [u,z] 0x55667 0x55766
theorem Oa(u:W2):zu2 (ng2 u)=zu2 u:=by
 unfold zu2;generalize OZ=z;exact zx R2 [u,z] 0x5573636 0x55766
theorem X9(u:W2):tu2 (ng2 u)=tu2 u:=by rw[tu2,tu2,Oa]
theorem WF(u:W2):x1O (ng2 u)=x1O u:=by rw[x1O,x1O,X9]
theorem Js{u:W2}(h:tu2 u=ze2):ml2 (ml2 OB (ad2 (tu2 u) on2)) (iv2 (ml2 OZ OA))=x1O u:=by
 rw[show x1O u=ml2 OB (iv2 (ml2 OZ OA))from if_pos h,h,show ad2 ze2 on2=on2 from R2.zero_add on2,show ml2 OB on2=OB from R2.mul_one OB]
theorem KO{u:W2}(h: ¬tu2 u=ze2):ml2 (ml2 OB (ad2 (tu2 u) on2)) (iv2 (ml2 (ng2 (tu2 u)) OA))=x1O u:=by
 rw[show x1O u=ml2 (ml2 (ng2 OB) (iv2 OA)) (ad2 on2 (iv2 (tu2 u)))from if_neg h];have e0:=cQ (x:=ml2 (ng2 (tu2 u)) OA) (λk=>(fS k).elim (SJ h) BG);have e1:=cQ BG;have e2:=cQ h;generalize iv2 (ml2 (ng2 (tu2 u)) OA)=w at*;generalize tu2 u=t at*;generalize iv2 t=s at*;generalize iv2 OA=a' at*;generalize OA=a at*;generalize OB=b at*;exact zl R2 [a,a',b,t,s,w] 0x558492b 0x4455385742a253585b5942a25358b2 0x5538742a 0x4455385742a55396b53585b5942a5675358b59a (lca (lca (lcm e0) (lcm e1)) (lcm e2))
def sgS(r u:W2):W2:=if SG2 r=SG2 u then r else ng2 r
theorem Sq(r u:W2):ml2 (sgS r u) (sgS r u)=ml2 r r:=by
 unfold sgS;split
 ·rfl
 ·exact Hs r
structure SwR(u x r:W2):Prop where
 sq:ml2 r r=gO x
 lg:LG2 r=false
 at1:x=x1O u\/(¬IsQ (nm2 (gO (x1O u)))/\x=ml2 (zu2 u) (x1O u))
theorem R9(u:W2): ∃x r,SwR u x r:=by
 by_cases h:IsQ (nm2 (gO (x1O u)))
 ·obtain ⟨r,hr⟩:=(jz _).2 h
  exact ⟨_,NL r,(BF r).trans hr,mS r,.inl O⟩
 ·obtain ⟨r,hr⟩:=(jz _).2 (Jf h)
  exact ⟨_,NL r,(BF r).trans hr,mS r,.inr ⟨h,rfl⟩⟩
theorem SwR.neg{u x r:W2}(h:SwR u x r):SwR (ng2 u) x r:=⟨h.sq,h.lg,by rw[WF,Oa];exact h.at1⟩
theorem SwR.on{u x r:W2}(h:SwR u x r):ml2 (sgS r u) (sgS r u)=gO x:=(Sq r u).trans h.sq
theorem Um:tu2 ze2=ze2:=by decide+kernel
theorem QR:X1c≠ze2:=by decide+kernel
theorem SwR.ze{x r:W2}(h:SwR ze2 x r):x≠ze2:=by
 have e:x1O ze2=X1c:=(if_pos Um).trans GE;rcases h.at1 with k|k
 ·rw[k,e];exact QR
 ·refine absurd ((jz _).1 ⟨R1c, ?_⟩) k.1
  rw[Er,e]
def C6:W2:=(zp 6,-zp 6)
theorem We:iXD=[ml2 C6 C6,ad2 C6 C6,on2]:=by decide+kernel
theorem Vc:iYD=[ml2 C6 (ml2 C6 C6),ad2 (ml2 C6 C6) (ad2 (ml2 C6 C6) (ml2 C6 C6)),ad2 C6 (ad2 C6 C6),on2]:=by decide+kernel
theorem Y5(x:W2):R2.pev iXD x=ml2 (ad2 x C6) (ad2 x C6):=by
 rw[We];generalize C6=c;exact zx R2 [x,c] 0x45775644775642561 0x5467467
theorem Yu(x:W2):R2.pev iYD x=ml2 (ad2 x C6) (ml2 (ad2 x C6) (ad2 x C6)):=by
 rw[Vc];generalize C6=c;exact zx R2 [x,c] 0x45757756445774577577564474775642561 0x54675467467
def R32:Zp:=zp 0x1764c4d4cfa3326ab57cbfed7f4a64378dc56542f8ff574f159cb76173021e735e4c97e34b82fa6cc8627df6f1f0af2
theorem Pq:R32*R32= -(zp 32):=by decide+kernel
theorem O5: ¬IsQ (zp 32):=by
 rcases k5 (a:=zp 32) (b:= -(zp 32)) (c:=zp 32) (by generalize zp 32=a;grind) (by decide+kernel)with h|h
 ·exact absurd (rD Pq) h.2
 ·exact h.1
theorem QJ:nm2 (gO (ng2 C6))=zp 32:=by decide+kernel
theorem nk{x y:W2}(h:ml2 y y=gO x):ad2 x C6≠ze2:=λk=>by
 have e:x=ng2 C6:=by
  have h:=k;generalize C6=c at*;exact zk R2 [x,c] 0x6 0x37 0x2 0x1 0x467 h
 have q:=eT h;rw[e,QJ]at q;exact O5 q
theorem zN{x y:W2}(h:ml2 y y=gO x):R2.pev iXD x≠ze2:=λe=>(fS ((Y5 x).symm.trans e)).elim (nk h) (nk h)
theorem A2{x y:W2}(h:ml2 y y=gO x):R2.pev iYD x≠ze2:=λe=>(fS ((Yu x).symm.trans e)).elim (nk h) (λe=>(fS e).elim (nk h) (nk h))
def XIs(x:W2):W2:=ml2 (R2.pev iXN x) (iv2 (R2.pev iXD x))
def YIs(x y:W2):W2:=ml2 (ml2 y (R2.pev iYN x)) (iv2 (R2.pev iYD x))
theorem UZ{n d e:W2}(hd:d≠ze2)(he:e≠ze2):ml2 (ml2 n e) (iv2 (ml2 d e))=ml2 n (iv2 d):=by
 rw[Fb hd he];have e2:=cQ he;generalize iv2 d=s at*;generalize iv2 e=t at*;exact zk R2 [n,d,e,s,t] 0x556859a 0x569 0x569 0x2 0x58a e2
theorem YX{n d e:W2}(hd:d≠ze2)(he:e≠ze2):ml2 (ml2 n d) (iv2 (ml2 d e))=ml2 n (iv2 e):=by
 rw[Fb hd he];have e1:=cQ hd;generalize iv2 d=s at*;generalize iv2 e=t at*;exact zk R2 [n,d,e,s,t] 0x556759a 0x56a 0x56a 0x2 0x579 e1
theorem w7{x y:W2}(h:ml2 y y=gO x):E2w.on (XIs x,YIs x y):=Ud h (zN h) (A2 h)
def HK(f:Nat->W2)(x:W2):Nat->W2
 |0=>ze2
 |k+1=>ad2 (ml2 (HK f x k) x) (f k)
theorem Rh(f:Nat->W2)(x:W2):HK f x 4=R2.pev [f 3,f 2,f 1,f 0] x:=by
 show ad2 (ml2 (ad2 (ml2 (ad2 (ml2 (ad2 (ml2 ze2 x) (f 0)) x) (f 1)) x) (f 2)) x) (f 3)=R2.pev [f 3,f 2,f 1,f 0] x;generalize f 0=a3;generalize f 1=a2;generalize f 2=a1;generalize f 3=a0;exact zx R2 [a0,a1,a2,a3,x] 0x454545451a9a8a7a6 0x465a475a485a495a1
theorem HK_z(f:Nat->W2)(x:W2)(h:f 0=ze2):HK f x 4=R2.pev [f 3,f 2,f 1] x:=by
 show ad2 (ml2 (ad2 (ml2 (ad2 (ml2 (ad2 (ml2 ze2 x) (f 0)) x) (f 1)) x) (f 2)) x) (f 3)=R2.pev [f 3,f 2,f 1] x;rw[h];generalize f 1=a2;generalize f 2=a1;generalize f 3=a0;exact zx R2 [a0,a1,a2,x] 0x45454545191989796 0x4659475948591
section
open J2
attribute [local simp] bk
theorem ent288:ai prog 288:=λ_ _=>kr
theorem ent287:ai prog 287:=λ_ _=>kr
theorem ent268:ai prog 268:=λ_ _=>kr
theorem ent270:ai prog 270:=λ_ _=>kr
theorem ent265:ai prog 265:=λ_ _=>kr
theorem ent266:ai prog 266:=λ_ _=>kr
theorem ent285:ai prog 285:=λ_ _=>kr
theorem ent264:ai prog 264:=λ_ _=>kr
theorem pA  :PUR 288 [] (EV2 OA):=pE TO68 func288 [] (.inl (.inl [OA.1,OA.2])) (let t0:=zp (240#64).toNat;(.inl (.inl [0,t0]),[])) [] kr aD O
def TO69:Tb prog Gt:=TO68.add (v7 (g:=OA) ent288 pA)
theorem pB  :PUR 287 [] (EV2 OB):=pE TO69 func287 [] (.inl (.inl [OB.1,OB.2])) (let t0:=zp (1012#64).toNat;let t1:=zp (1012#64).toNat;(.inl (.inl [t0,t1]),[])) [] kr aD O
def TO70:Tb prog Gt:=TO69.add (v7 (g:=OB) ent287 pB)
theorem pZ  :PUR 268 [] (EV2 OZ):=pE TO70 func268 [] (.inl (.inl [OZ.1,OZ.2])) (let t0:=zp (2#64).toNat;let t1:=ng2 (t0,1);(.inl (.inl [t1.1,t1.2]),[])) [] kr aD O
def TO71:Tb prog Gt:=TO70.add (v7 (g:=OZ) ent268 pZ)
theorem psq(x:W2):PUR 270 [EV2 x] (EV2 (gO x)):=pE TO71 func270 [.inl [x.1,x.2]] (.inl (.inl [(gO x).1,(gO x).2])) (let t0:=ml2 x x;let t1:=OA;let t2:=ad2 (t0.1,t0.2) (t1.1,t1.2);let t3:=ml2 (t2.1,t2.2) x;let t4:=OB;let t5:=ad2 (t3.1,t3.2) (t4.1,t4.2);(.inl (.inl [t5.1,t5.2]),[])) [] kr aD (el2 (congrArg Prod.fst (Ns x)) (congrArg Prod.snd (Ns x)))
def YG:Tb prog Gt:=TO71.add (eH (g:=gO) ent270 psq)
def FXs(s:W2):W2:=if (ad2 (ml2 s s) s)=ze2 then ml2 (ml2 OB (ad2 (ad2 (ml2 s s) s) on2)) (iv2 (ml2 OZ OA))else ml2 (ml2 OB (ad2 (ad2 (ml2 s s) s) on2)) (iv2 (ml2 (ng2 (ad2 (ml2 s s) s)) OA))
theorem Sr(u:W2):FXs (zu2 u)=x1O u:=by
 by_cases h:tu2 u=ze2
 ·exact (if_pos h).trans (Js h)
 ·exact (if_neg h).trans (KO h)
theorem Tj(s:W2):PUR 269 [EV2 s] (EV2 (FXs s)):=by
 by_cases h:(ad2 (ml2 s s) s)=ze2
 ·exact pE YG func269 [.inl [s.1,s.2]] (.inl (.inl [(FXs s).1,(FXs s).2])) (let t0:=ml2 s s;let t1:=ad2 (t0.1,t0.2) s;let t3:=OZ;let t4:=OB;let t5:=on2;let t6:=ad2 (t1.1,t1.2) (t5.1,t5.2);let t7:=ml2 (t4.1,t4.2) (t6.1,t6.2);let t8:=OA;let t9:=ml2 (t3.1,t3.2) (t8.1,t8.2);let t10:=iv2 (t9.1,t9.2);let t11:=ml2 (t7.1,t7.2) (t10.1,t10.2);(.inl (.inl [t11.1,t11.2]),[(decide ((t1.1,t1.2)=ze2),true)])) [some true] kr (ao (decide_eq_true h) aD) (by rw[show FXs s=_ from if_pos h]<;>exact rfl)
 ·exact pE YG func269 [.inl [s.1,s.2]] (.inl (.inl [(FXs s).1,(FXs s).2])) (let t0:=ml2 s s;let t1:=ad2 (t0.1,t0.2) s;let t2:=ng2 (t1.1,t1.2);let t3:=OB;let t4:=on2;let t5:=ad2 (t1.1,t1.2) (t4.1,t4.2);let t6:=ml2 (t3.1,t3.2) (t5.1,t5.2);let t7:=OA;let t8:=ml2 (t2.1,t2.2) (t7.1,t7.2);let t9:=iv2 (t8.1,t8.2);let t10:=ml2 (t6.1,t6.2) (t9.1,t9.2);(.inl (.inl [t10.1,t10.2]),[(decide ((t1.1,t1.2)=ze2),false)])) [some false] kr (ao (decide_eq_false h) aD) (by rw[show FXs s=_ from if_neg h]<;>exact rfl)
theorem sg_t{r u:W2}(h:SG2 r=SG2 u):(SG2 r !=SG2 u)=false:=by rw[h];exact bne_self_eq_false _
theorem sg_f{r u:W2}(h: ¬SG2 r=SG2 u):(SG2 r !=SG2 u)=true:=bne_iff_ne.2 h
theorem CF(r u:W2)(h:SG2 r=SG2 u):PUR 271 [EV2 r,I (SG2 u)] (EV2 r):=by
 intro w hw;refine Hf func271 O hw<|λhGF=>Xp<|Bx 2 hGF O<|λb2=>Al 4 hGF zv92<|λb4=>aa<|ah<|Xp<|La 2 O O aR<|Ca O (u0 _)<|Mv O<|Bnb false O O (λ_=>bt _ _ _) (sg_t h)<|aa<|aw O<|aq<|Xp<|La 2 O O aR<|Sa 4 hGF O O O aR<|aa<|ak<|Rr<|?_;exact au 4 O O O isAgg92 sizeOf92 sm (λw hw=>⟨rfl,ac hw⟩)
theorem C4(r u:W2)(h: ¬SG2 r=SG2 u):PUR 271 [EV2 r,I (SG2 u)] (EV2 (ng2 r)):=by
 intro w hw;refine Hf func271 O hw<|λhGF=>Xp<|Bx 2 hGF O<|λb2=>Al 4 hGF zv92<|λb4=>aa<|ah<|Xp<|La 2 O O aR<|Ca O (u0 _)<|Mv O<|Bnb true O O (λ_=>bt _ _ _) (sg_f h)<|aa<|aL O<|Xp<|La 2 O O aR<|Ca O (DR _)<|Sa 4 hGF O O O aR<|aa<|ak<|Rr<|?_;exact au 4 O O O isAgg92 sizeOf92 sm (λw hw=>⟨rfl,ac hw⟩)
theorem AR(r u:W2):PUR 271 [EV2 r,I (SG2 u)] (EV2 (sgS r u)):=by
 by_cases h:SG2 r=SG2 u
 ·rw[show sgS r u=r from if_pos h];exact CF r u h
 ·rw[show sgS r u=ng2 r from if_neg h];exact C4 r u h
theorem DB(u:W2):PUR 150 [EV2 (ml2 u u),EV2 OZ] (EV2 (zu2 u)):=by
 have h:=dv (ml2 u u) OZ;rw[Yx]at h;exact h
theorem B1(u:W2):PUR 269 [EV2 (zu2 u)] (EV2 (x1O u)):=by
 have h:=Tj (zu2 u);rw[Sr]at h;exact h
theorem T8(u r:W2)(hr:ml2 r r=gO (x1O u))(hl:LG2 r=false):PUR 231 [EV2 u] (.tuple #[EV2 (x1O u),EV2 (sgS r u)]):=by
 intro w hw;refine Hf func231 O hw<|λhGF=>Xp<|Bx 1 hGF O<|λb1=>Al 2 hGF zv92<|λb2=>Al 3 hGF zv92<|λb3=>aa<|Xp<|La 1 O O aR<|Ca O (iI _)<|Ca O (pZ)<|Ca O (DB u)<|Al 4 hGF zv92<|λb4=>Sa 4 hGF O O O aR<|aa<|Xp<|La 4 O O aR<|Ca O (B1 u)<|Al 5 hGF zv92<|λb5=>Sa 5 hGF O O O aR<|aa<|Xp<|La 5 O O aR<|Ca O (psq _)<|Ca O (o5 _ r hr hl)<|Mv O<|Ext O O<|Ext O O<|Al 6 hGF zv92<|λb6=>Sa 6 hGF O O O aR<|Asg O<|aa<|ah<|Xp<|Mv O<|aU O (λ_=>aF _) O O<|aa<|aw O<|aq<|Xd []<|La 5 O O aR<|?_;refine La 6 O O aR<|La 1 O O aR<|Ca O (u0 _)<|Ca O (AR r u)<|Sa 2 hGF O O O aR<|Sa 3 hGF O O O aR<|aa<|ak<|Rr<|?_;exact uw 2 3 O O O O O isAgg92 sizeOf92 sm sm (λw hw=>⟨rfl,ac hw⟩)
theorem TO(u r:W2)(hq: ¬IsQ (nm2 (gO (x1O u))))(hr:ml2 r r=gO (ml2 (zu2 u) (x1O u)))(hl:LG2 r=false):PUR 231 [EV2 u] (.tuple #[EV2 (ml2 (zu2 u) (x1O u)),EV2 (sgS r u)]):=by
 intro w hw;refine Hf func231 O hw<|λhGF=>Xp<|Bx 1 hGF O<|λb1=>Al 2 hGF zv92<|λb2=>Al 3 hGF zv92<|λb3=>aa<|Xp<|La 1 O O aR<|Ca O (iI _)<|Ca O (pZ)<|Ca O (DB u)<|Al 4 hGF zv92<|λb4=>Sa 4 hGF O O O aR<|aa<|Xp<|La 4 O O aR<|Ca O (B1 u)<|Al 5 hGF zv92<|λb5=>Sa 5 hGF O O O aR<|aa<|Xp<|La 5 O O aR<|Ca O (psq _)<|Ca O (s8 _ hq)<|Mv O<|Ext O O<|Ext O O<|Al 6 hGF zv92<|λb6=>Sa 6 hGF O O O aR<|Asg O<|aa<|ah<|Xp<|Mv O<|aU O (λ_=>aF _) O O<|aa<|aL O<|Xp<|La 4 O O aR<|La 5 O O aR<|?_;refine Ca O (dv (zu2 u) (x1O u))<|Sa 5 hGF O O O aR<|aa<|Xq<|La 5 O O aR<|Ca O (psq _)<|Ca O (o5 _ r hr hl)<|Mv O<|Ext O O<|Ext O O<|Sa 6 hGF O O O aR<|aa<|Xd []<|La 5 O O aR<|La 6 O O aR<|La 1 O O aR<|Ca O (u0 _)<|Ca O (AR r u)<|Sa 2 hGF O O O aR<|Sa 3 hGF O O O aR<|aa<|ak<|Rr<|?_;exact uw 2 3 O O O O O isAgg92 sizeOf92 sm sm (λw hw=>⟨rfl,ac hw⟩)
theorem pswu{u x r:W2}(h:SwR u x r):PUR 231 [EV2 u] (.tuple #[EV2 x,EV2 (sgS r u)]):=by
 obtain ⟨hr,hl,rfl|⟨hq,rfl⟩⟩:=h
 ·exact T8 u r hr hl
 ·exact TO u r hq hr hl
end
end Go.Proofs.YtfgacclgjklgnaaGreatDoor
