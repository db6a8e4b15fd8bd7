/- L6 -/
import Derived.Test.YtfgacclgjklgnaaGreatDoorL5
import Derived.Test.YtfgacclgjklgnaaGreatDoorXW
import Derived.Test.YtfgacclgjklgnaaGreatDoorX1
import Derived.Test.YtfgacclgjklgnaaGreatDoorX5
import Derived.Test.YtfgacclgjklgnaaGreatDoorX2
import Derived.Lib.BufferMore
import Derived.Test.YtfgacclgjklgnaaGreatDoorX3
import Derived.Test.YtfgacclgjklgnaaGreatDoorL1
import Derived.Test.YtfgacclgjklgnaaGreatDoorM1
import Derived.Test.YtfgacclgjklgnaaGreatDoorL2
set_option maxRecDepth 100000
set_option maxHeartbeats 1000000
namespace Go.Proofs.YtfgacclgjklgnaaGreatDoor
open Go.Proofs.Tryz
section
open Go.RowKit
attribute [local simp] aW bd aU aP aD bf aL aK aB PLl cm cq N1l cr cp cu a8 bg aQ a6 bc J1.bj J2.bj Q6.eI Q6.fy
attribute [local simp] gg uI
theorem nC(k:Zr)(w:World)(hw:Gt w):CLS 93 [RV k].toArray w (fun e w'=> ∃b1,e=.returned (.func (.func 192) #[] #[pnt b1])∧Grow w w'∧w.heap.size≤b1∧OwnB w' b1 ((nr k).map U64) 25):=by
 refine Hf func93 rfl hw<|fun hGF=>ae (E:=EE [143])<|Bx 1 hGF rfl<|fun b1=>Asg rfl<|aa<|ae (E:=EE [143])<|Fa 0 rfl underlying27 rfl sizeOf25<|La 1 rfl rfl bK<|?_
 refine cV rfl rfl ent143 rfl rfl (fun w' hw'=>(wd (nr k) sm w' (hGF.g _ _ _ hw')).mono fun e' w'' h=> ?_)
 obtain ⟨c1,rfl,hg,h1,ho⟩:=h
 refine ⟨_,_,rfl,au hGF,hw'.news ak hg [(33,c1,(nr k).map U64,25)] ?_ bN, ?_⟩
 ·intro n' b' c' t' hl
  rcases aC hl with ⟨_,e⟩|⟨_,hl⟩
  ·cases e;exact ⟨h1,ho⟩
  ·cases hl
 clear hw' hg h1 ho
 refine Asg rfl<|aa<|am<|Rr<|?_
 exact aE rfl rfl (fun w hw=>⟨c1,rfl,ac hw,(hw.own 33 c1 _ _ rfl).2.elim id False.elim,(hw.own 33 c1 _ _ rfl).1⟩)
def dg(a:L6)(m:Nat):Bool:=decide (dig a (383-m)=1)
theorem zI(a:L6): ∀m,fJ a m=oL (dg a) 384 m
 |0=>rfl
 |m+1=>by
  rw[fJ,oL,zI a m]
  by_cases h:dig a (383-m)=1
  ·rw[if_pos h,if_pos (show dg a m=true from decide_eq_true h)]
  ·rw[if_neg h,if_neg (show¬dg a m=true from fun e=>h (of_decide_eq_true e))]
theorem N5(a:L6)(m:Nat)(hm:m<384):dg a m=true↔V a 6 / 2^(384-1-m) % 2=1:=by
 have e:=r8 a 6 (383-m) om
 rw[show 384-1-m=383-m from by omega,←e]
 constructor
 ·intro h
  have h2:dig a (383-m)=1:=of_decide_eq_true h
  rw[h2];rfl
 ·intro h
  refine decide_eq_true (BitVec.eq_of_toNat_eq ?_)
  rw[h];rfl
theorem CR{a:L6}{N:Nat}(hN:N=384)(h:V a 6<2^N):SOg (oL (dg a) N N)=V a 6:=by
 rw[xE]
 exact O3 h (fun m hm=>by subst hN;exact N5 a m hm)
def onK(k:Zr):List Nat:=fJ (nr k) 384
theorem F2(k:Zr){N:Nat}(hN:N=384):onK k=oL (dg (nr k)) N N:=by
 subst hN
 exact zI (nr k) 384
theorem Qa(k:Zr){N:Nat}(hN:N=384):V (nr k) 6<2^N:=by
 have h:=uR (nr k) 6
 rw[show 64*6=N from hN.symm]at h
 exact h
theorem Ae(k:Zr){N:Nat}(hN:N=384):SOg (onK k)=k.val:=by rw[F2 k hN,CR hN (Qa k hN),Bh]
theorem EJ(k:Zr){N:Nat}(hN:N=384):(onK k).Pairwise (fun a b=>b≤a):=by rw[F2 k hN];exact vb _ _ _ (Nat.le_refl _)
theorem Eo(k:Zr){N:Nat}(hN:N=384){b:Nat}(h:b∈onK k):b<100000000:=by
 rw[F2 k hN]at h
 have:=DH h (Nat.le_refl _)
 omega
theorem uE{b:Nat}{c:List Value}{w w':World}(h:w.rangeAt b 0 c)(hg:Grow w w'):w'.rangeAt b 0 c:=fun j v hv=>(hg.cell (block_lt_of_cell (h j v hv))).trans (h j v hv)
namespace J1
theorem sk(c1:Nat)(k:Zr){L:List Nat}(hL:onK k=L):eG prog Gt 192 [pnt c1] (NLs L) (fun W=>W.rangeAt c1 0 ((nr k).map U64)):=by
 subst hL
 exact un c1 (nr k) (gg k)
theorem xN(p:GP)(k:Zr){L:List Nat}(hL:onK k=L)(hb: ∀b∈L,b<100000000):PUR 43 [PtV p,RV k] (JV (tmF p.J L)):=by
 intro w hw
 refine Hf func43 rfl hw<|fun hGF=>ae (E:=EE [93,2000093])<|Bx 2 hGF rfl<|fun b2=>Bx 3 hGF rfl<|fun b3=>Al 4 hGF zv54<|fun b4=>aa<|Xd [93,2000093]<|La 2 rfl rfl bT<|La 3 rfl rfl cw<|?_
 refine bI rfl rfl ent93 rfl rfl (fun w' hw'=>(nC k w' (hGF.g _ _ _ hw')).mono fun e' w'' h=> ?_)
 obtain ⟨c1,rfl,hg,h1,ho⟩:=h
 refine ⟨_,_,rfl,au hGF,hw'.news ak hg [(33,c1,(nr k).map U64,25)] ?_ bN,bJ ak rfl, ?_⟩
 ·intro n' b' c' t' hl
  rcases aC hl with ⟨_,e⟩|⟨_,hl⟩
  ·cases e;exact ⟨h1,ho⟩
  ·cases hl
 clear hw' hg h1 ho
 refine Cc rfl ent92 (fun w' hC hG=>fH p.J 192 [pnt c1] L (fun W=>W.rangeAt c1 0 ((nr k).map U64)) ent192 (sk c1 k hL) hb w' hG (fun w'' hg=>uE (aO (n:=33) rfl w' hC) hg))<|Sa 4 hGF rfl rfl rfl bT<|aa<|am<|Rr<|?_
 exact ay 4 rfl rfl rfl isAgg54 sizeOf54 sm (fun w hw=>⟨rfl,ac hw⟩)
theorem wM{x:Zp×Zp×Zp}{P:Pt Zp}(hP:E1.onP P)(hx:E1.jr x P)(k:Zr):E1.jr (tmF x (onK k)) (E1.times P k.val):=by
 rw[←Ae k rfl]
 exact tmF_jr hP hx (EJ k rfl)
def qY(p:GP)(k:Zr):GP:=⟨tmF p.J (onK k),E1.times p.P k.val,E1.times_on p.on _,wM p.on p.jr k⟩
theorem tf(p:GP)(k:Zr):PUR 43 [PtV p,RV k] (PtV (qY p k)):=xN p k rfl (fun _ h=>Eo k rfl h)
end J1
namespace J2
theorem sk(c1:Nat)(k:Zr){L:List Nat}(hL:onK k=L):eG prog Gt 192 [pnt c1] (NLs L) (fun W=>W.rangeAt c1 0 ((nr k).map U64)):=by
 subst hL
 exact un c1 (nr k) (gg k)
theorem xN(p:GP)(k:Zr){L:List Nat}(hL:onK k=L)(hb: ∀b∈L,b<100000000):PUR 46 [PtV p,RV k] (EV6 (E2w.tmF p.J L)):=by
 intro w hw
 refine Hf func46 rfl hw<|fun hGF=>ae (E:=EE [93,2000093])<|Bx 2 hGF rfl<|fun b2=>Bx 3 hGF rfl<|fun b3=>Al 4 hGF zv94<|fun b4=>aa<|Xd [93,2000093]<|La 2 rfl rfl bG<|La 3 rfl rfl cw<|?_
 refine bI rfl rfl ent93 rfl rfl (fun w' hw'=>(nC k w' (hGF.g _ _ _ hw')).mono fun e' w'' h=> ?_)
 obtain ⟨c1,rfl,hg,h1,ho⟩:=h
 refine ⟨_,_,rfl,au hGF,hw'.news ak hg [(33,c1,(nr k).map U64,25)] ?_ bN,bJ ak rfl, ?_⟩
 ·intro n' b' c' t' hl
  rcases aC hl with ⟨_,e⟩|⟨_,hl⟩
  ·cases e;exact ⟨h1,ho⟩
  ·cases hl
 clear hw' hg h1 ho
 refine Cc rfl ent98 (fun w' hC hG=>fH p.J 192 [pnt c1] L (fun W=>W.rangeAt c1 0 ((nr k).map U64)) ent192 (sk c1 k hL) hb w' hG (fun w'' hg=>uE (aO (n:=33) rfl w' hC) hg))<|Sa 4 hGF rfl rfl rfl bG<|aa<|am<|Rr<|?_
 exact ay 4 rfl rfl rfl isAgg94 sizeOf94 sm (fun w hw=>⟨rfl,ac hw⟩)
theorem wM{x:W6}{P:Pt W2}(hP:E2w.onP P)(hx:E2w.jr x P)(k:Zr):E2w.jr (E2w.tmF x (onK k)) (E2w.times P k.val):=by
 rw[←Ae k rfl]
 exact E2w.tmF_jr hP hx (EJ k rfl)
def qY(p:GP)(k:Zr):GP:=⟨E2w.tmF p.J (onK k),E2w.times p.P k.val,E2w.times_on p.on _,wM p.on p.jr k⟩
theorem tf(p:GP)(k:Zr):PUR 46 [PtV p,RV k] (PtV (qY p k)):=xN p k rfl (fun _ h=>Eo k rfl h)
end J2
end
section
open Go.RowKit
theorem ent282:ai prog 282:=fun _ _=>kr
theorem ent283:ai prog 283:=fun _ _=>kr
theorem ent296:ai prog 296:=fun _ _=>kr
theorem ent293:ai prog 293:=fun _ _=>kr
theorem ent297:ai prog 297:=fun _ _=>kr
theorem ent303:ai prog 303:=fun _ _=>kr
namespace Sh
theorem zv106(w:World):(zeroValue 106).run prog w=.ok (.agg ((List.replicate 64 (0#32)).map U32).toArray) w:=(zeroValue106 w).trans rr
theorem zv105(w:World):(zeroValue 105).run prog w=.ok (.agg ((List.replicate 8 (0#32)).map U32).toArray) w:=(zeroValue105 w).trans rr
theorem zv313(w:World):(zeroValue 313).run prog w=.ok (.agg ((List.replicate 64 (0#8)).map U8).toArray) w:=(zeroValue313 w).trans rr
theorem zv112(w:World):(zeroValue 112).run prog w=.ok (.agg ((List.replicate 32 (0#8)).map U8).toArray) w:=(zeroValue112 w).trans rr
def lX(x:BitVec 32)(k:Int):BitVec 32:=(x<<<(BitVec.ofInt 64 k &&& 31#64).toNat)|||(x>>>(32#64-(BitVec.ofInt 64 k &&& 31#64)).toNat)
theorem dV(x:BitVec 32)(k:Int):PUR 306 [U32 x,I k] (U32 (lX x k)):=by
 intro w hw
 refine Hf func306 rfl hw<|fun hGF=>Xp<|Asg rfl<|aa<|Xp<|Mv rfl<|cT rfl rfl (fun _=>oG underlying3 underlying216 _) rfl rfl<|Bnr rfl rfl (fun _=>fw _ _ _)<|Asg rfl<|aa<|Xp<|Mv rfl<|Mv rfl<|Bnr rfl rfl (fun _=>ip _ _ _)<|Mv rfl<|Mv rfl<|Bnr rfl rfl (fun _=>nf _ _ _)<|Bnr rfl rfl (fun _=>fk _ _ _)<|Bnr rfl rfl (fun _=>i5 _ _ _)<|Asg rfl<|aa<|am<|Rr<|?_
 exact aE rfl rfl (fun w hw=>⟨rfl,ac hw⟩)
def turn(x:BitVec 32)(n:Nat):BitVec 32:=(x>>>n)|||(x<<<(32-n))
def uu(x:BitVec 32):BitVec 32:=lX x (-6)^^^lX x (-11)^^^lX x (-25)
theorem AI(x:BitVec 32):PUR 301 [U32 x] (U32 (uu x)):=by
 intro w hw
 refine Hf func301 rfl hw<|fun hGF=>Xp<|Asg rfl<|aa<|Xp<|Mv rfl<|Ca rfl (dV _ _)<|Mv rfl<|Ca rfl (dV _ _)<|Bnr rfl rfl (fun _=>cL _ _ _)<|Mv rfl<|Ca rfl (dV _ _)<|Bnr rfl rfl (fun _=>cL _ _ _)<|Asg rfl<|aa<|am<|Rr<|?_
 exact aE rfl rfl (fun w hw=>⟨rfl,ac hw⟩)
def G8(x:BitVec 32):BitVec 32:=lX x (-2)^^^lX x (-13)^^^lX x (-22)
theorem AN(x:BitVec 32):PUR 302 [U32 x] (U32 (G8 x)):=by
 intro w hw
 refine Hf func302 rfl hw<|fun hGF=>Xp<|Asg rfl<|aa<|Xp<|Mv rfl<|Ca rfl (dV _ _)<|Mv rfl<|Ca rfl (dV _ _)<|Bnr rfl rfl (fun _=>cL _ _ _)<|Mv rfl<|Ca rfl (dV _ _)<|Bnr rfl rfl (fun _=>cL _ _ _)<|Asg rfl<|aa<|am<|Rr<|?_
 exact aE rfl rfl (fun w hw=>⟨rfl,ac hw⟩)
def HY(x:BitVec 32):BitVec 32:=lX x (-7)^^^lX x (-18)^^^(x>>>3)
theorem Ba(x:BitVec 32):PUR 305 [U32 x] (U32 (HY x)):=by
 intro w hw
 refine Hf func305 rfl hw<|fun hGF=>Xp<|Asg rfl<|aa<|Xp<|Mv rfl<|Ca rfl (dV _ _)<|Mv rfl<|Ca rfl (dV _ _)<|Bnr rfl rfl (fun _=>cL _ _ _)<|Mv rfl<|Bnr rfl rfl (fun _=>fk _ _ _)<|Bnr rfl rfl (fun _=>cL _ _ _)<|Asg rfl<|aa<|am<|Rr<|?_
 exact aE rfl rfl (fun w hw=>⟨rfl,ac hw⟩)
def Hz(x:BitVec 32):BitVec 32:=lX x (-17)^^^lX x (-19)^^^(x>>>10)
theorem BG(x:BitVec 32):PUR 304 [U32 x] (U32 (Hz x)):=by
 intro w hw
 refine Hf func304 rfl hw<|fun hGF=>Xp<|Asg rfl<|aa<|Xp<|Mv rfl<|Ca rfl (dV _ _)<|Mv rfl<|Ca rfl (dV _ _)<|Bnr rfl rfl (fun _=>cL _ _ _)<|Mv rfl<|Bnr rfl rfl (fun _=>fk _ _ _)<|Bnr rfl rfl (fun _=>cL _ _ _)<|Asg rfl<|aa<|am<|Rr<|?_
 exact aE rfl rfl (fun w hw=>⟨rfl,ac hw⟩)
end Sh
end
section
open Go.RowKit
namespace Sh
def w4(bl:L8)(i:Nat):BitVec 32:=((bl.getD (4*i) 0).setWidth 32<<<24)|||((bl.getD (4*i+1) 0).setWidth 32<<<16)|||((bl.getD (4*i+2) 0).setWidth 32<<<8)|||(bl.getD (4*i+3) 0).setWidth 32
def W1(bl:L8):Nat→L3
 |0=>List.replicate 64 0#32
 |k+1=>(W1 bl k).set k (w4 bl k)
theorem xu(bl:L8): ∀k,(W1 bl k).length=64
 |0=>by simp[W1]
 |k+1=>by simp[W1,xu bl k]
def w5(ws:L3)(i:Nat):BitVec 32:=Hz (ws.getD (i-2) 0)+ws.getD (i-7) 0+HY (ws.getD (i-15) 0)+ws.getD (i-16) 0
def W2(bl:L8):Nat→L3
 |0=>W1 bl 16
 |k+1=>(W2 bl k).set (16+k) (w5 (W2 bl k) (16+k))
theorem gh(bl:L8): ∀k,(W2 bl k).length=64
 |0=>xu bl 16
 |k+1=>by simp[W2,gh bl k]
theorem vR(bl:L8)(hb:bl.length=64):PUR 300 [.agg (bl.map U8).toArray] (.agg ((W2 bl 48).map U32).toArray):=by
 intro w hw
 refine Hf func300 rfl hw<|fun hGF=>Xp<|Bx 1 hGF rfl<|fun b1=>Al 2 hGF zv106<|fun b2=>aa<|Xp<|Al 3 hGF zv106<|fun b3=>aa<|ah<|Xp<|Mv rfl<|aa<|aj<|cG (ι:={i:Nat // i≤16}) (fun x=>[(6,I (x.1:Int)),(1,pnt b1),(2,pnt b2),(3,pnt b3)]) (fun x=>[(3,b3,(W1 bl x.1).map U32,106),(2,b2,(List.replicate 64 (0#32)).map U32,106),(1,b1,bl.map U8,313)]) (fun x=>16-x.1) ⟨0,om⟩ hGF trv trv<|?_
 rintro ⟨i,hi⟩
 dsimp only
 refine Xp<|Bnr rfl rfl (fun _=>aF _ _ _)<|aa<|ah<|?_
 refine bZ rfl (fun hc=> ?_) (fun hc=> ?_)
 ·simp only[decide_eq_true_eq]at hc
  refine ap<|ah<|aj<|Xp<|Mv rfl<|Asg rfl<|aa<|Xe []<|Mv rfl<|Mv rfl<|Bnr rfl rfl (fun _=>bR _ _ _ oi)<|Ia ((4*i)) rfl rfl underlying313 sizeOf5<|Lm 1 U8 0 rfl rfl isAgg5 (by rw[hb];omega)<|cT rfl rfl (fun _=>io underlying5 underlying104 _) rfl rfl<|Bnr rfl rfl (fun _=>ip _ _ _)<|Mv rfl<|Bnr rfl rfl (fun _=>bR _ _ _ oi)<|Bnr rfl rfl (fun _=>aA _ _ _ oi)<|Ia (((4*i)+1)) rfl rfl underlying313 sizeOf5<|Lm 1 U8 0 rfl rfl isAgg5 (by rw[hb];omega)<|cT rfl rfl (fun _=>io underlying5 underlying104 _) rfl rfl<|Bnr rfl rfl (fun _=>ip _ _ _)<|Bnr rfl rfl (fun _=>i5 _ _ _)<|Mv rfl<|Bnr rfl rfl (fun _=>bR _ _ _ oi)<|Bnr rfl rfl (fun _=>aA _ _ _ oi)<|Ia (((4*i)+2)) rfl rfl underlying313 sizeOf5<|Lm 1 U8 0 rfl rfl isAgg5 (by rw[hb];omega)<|cT rfl rfl (fun _=>io underlying5 underlying104 _) rfl rfl<|Bnr rfl rfl (fun _=>ip _ _ _)<|Bnr rfl rfl (fun _=>i5 _ _ _)<|Mv rfl<|Bnr rfl rfl (fun _=>bR _ _ _ oi)<|Bnr rfl rfl (fun _=>aA _ _ _ oi)<|Ia (((4*i)+3)) rfl rfl underlying313 sizeOf5<|Lm 1 U8 0 rfl rfl isAgg5 (by rw[hb];omega)<|cT rfl rfl (fun _=>io underlying5 underlying104 _) rfl rfl<|Bnr rfl rfl (fun _=>i5 _ _ _)<|Ia (i) rfl rfl underlying106 sizeOf104<|bB 3 U32 hGF rfl rfl rfl sizeOf104 rfl (by rw[xu];omega) rfl<|?_
  exact aa<|Xq<|Bnr rfl rfl (fun _=>aA _ _ _ oi)<|Mv rfl<|aa<|aR<|⟨rfl,⟨i+1,om⟩,_,by show 16-(i+1)<16-i;omega,rfl,trv,trv⟩
 ·obtain rfl:i=16:=by simp at hc;omega
  refine be<|ah<|Xp<|Asg rfl<|aa<|aj<|cG (ι:={i:Nat // i≤48}) (fun x=>[(5,I ((16+x.1:Nat):Int)),(2,pnt b2),(3,pnt b3)]) (fun x=>[(3,b3,(W2 bl x.1).map U32,106),(2,b2,(List.replicate 64 (0#32)).map U32,106)]) (fun x=>48-x.1) ⟨0,om⟩ hGF trv trv<|?_
  rintro ⟨j,hj⟩
  dsimp only
  refine ah<|Xp<|Mv rfl<|Bnr rfl rfl (fun _=>aF _ _ _)<|aa<|?_
  refine bZ rfl (fun hc=> ?_) (fun hc=> ?_)
  ·simp only[decide_eq_true_eq]at hc
   exact ap<|ah<|aj<|Xe []<|Mv rfl<|Mv rfl<|Bnr rfl rfl (fun _=>bu _ _ _ oi)<|Ia (((16+j)-2)) rfl rfl underlying106 sizeOf104<|Lm 3 U32 0 rfl rfl isAgg104 (by rw[gh];omega)<|Ca rfl (BG _)<|Mv rfl<|Bnr rfl rfl (fun _=>bu _ _ _ oi)<|Ia (((16+j)-7)) rfl rfl underlying106 sizeOf104<|Lm 3 U32 0 rfl rfl isAgg104 (by rw[gh];omega)<|Bnr rfl rfl (fun _=>bM _ _ _)<|Mv rfl<|Bnr rfl rfl (fun _=>bu _ _ _ oi)<|Ia (((16+j)-15)) rfl rfl underlying106 sizeOf104<|Lm 3 U32 0 rfl rfl isAgg104 (by rw[gh];omega)<|Ca rfl (Ba _)<|Bnr rfl rfl (fun _=>bM _ _ _)<|Mv rfl<|Bnr rfl rfl (fun _=>bu _ _ _ oi)<|Ia (((16+j)-16)) rfl rfl underlying106 sizeOf104<|Lm 3 U32 0 rfl rfl isAgg104 (by rw[gh];omega)<|Bnr rfl rfl (fun _=>bM _ _ _)<|Ia ((16+j)) rfl rfl underlying106 sizeOf104<|bB 3 U32 hGF rfl rfl rfl sizeOf104 rfl (by rw[gh];omega) rfl<|aa<|Xq<|Mv rfl<|Bnr rfl rfl (fun _=>aA _ _ _ oi)<|Asg rfl<|aa<|aR<|⟨rfl,⟨j+1,om⟩,_,by show 48-(j+1)<48-j;omega,rfl,trv,trv⟩
  ·obtain rfl:j=48:=by simp at hc;omega
   refine be<|Xp<|Lw 3 rfl rfl y7 (gh _ _)<|Sx 2 hGF rfl rfl rfl y7 (gh _ _) (ig _)<|aa<|am<|Rr<|?_
   exact ay 2 rfl rfl rfl isAgg106 sizeOf106 (by rw[List.length_map,gh]) (fun w hw=>⟨rfl,ac hw⟩)
theorem gk{B:Bs}{L:Hl}{Y:Nat→Prop}(hw:Gt B.w0)(hM: ¬B.M 7)(k:Nat)(hk:k<64): ∀w,Hq B L Y w→w.cell? ⟨7,k,none⟩=some (U32 (KW.getD k 0)):=by
 have:=hw.g7 k _ (gm U32 KW 0 k hk)
 rw[Nat.zero_add]at this
 exact mK this hM
structure V8 where
 (a b c d e f g h:BitVec 32)
def rnd(v:V8)(k w:BitVec 32):V8:=
 ⟨(v.h+uu v.e+(v.e &&& v.f^^^ ~~~v.e &&& v.g)+k+w)+(G8 v.a+(v.a &&& v.b^^^v.a &&& v.c^^^v.b &&& v.c)),v.a,v.b,v.c,v.d+(v.h+uu v.e+(v.e &&& v.f^^^ ~~~v.e &&& v.g)+k+w),v.e,v.f,v.g⟩
def nM(v:V8)(ws:L3):Nat→V8
 |0=>v
 |k+1=>rnd (nM v ws k) (KW.getD k 0) (ws.getD k 0)
def v8(st:L3):V8:=⟨st.getD 0 0,st.getD 1 0,st.getD 2 0,st.getD 3 0,st.getD 4 0,st.getD 5 0,st.getD 6 0,st.getD 7 0⟩
def WJ(st:L3)(v:V8):L3:=[st.getD 0 0+v.a,st.getD 1 0+v.b,st.getD 2 0+v.c,st.getD 3 0+v.d,st.getD 4 0+v.e,st.getD 5 0+v.f,st.getD 6 0+v.g,st.getD 7 0+v.h]
def tX(st:L3)(bl:L8):L3:=WJ st (nM (v8 st) (W2 bl 48) 64)
theorem rJ(st:L3)(bl:L8)(hs:st.length=8)(hb:bl.length=64):PUR 294 [.agg (st.map U32).toArray,.agg (bl.map U8).toArray] (.agg ((tX st bl).map U32).toArray):=by
 intro w hw
 refine Hf func294 rfl hw<|fun hGF=>Xp<|Bx 2 hGF rfl<|fun b2=>Bx 3 hGF rfl<|fun b3=>Al 4 hGF zv105<|fun b4=>aa<|Xp<|Lw 3 rfl rfl zV hb<|Ca rfl (vR _ hb)<|Al 5 hGF zv106<|fun b5=>Sx 5 hGF rfl rfl rfl y7 (gh _ _) (ig _)<|aa<|Xd []<|Ia (0) rfl rfl underlying105 sizeOf104<|Lm 2 U32 0 rfl rfl isAgg104 (by rw[hs];omega)<|Ia (1) rfl rfl underlying105 sizeOf104<|Lm 2 U32 0 rfl rfl isAgg104 (by rw[hs];omega)<|Ia (2) rfl rfl underlying105 sizeOf104<|Lm 2 U32 0 rfl rfl isAgg104 (by rw[hs];omega)<|Ia (3) rfl rfl underlying105 sizeOf104<|Lm 2 U32 0 rfl rfl isAgg104 (by rw[hs];omega)<|Asg rfl<|Asg rfl<|Asg rfl<|Asg rfl<|aa<|Xd []<|Ia (4) rfl rfl underlying105 sizeOf104<|Lm 2 U32 0 rfl rfl isAgg104 (by rw[hs];omega)<|Ia (5) rfl rfl underlying105 sizeOf104<|Lm 2 U32 0 rfl rfl isAgg104 (by rw[hs];omega)<|Ia (6) rfl rfl underlying105 sizeOf104<|Lm 2 U32 0 rfl rfl isAgg104 (by rw[hs];omega)<|Ia (7) rfl rfl underlying105 sizeOf104<|Lm 2 U32 0 rfl rfl isAgg104 (by rw[hs];omega)<|Asg rfl<|Asg rfl<|Asg rfl<|Asg rfl<|aa<|?_
 refine ah<|Xp<|Lw 5 rfl rfl y7 (gh _ _)<|Mv rfl<|aa<|aj<|cG (ι:={i:Nat // i≤64}) (fun x=>[(39,I (x.1:Int)),(2,pnt b2),(4,pnt b4),(6,U32 (nM (v8 st) (W2 bl 48) x.1).a),(7,U32 (nM (v8 st) (W2 bl 48) x.1).b),(8,U32 (nM (v8 st) (W2 bl 48) x.1).c),(9,U32 (nM (v8 st) (W2 bl 48) x.1).d),(10,U32 (nM (v8 st) (W2 bl 48) x.1).e),(11,U32 (nM (v8 st) (W2 bl 48) x.1).f),(12,U32 (nM (v8 st) (W2 bl 48) x.1).g),(13,U32 (nM (v8 st) (W2 bl 48) x.1).h),(38,.agg ((W2 bl 48).map U32).toArray)]) (fun x=>[(2,b2,st.map U32,105),(4,b4,(List.replicate 8 (0#32)).map U32,105)]) (fun x=>64-x.1) ⟨0,om⟩ hGF trv trv<|?_
 rintro ⟨i,hi⟩
 dsimp only
 refine Xp<|Bnr rfl rfl (fun _=>aF _ _ _)<|aa<|ah<|?_
 refine bZ rfl (fun hc=> ?_) (fun hc=> ?_)
 ·simp only[decide_eq_true_eq]at hc
  refine ap<|ah<|aj<|Xp<|Mv rfl<|jC U32 0 (i) rfl rfl underlying106 sizeOf104 isAgg104 om om (gh _ _) rfl rfl<|Asg rfl<|Asg rfl<|aa<|Xp<|Mv rfl<|Mv rfl<|Bnr rfl rfl (fun _=>ga _ _ _)<|Mv rfl<|aY rfl (fun _=>ww _) rfl rfl<|Mv rfl<|Bnr rfl rfl (fun _=>ga _ _ _)<|Bnr rfl rfl (fun _=>cL _ _ _)<|Asg rfl<|aa<|Xd []<|Mv rfl<|Mv rfl<|Ca rfl (AI _)<|Bnr rfl rfl (fun _=>bM _ _ _)<|Mv rfl<|Bnr rfl rfl (fun _=>bM _ _ _)<|Mv rfl<|Ia (i) rfl rfl underlying106 sizeOf104<|bz rfl isAgg104 (gk (B:=pl w) hw (fun h=>h) (i) om) rfl rfl<|Bnr rfl rfl (fun _=>bM _ _ _)<|Mv rfl<|Bnr rfl rfl (fun _=>bM _ _ _)<|Asg rfl<|aa<|Xp<|Mv rfl<|Mv rfl<|Bnr rfl rfl (fun _=>ga _ _ _)<|Mv rfl<|?_
  refine Mv rfl<|Bnr rfl rfl (fun _=>ga _ _ _)<|Bnr rfl rfl (fun _=>cL _ _ _)<|Mv rfl<|Mv rfl<|Bnr rfl rfl (fun _=>ga _ _ _)<|Bnr rfl rfl (fun _=>cL _ _ _)<|Asg rfl<|aa<|Xp<|Mv rfl<|Ca rfl (AN _)<|Mv rfl<|Bnr rfl rfl (fun _=>bM _ _ _)<|Asg rfl<|aa<|Xp<|Mv rfl<|Mv rfl<|Mv rfl<|Mv rfl<|Mv rfl<|Bnr rfl rfl (fun _=>bM _ _ _)<|Asg rfl<|Asg rfl<|Asg rfl<|Asg rfl<|aa<|Xq<|Mv rfl<|Mv rfl<|Mv rfl<|Mv rfl<|Mv rfl<|Bnr rfl rfl (fun _=>bM _ _ _)<|Asg rfl<|Asg rfl<|Asg rfl<|Asg rfl<|aa<|?_
  exact Xq<|Bnr rfl rfl (fun _=>aA _ _ _ oi)<|Mv rfl<|aa<|aR<|⟨rfl,⟨i+1,om⟩,_,by show 64-(i+1)<64-i;omega,rfl,trv,trv⟩
 ·obtain rfl:i=64:=by simp at hc;omega
  refine be<|Xp<|Ia (0) rfl rfl underlying105 sizeOf104<|Lm 2 U32 0 rfl rfl isAgg104 (by rw[hs];omega)<|Mv rfl<|Bnr rfl rfl (fun _=>bM _ _ _)<|Ia (1) rfl rfl underlying105 sizeOf104<|Lm 2 U32 0 rfl rfl isAgg104 (by rw[hs];omega)<|Mv rfl<|Bnr rfl rfl (fun _=>bM _ _ _)<|Ia (2) rfl rfl underlying105 sizeOf104<|Lm 2 U32 0 rfl rfl isAgg104 (by rw[hs];omega)<|Mv rfl<|Bnr rfl rfl (fun _=>bM _ _ _)<|Ia (3) rfl rfl underlying105 sizeOf104<|Lm 2 U32 0 rfl rfl isAgg104 (by rw[hs];omega)<|Mv rfl<|Bnr rfl rfl (fun _=>bM _ _ _)<|Ia (4) rfl rfl underlying105 sizeOf104<|Lm 2 U32 0 rfl rfl isAgg104 (by rw[hs];omega)<|Mv rfl<|Bnr rfl rfl (fun _=>bM _ _ _)<|Ia (5) rfl rfl underlying105 sizeOf104<|Lm 2 U32 0 rfl rfl isAgg104 (by rw[hs];omega)<|Mv rfl<|Bnr rfl rfl (fun _=>bM _ _ _)<|Ia (6) rfl rfl underlying105 sizeOf104<|Lm 2 U32 0 rfl rfl isAgg104 (by rw[hs];omega)<|Mv rfl<|Bnr rfl rfl (fun _=>bM _ _ _)<|Ia (7) rfl rfl underlying105 sizeOf104<|Lm 2 U32 0 rfl rfl isAgg104 (by rw[hs];omega)<|Mv rfl<|Bnr rfl rfl (fun _=>bM _ _ _)<|rt (n:=8) rfl rfl underlying105 sizeOf104 zeroValue105 rfl rfl rfl rfl<|ao 4 hGF rfl rfl rfl sizeOf105 rfl (by rw[List.length_map,List.length_replicate]) rfl rfl<|aa<|am<|Rr<|?_
  exact ay 4 rfl rfl rfl isAgg105 sizeOf105 rfl (fun w hw=>⟨rfl,ac hw⟩)
def IV:L3:=[0x6a09e667#32,0xbb67ae85#32,0x3c6ef372#32,0xa54ff53a#32,0x510e527f#32,0x9b05688c#32,0x1f83d9ab#32,0x5be0cd19#32]
theorem wE  :PUR 299 [] (.agg (IV.map U32).toArray):=by
 intro w hw
 refine Hf func299 rfl hw<|fun hGF=>Xp<|Al 0 hGF zv105<|fun b0=>aa<|Xp<|rt (n:=8) rfl rfl underlying105 sizeOf104 zeroValue105 rfl rfl rfl rfl<|ao 0 hGF rfl rfl rfl sizeOf105 rfl (by rw[List.length_map,List.length_replicate]) rfl rfl<|aa<|am<|Rr<|?_
 exact ay 0 rfl rfl rfl isAgg105 sizeOf105 rfl (fun w hw=>⟨rfl,ac hw⟩)
def DG(st:L3):Nat→L8
 |0=>List.replicate 32 0#8
 |k+1=>((((DG st k).set (4*k) ((st.getD k 0>>>24).setWidth 8)).set (4*k+1) ((st.getD k 0>>>16).setWidth 8)).set (4*k+2) ((st.getD k 0>>>8).setWidth 8)).set (4*k+3) ((st.getD k 0).setWidth 8)
theorem eN(st:L3): ∀k,(DG st k).length=32
 |0=>by simp[DG]
 |k+1=>by simp[DG,eN st k]
theorem vn(st:L3)(hs:st.length=8):PUR 295 [.agg (st.map U32).toArray] (.agg ((DG st 8).map U8).toArray):=by
 intro w hw
 refine Hf func295 rfl hw<|fun hGF=>Xp<|Bx 1 hGF rfl<|fun b1=>Al 2 hGF zv112<|fun b2=>aa<|Xp<|Al 3 hGF zv112<|fun b3=>aa<|ah<|Xp<|Lw 1 rfl rfl nE hs<|Mv rfl<|aa<|aj<|cG (ι:={i:Nat // i≤8}) (fun x=>[(7,I (x.1:Int)),(2,pnt b2),(3,pnt b3),(6,.agg (st.map U32).toArray)]) (fun x=>[(3,b3,(DG st x.1).map U8,112),(2,b2,(List.replicate 32 (0#8)).map U8,112)]) (fun x=>8-x.1) ⟨0,om⟩ hGF trv trv<|?_
 rintro ⟨i,hi⟩
 dsimp only
 refine Xp<|Bnr rfl rfl (fun _=>aF _ _ _)<|aa<|ah<|?_
 refine bZ rfl (fun hc=> ?_) (fun hc=> ?_)
 ·simp only[decide_eq_true_eq]at hc
  refine ap<|ah<|aj<|Xp<|Mv rfl<|jC U32 0 (i) rfl rfl underlying105 sizeOf104 isAgg104 om om (hs) rfl rfl<|Asg rfl<|Asg rfl<|aa<|Xp<|Mv rfl<|Bnr rfl rfl (fun _=>bR _ _ _ oi)<|Mv rfl<|Bnr rfl rfl (fun _=>fk _ _ _)<|cT rfl rfl (fun _=>ie underlying104 underlying5 _) rfl rfl<|Ia ((4*i)) rfl rfl underlying112 sizeOf5<|bB 3 U8 hGF rfl rfl rfl sizeOf5 rfl (by simp[eN];omega) rfl<|aa<|Xp<|Mv rfl<|Bnr rfl rfl (fun _=>bR _ _ _ oi)<|Bnr rfl rfl (fun _=>aA _ _ _ oi)<|Mv rfl<|Bnr rfl rfl (fun _=>fk _ _ _)<|cT rfl rfl (fun _=>ie underlying104 underlying5 _) rfl rfl<|Ia (((4*i)+1)) rfl rfl underlying112 sizeOf5<|bB 3 U8 hGF rfl rfl rfl sizeOf5 rfl (by simp[eN];omega) rfl<|aa<|Xp<|Mv rfl<|Bnr rfl rfl (fun _=>bR _ _ _ oi)<|Bnr rfl rfl (fun _=>aA _ _ _ oi)<|Mv rfl<|Bnr rfl rfl (fun _=>fk _ _ _)<|cT rfl rfl (fun _=>ie underlying104 underlying5 _) rfl rfl<|Ia (((4*i)+2)) rfl rfl underlying112 sizeOf5<|bB 3 U8 hGF rfl rfl rfl sizeOf5 rfl (by simp[eN];omega) rfl<|aa<|Xq<|Mv rfl<|?_
  exact Bnr rfl rfl (fun _=>bR _ _ _ oi)<|Bnr rfl rfl (fun _=>aA _ _ _ oi)<|Mv rfl<|cT rfl rfl (fun _=>ie underlying104 underlying5 _) rfl rfl<|Ia (((4*i)+3)) rfl rfl underlying112 sizeOf5<|bB 3 U8 hGF rfl rfl rfl sizeOf5 rfl (by simp[eN];omega) rfl<|aa<|Xq<|Bnr rfl rfl (fun _=>aA _ _ _ oi)<|Mv rfl<|aa<|aR<|⟨rfl,⟨i+1,om⟩,_,by show 8-(i+1)<8-i;omega,rfl,trv,trv⟩
 ·obtain rfl:i=8:=by simp at hc;omega
  refine be<|Xp<|Lw 3 rfl rfl ul (eN _ _)<|Sx 2 hGF rfl rfl rfl ul (eN _ _) (bi _)<|aa<|am<|Rr<|?_
  exact ay 2 rfl rfl rfl isAgg112 sizeOf112 (by rw[List.length_map,eN]) (fun w hw=>⟨rfl,ac hw⟩)
end Sh
end
section
open Go.RowKit
namespace Sh
theorem Ez:(prog.info? 5).map (·.size)=some 1:=kr
def e1(rs:L8):L8:=(rs++List.replicate (64-rs.length) 0#8).set rs.length 128#8
theorem Df(rs:L8)(h:rs.length≤64):(e1 rs).length=64:=by simp[e1];omega
def LB(bl:L8)(n:BitVec 64):Nat→L8
 |0=>bl
 |k+1=>(LB bl n k).set (56+k) (((8#64*n)>>>(56-8*(k:Int)).toNat).setWidth 8)
theorem vX(bl:L8)(n:BitVec 64): ∀k,(LB bl n k).length=bl.length
 |0=>rfl
 |k+1=>by simp[LB,vX bl n k]
theorem sY(rs:L8)(n:BitVec 64)(h:rs.length≤64)(k:Nat):(LB (e1 rs) n k).length=64:=by rw[vX,Df rs h]
theorem rU(n:BitVec 64)(k:Nat):(LB (List.replicate 64 0#8) n k).length=64:=by rw[vX];simp
def sC(br bn:Nat)(a:Option Addr)(cap:Nat)(rs:L8)(n:BitVec 64):Cls:=fun W=>W.cell? ⟨br,0,none⟩=some (.slice a rs.length cap)∧W.cell? ⟨bn,0,none⟩=some (U64 n)∧BytesAt W a rs
def enc(bl:L8):List Value:=[.agg (bl.map U8).toArray]
theorem bD{J:(Nat→Prop)→World→Prop}(h:Rides J){L:Hl}{w:World}(hj:J (fun b=>Yof L b∨False) w):J (fun _=>False) w:=h.less _ _ _ (fun _ h=>h.elim) hj
theorem Bj(br bn:Nat)(a:Option Addr)(cap:Nat)(rs:L8)(n:BitVec 64)(h:rs.length<56):eG prog Gt 303 [pnt br,pnt bn] [enc (LB (e1 rs) n 8)] (sC br bn a cap rs n):=by
 intro l J Jx hJ hJx hRd hGx hY w hj
 have okJ: ∀k,BOk Gt (Bi w (fun Y=>J Y k)):=fun k=>⟨fun _ _ _ h=>(hRd _ _ _ h.rid).1,hJ k⟩
 have okX: ∀k,BOk Gt (Bi w (fun Y=>Jx Y k)):=fun k=>⟨fun _ _ _ h=>hGx _ _ _ h.rid,hJx k⟩
 have c1: ∀k L w',Hp (Bi w (fun Y=>J Y k)) L w'→sC br bn a cap rs n w':=fun k L w' h=>(hRd _ _ _ h.rid).2
 refine cb (G:=Gt) func303 rfl rfl (Hp (Bi w (fun Y=>J Y 0)) []) (bO (Bi w _) hj (hJ 0)) (au (okJ 0))<|Xp<|Al 4 (okJ _) zv313<|fun b4=>aa<|Xd []<|cf (l:=0) (h':=64) rfl underlying313 sizeOf5 rfl rfl om om rfl rfl<|bz rfl isAgg22 (fun w h=>(c1 _ _ w h).1) rfl rfl<|fD 4 (okJ _) rfl rfl rfl underlying22 Ez (by show rs.length=Nat.min rs.length 64;exact (Nat.min_eq_left om).symm) (fun w h=>(c1 _ _ w h).2.2) (by simp;omega) rfl rfl<|?_
 rw[rW rs 64 om]
 refine aa<|Xp<|bz rfl isAgg22 (fun w h=>(c1 _ _ w h).1) rfl rfl<|a5 rfl (fun _=>az underlying22 _ _ _ _) rfl rfl<|Ia (rs.length) rfl rfl underlying313 sizeOf5<|bB 4 U8 (okJ _) rfl rfl rfl sizeOf5 rfl (by simp;omega) rfl<|aa<|ah<|Xp<|bz rfl isAgg22 (fun w h=>(c1 _ _ w h).1) rfl rfl<|a5 rfl (fun _=>az underlying22 _ _ _ _) rfl rfl<|Bnr rfl rfl (fun _=>dU _ _ _)<|aa<|aq (by show some (Value.bool (decide ((rs.length:Int)≥56)))=_;rw[decide_eq_false om])<|ap<|Xp<|bz rfl isAgg24 (fun w h=>(c1 _ _ w h).2.1) rfl rfl<|Bnr rfl rfl (fun _=>cN _ _ _)<|Asg rfl<|aa<|ah<|Xp<|Mv rfl<|aa<|aj<|cG (ι:={i:Nat // i≤8}) (fun x=>[(23,I (x.1:Int)),(0,.func (.yield l) #[] #[]),(4,pnt b4),(5,U64 (8#64*n))]) (fun x=>[(4,b4,(LB (e1 rs) n x.1).map U8,313)]) (fun x=>8-x.1) ⟨0,om⟩ (okJ _) trv trv<|?_
 rintro ⟨i,hi⟩
 dsimp only
 refine Xp<|Bnr rfl rfl (fun _=>aF _ _ _)<|aa<|ah<|?_
 refine bZ rfl (fun hc=> ?_) (fun hc=> ?_)
 ·simp only[decide_eq_true_eq]at hc
  exact ap<|ah<|aj<|Xp<|Mv rfl<|Asg rfl<|aa<|Xq<|Mv rfl<|Bnr rfl rfl (fun _=>aA _ _ _ oi)<|Mv rfl<|Mv rfl<|Bnr rfl rfl (fun _=>bR _ _ _ oi)<|Bnr rfl rfl (fun _=>bu _ _ _ oi)<|Bnr rfl rfl (fun _=>eS _ _ _ om)<|cT rfl rfl (fun _=>ir underlying24 underlying5 _) rfl rfl<|Ia ((56+i)) rfl rfl underlying313 sizeOf5<|bB 4 U8 (okJ _) rfl rfl rfl sizeOf5 rfl (by rw[sY rs n om];omega) rfl<|aa<|Xq<|Bnr rfl rfl (fun _=>aA _ _ _ oi)<|Mv rfl<|aa<|aR<|⟨rfl,⟨i+1,om⟩,_,by show 8-(i+1)<8-i;omega,rfl,trv,trv⟩
 ·obtain rfl:i=8:=by simp at hc;omega
  refine be<|Xq<|Mv rfl<|Lw 4 rfl rfl zV (by rw[sY rs n om])<|?_
  refine cX (hY.b (k:=0) rfl w) (okJ _) (okX _) rfl rfl rfl rfl rfl ?_ ?_
  ·exact aa<|cn rfl (fun w hw=>⟨⟨_,rfl⟩,.inl (bD (hJ _) hw.rid)⟩)
  ·exact aa<|cn rfl (fun w hw=>⟨⟨_,rfl⟩,.inr ⟨_,bD (hJx _) hw.rid⟩⟩)
theorem DQ(br bn:Nat)(a:Option Addr)(cap:Nat)(rs:L8)(n:BitVec 64)(h:56≤rs.length)(h2:rs.length<64):eG prog Gt 303 [pnt br,pnt bn] [enc (e1 rs),enc (LB (List.replicate 64 0#8) n 8)] (sC br bn a cap rs n):=by
 intro l J Jx hJ hJx hRd hGx hY w hj
 have okJ: ∀k,BOk Gt (Bi w (fun Y=>J Y k)):=fun k=>⟨fun _ _ _ h=>(hRd _ _ _ h.rid).1,hJ k⟩
 have okX: ∀k,BOk Gt (Bi w (fun Y=>Jx Y k)):=fun k=>⟨fun _ _ _ h=>hGx _ _ _ h.rid,hJx k⟩
 have c1: ∀k L w',Hp (Bi w (fun Y=>J Y k)) L w'→sC br bn a cap rs n w':=fun k L w' h=>(hRd _ _ _ h.rid).2
 refine cb (G:=Gt) func303 rfl rfl (Hp (Bi w (fun Y=>J Y 0)) []) (bO (Bi w _) hj (hJ 0)) (au (okJ 0))<|Xp<|Al 4 (okJ _) zv313<|fun b4=>aa<|Xd []<|cf (l:=0) (h':=64) rfl underlying313 sizeOf5 rfl rfl om om rfl rfl<|bz rfl isAgg22 (fun w h=>(c1 _ _ w h).1) rfl rfl<|fD 4 (okJ _) rfl rfl rfl underlying22 Ez (by show rs.length=Nat.min rs.length 64;exact (Nat.min_eq_left om).symm) (fun w h=>(c1 _ _ w h).2.2) (by simp;omega) rfl rfl<|?_
 rw[rW rs 64 om]
 refine aa<|Xp<|bz rfl isAgg22 (fun w h=>(c1 _ _ w h).1) rfl rfl<|a5 rfl (fun _=>az underlying22 _ _ _ _) rfl rfl<|Ia (rs.length) rfl rfl underlying313 sizeOf5<|bB 4 U8 (okJ _) rfl rfl rfl sizeOf5 rfl (by simp;omega) rfl<|aa<|ah<|Xp<|bz rfl isAgg22 (fun w h=>(c1 _ _ w h).1) rfl rfl<|a5 rfl (fun _=>az underlying22 _ _ _ _) rfl rfl<|Bnr rfl rfl (fun _=>dU _ _ _)<|aa<|aV (by show some (Value.bool (decide ((rs.length:Int)≥56)))=_;rw[decide_eq_true om])<|ah<|Xp<|Mv rfl<|a9 4 rfl rfl isAgg313 sizeOf313 (by simp;omega) rfl rfl<|?_
 refine cX (hY.b (k:=0) rfl w) (okJ _) (okX _) rfl rfl rfl rfl rfl ?_ ?_
 ·refine aY rfl (fun _=>aJ _) rfl rfl<|aa<|aq rfl<|ap<|Xq<|gJ zv313 underlying313 sizeOf5 rfl rfl<|ao 4 (okJ _) rfl rfl rfl sizeOf313 (by rw[List.length_map,List.length_replicate]) (by simp;omega) (bi _) rfl<|aa<|Xp<|bz rfl isAgg24 (fun w h=>(c1 _ _ w h).2.1) rfl rfl<|Bnr rfl rfl (fun _=>cN _ _ _)<|Asg rfl<|aa<|ah<|Xp<|Mv rfl<|aa<|aj<|cG (ι:={i:Nat // i≤8}) (fun x=>[(23,I (x.1:Int)),(0,.func (.yield l) #[] #[]),(4,pnt b4),(5,U64 (8#64*n))]) (fun x=>[(4,b4,(LB (List.replicate 64 0#8) n x.1).map U8,313)]) (fun x=>8-x.1) ⟨0,om⟩ (okJ _) trv trv<|?_
  rintro ⟨i,hi⟩
  dsimp only
  refine Xp<|Bnr rfl rfl (fun _=>aF _ _ _)<|aa<|ah<|?_
  refine bZ rfl (fun hc=> ?_) (fun hc=> ?_)
  ·simp only[decide_eq_true_eq]at hc
   exact ap<|ah<|aj<|Xp<|Mv rfl<|Asg rfl<|aa<|Xq<|Mv rfl<|Bnr rfl rfl (fun _=>aA _ _ _ oi)<|Mv rfl<|Mv rfl<|Bnr rfl rfl (fun _=>bR _ _ _ oi)<|Bnr rfl rfl (fun _=>bu _ _ _ oi)<|Bnr rfl rfl (fun _=>eS _ _ _ om)<|cT rfl rfl (fun _=>ir underlying24 underlying5 _) rfl rfl<|Ia ((56+i)) rfl rfl underlying313 sizeOf5<|bB 4 U8 (okJ _) rfl rfl rfl sizeOf5 rfl (by rw[rU];omega) rfl<|aa<|Xq<|Bnr rfl rfl (fun _=>aA _ _ _ oi)<|Mv rfl<|aa<|aR<|⟨rfl,⟨i+1,om⟩,_,by show 8-(i+1)<8-i;omega,rfl,trv,trv⟩
  ·obtain rfl:i=8:=by simp at hc;omega
   refine be<|Xq<|Mv rfl<|Lw 4 rfl rfl zV (rU _ _)<|?_
   refine cX (hY.b (k:=1) rfl w) (okJ _) (okX _) rfl rfl rfl rfl rfl ?_ ?_
   ·exact aa<|cn rfl (fun w hw=>⟨⟨_,rfl⟩,.inl (bD (hJ _) hw.rid)⟩)
   ·exact aa<|cn rfl (fun w hw=>⟨⟨_,rfl⟩,.inr ⟨_,bD (hJx _) hw.rid⟩⟩)
 ·refine aY rfl (fun _=>aJ _) rfl rfl<|aa<|aV rfl<|am<|Rr<|?_
  exact cR rfl (fun w hw=>⟨⟨_,rfl⟩,.inr ⟨_,bD (hJx _) hw.rid⟩⟩)
end Sh
end
section
open Go.RowKit
namespace Sh
def fE(rs:L8)(n:BitVec 64):List L8:=if rs.length<56 then [LB (e1 rs) n 8]else [e1 rs,LB (List.replicate 64 0#8) n 8]
theorem vC(rs:L8)(n:BitVec 64)(h:rs.length<64): ∀bl∈fE rs n,bl.length=64:=by
 unfold fE
 split
 ·intro bl hbl
  rcases List.mem_singleton.1 hbl with rfl
  exact sY rs n om 8
 ·intro bl hbl
  rcases List.mem_cons.1 hbl with rfl|hbl
  ·exact Df rs om
  ·rcases List.mem_singleton.1 hbl with rfl
   exact rU n 8
theorem HQ(br bn:Nat)(a:Option Addr)(cap:Nat)(rs:L8)(n:BitVec 64)(h:rs.length<64):eG prog Gt 303 [pnt br,pnt bn] ((fE rs n).map enc) (sC br bn a cap rs n):=by
 unfold fE
 split
 ·exact Bj br bn a cap rs n (by assumption)
 ·exact DQ br bn a cap rs n om h
def im(bs:L8):List L8:=(List.range (bs.length / 64)).map fun k=>(bs.drop (64*k)).take 64
def AP(bs:L8):List L8:=im bs++fE (bs.drop (64*(bs.length / 64))) (BitVec.ofInt 64 bs.length)
theorem Ay(bs:L8):(im bs).length=bs.length / 64:=by simp[im]
theorem tM(sv:Value)(n:BitVec 64)(hs:sv.cells= #[sv])(w:World)(hw:Gt w):CLS 297 [sv,U64 n].toArray w (fun e w'=> ∃b2 b3,e=.returned (.func (.func 303) #[] #[pnt b2,pnt b3])∧Grow w w'∧w.heap.size≤b2∧w.heap.size≤b3∧b2≠b3∧OwnB w' b2 [sv] 22∧OwnB w' b3 [U64 n] 24):=by
 refine Hf func297 rfl hw<|fun hGF=>Xp<|fN 2 hGF rfl rfl rfl<|fun b2=>fN 3 hGF rfl rfl rfl<|fun b3=>Asg rfl<|aa<|Xp<|eV rfl rfl rfl rfl<|Asg rfl<|aa<|am<|Rr<|?_
 exact aE rfl rfl (fun w hw=>⟨b2,b3,rfl,ac hw,(hw.own 2 b2 _ _ rfl).2.elim id False.elim,(hw.own 3 b3 _ _ rfl).2.elim id False.elim,(fun e=>by subst e;exact absurd (hw.inj 2 3 _ _ _ _ _ rfl rfl) dc),(by have:=(hw.own 2 b2 _ _ rfl).1;rw[hs]at this;exact this),(hw.own 3 b3 _ _ rfl).1⟩)
theorem n5{n m:Nat}{b1 b2:Nat}{c1 c2:List Value}{t1 t2:TypeId}(hne:b1≠b2): ∀i j b c t c' t',lkB [(n,b1,c1,t1),(m,b2,c2,t2)] i=some (b,c,t)→lkB [(n,b1,c1,t1),(m,b2,c2,t2)] j=some (b,c',t')→i=j:=by
 intro i j b c t c' t' h1 h2
 rcases aC h1 with ⟨e1,x1⟩|⟨_,h1⟩<;>rcases aC h2 with ⟨e2,x2⟩|⟨_,h2⟩
 ·exact e1.trans e2.symm
 ·rcases aC h2 with ⟨_,x2⟩|⟨_,h2⟩
  ·cases x1;cases x2;exact (hne rfl).elim
  ·cases h2
 ·rcases aC h1 with ⟨_,x1⟩|⟨_,h1⟩
  ·cases x1;cases x2;exact (hne rfl).elim
  ·cases h1
 ·rcases aC h1 with ⟨e1,x1⟩|⟨_,h1⟩
  ·rcases aC h2 with ⟨e2,x2⟩|⟨_,h2⟩
   ·exact e1.trans e2.symm
   ·cases h2
  ·cases h1
end Sh
end
section
open Go.RowKit
namespace Sh
def gw(st:L3)(bls:List L8):Nat→L3
 |0=>st
 |k+1=>tX (gw st bls k) (bls.getD k [])
theorem gQ(st:L3)(bl:L8):(tX st bl).length=8:=rfl
theorem gU(st:L3)(bls:List L8)(h:st.length=8): ∀k,(gw st bls k).length=8
 |0=>h
 |_+1=>gQ _ _
theorem AT(st:L3)(hs:st.length=8)(gf:Nat)(caps:List Value)(bls:List L8)(hb: ∀bl∈bls,bl.length=64)(Rd:Cls)(he:ai prog gf)(hseq:eG prog Gt gf caps (bls.map enc) Rd)(w:World)(hw:Gt w)(hRs: ∀w',Grow w w'→Rd w'):
 CLS 296 [.agg (st.map U32).toArray,.func (.func gf) #[] caps.toArray].toArray w (fun e w'=>e=.returned (.agg ((gw st bls bls.length).map U32).toArray)∧Grow w w'):=by
 have hGF:BOk Gt (pl w):=gt_low.plain hw
 refine bV (G:=Gt) func296 rfl rfl (Hp (pl w) []) (bO (pl w) trivial ak) (au hGF)<|Xp<|Bx 2 hGF rfl<|fun b2=>Al 4 hGF zv105<|fun b4=>aa<|ah<|Xp<|Mv rfl<|aa<|aj<|?_
 refine ef (fun _=>pl w) (fun _ _=>pl w) (fun _=>hGF) (fun _ _=>hGF) (fun _=>rfl) (fun _ _=>rfl) rfl rfl he hseq (by simp[enc]) rfl (fun k=>[(2,b2,(gw st bls k).map U32,105),(4,b4,(List.replicate 8 0#32).map U32,105)]) (fun _ _ _=>False) trv (fun _ _ w' h=>hRs w' (h.below (fun _ h=>h))) ?_ ?_ (fun _ _ _ _ _ h=>h.elim)
 ·intro k x hx R hR
  obtain ⟨hk,rfl⟩:k<bls.length∧enc (bls.getD k [])=x:=by
   rw[List.getElem?_map]at hx
   rcases Nat.lt_or_ge k bls.length with h|h
   ·simp[h]at hx;exact ⟨h,by simpa [h]using hx⟩
   ·simp[h]at hx
  have hb64:(bls.getD k []).length=64:=hb _ (by rw[show bls.getD k []=bls[k]from by simp[hk]];exact List.getElem_mem hk)
  refine Xq<|cO 5 (hR (pl w) rfl hGF).1 zv313 rfl rfl<|fun b5=>ao 5 (hR (pl w) rfl hGF).1 rfl rfl rfl sizeOf313 (by rw[List.length_map,hb64]) (by rw[List.length_map,List.length_replicate]) (bi _) rfl<|aa<|?_
  refine ⟨rfl,_,rfl, ?_⟩
  exact aj<|Xq<|Lw 2 rfl rfl nE (by rw[gU st bls hs])<|Lw 5 rfl rfl zV hb64<|Ca rfl (rJ _ _ (gU _ _ hs _) hb64)<|ao 2 (hR (pl w) rfl hGF).2.1 rfl rfl rfl sizeOf105 (by rw[List.length_map,gQ]) (by rw[List.length_map,gU st bls hs]) (ig _) rfl<|aa<|⟨_,rfl,trv⟩
 ·intro D hD
  refine Xp<|Lw 2 rfl rfl nE (by rw[gU st bls hs])<|Sx 4 hD rfl rfl rfl nE (by rw[gU st bls hs]) (ig _)<|aa<|am<|Rr<|?_
  refine cP (.inl rfl) ak (ay 4 rfl rfl rfl isAgg105 sizeOf105 (by rw[List.length_map,gU st bls hs]) (fun w hw=>⟨?_,ac hw⟩))
  rw[List.length_map]
def SHA(bs:L8):L8:=DG (gw IV (AP bs) (AP bs).length) 8
theorem gv(bs:L8):(SHA bs).length=32:=eN _ 8
theorem bN{n:Nat}{b1:Nat}{c1:List Value}{t1:TypeId}: ∀i j b c t c' t',lkB [(n,b1,c1,t1)] i=some (b,c,t)→lkB [(n,b1,c1,t1)] j=some (b,c',t')→i=j:=by
 intro i j b c t c' t' h1 h2
 rcases aC h1 with ⟨e1,x1⟩|⟨_,h1⟩
 ·rcases aC h2 with ⟨e2,x2⟩|⟨_,h2⟩
  ·exact e1.trans e2.symm
  ·cases h2
 ·cases h1
end Sh
end
section
open Go.RowKit
namespace Sh
def hc(st:L3)(rs:L8)(n:BitVec 64):List Value:=st.map U32++(rs.map U8++[U64 n])
section
variable {st st':L3} {rs rs':L8} {n m:BitVec 64}
theorem ss(h1:st.length=8)(h2:rs.length=64):(hc st rs n).length=73:=by simp[hc,h1,h2]
theorem rm(h1:st.length=8)(h2:rs.length=64):(hc st rs n)[72]? =some (U64 n):=by
 unfold hc
 rw[List.getElem?_append_right (by simp[h1]),List.getElem?_append_right (by simp[h1,h2])]
 simp[h1,h2]
theorem Up: ∀j v,(st.map U32)[j]? =some v→(hc st rs n)[0+j]? =some v:=fun j v hv=>by
 have:j<(st.map U32).length:=by
  rcases Nat.lt_or_ge j (st.map U32).length with h|h
  ·exact h
  ·rw[List.getElem?_eq_none h]at hv;cases hv
 unfold hc
 rw[Nat.zero_add,List.getElem?_append_left this]
 exact hv
theorem Mq(h1:st.length=8): ∀j v,(rs.map U8)[j]? =some v→(hc st rs n)[8+j]? =some v:=fun j v hv=>by
 have:j<(rs.map U8).length:=by
  rcases Nat.lt_or_ge j (rs.map U8).length with h|h
  ·exact h
  ·rw[List.getElem?_eq_none h]at hv;cases hv
 unfold hc
 rw[List.getElem?_append_right (by simp[h1]),List.getElem?_append_left (by simpa [h1]using this)]
 simpa [h1]using hv
theorem M2(h1:st.length=8)(h1':st'.length=8):lay 0 (st'.map U32) (hc st rs n)=hc st' rs n:=by
 rw[iz _ _ _ (by simp[hc,h1,h1'])]
 simp[hc,h1',h1]
theorem uQ(h1:st.length=8)(o:Nat)(xs:L8)(h:o+xs.length≤rs.length):lay (8+o) (xs.map U8) (hc st rs n)=hc st (rs.take o++xs++rs.drop (o+xs.length)) n:=by
 rw[iz _ _ _ (by simp[hc,h1];omega)]
 simp only[hc,List.take_append,List.drop_append,List.length_map,h1,List.map_append,List.map_take,List.map_drop]
 rw[List.take_of_length_le (by simp[h1]),List.drop_eq_nil_of_le (by simp[h1];omega)]
 rw[show 8+o-8=o from by omega,show o-rs.length=0 from by omega,show 8+o+xs.length-8=o+xs.length from by omega,show o+xs.length-rs.length=0 from by omega]
 simp
theorem Qy(h1:st.length=8)(h2:rs.length=64)(h2':rs'.length=64):lay 8 (rs'.map U8) (hc st rs n)=hc st rs' n:=by
 have:=uQ (rs:=rs) (n:=n) h1 0 rs' om
 rw[Nat.add_zero]at this
 rw[this,Nat.zero_add,List.drop_eq_nil_of_le om]
 simp
theorem O0(h1:st.length=8)(h2:rs.length=64):(hc st rs n).set 72 (U64 m)=hc st rs m:=by
 unfold hc
 rw[List.set_append_right _ _ (by simp[h1]),List.set_append_right _ _ (by simp[h1,h2])]
 simp[h1,h2]
end
def tl(T:L8):L8:=T.drop (64*(T.length / 64))
theorem lx(T:L8):(tl T).length=T.length % 64:=by simp[tl];omega
def nF(rs:L8):L8:=rs++List.replicate (64-rs.length) 0#8
theorem AV(rs:L8)(h:rs.length≤64):(nF rs).length=64:=by simp[nF];omega
def full(T:L8):L3:=gw IV (im T) (T.length / 64)
structure HInv(T:L8)(st:L3)(rs:L8)(n:BitVec 64):Prop where
 len:T.length<9223372036854775808
 st8:st.length=8
 rest:rs=nF (tl T)
 num:n=BitVec.ofNat 64 T.length
 state:64≤T.length→st=full T
theorem HInv.zero:HInv [] (List.replicate 8 0#32) (List.replicate 64 0#8) 0:=⟨sm,sm,by simp[nF,tl],rfl,fun h=>by simp at h⟩
theorem HInv.rs64{T:L8}{st:L3}{rs:L8}{n:BitVec 64}(h:HInv T st rs n):rs.length=64:=by rw[h.rest];exact AV _ (by rw[lx];omega)
theorem HInv.toNat{T:L8}{st:L3}{rs:L8}{n:BitVec 64}(h:HInv T st rs n):n.toNat=T.length:=by
 have:=h.len
 rw[h.num,BitVec.toNat_ofNat];omega
def rch(st:L3)(n:BitVec 64):L3:=if n<64#64 then IV else st
theorem HInv.rch{T:L8}{st:L3}{rs:L8}{n:BitVec 64}(h:HInv T st rs n):rch st n=full T:=by
 unfold Sh.rch
 by_cases hlt:n<64#64
 ·have:T.length<64:=by have h1:=BitVec.lt_def.1 hlt;rw[h.toNat]at h1;simpa using h1
  rw[if_pos hlt,full,Nat.div_eq_of_lt this];rfl
 ·have: ¬T.length<64:=fun h'=>hlt (BitVec.lt_def.2 (by rw[h.toNat];simpa using h'))
  rw[if_neg hlt];exact h.state om
theorem mc{st:L3}{n:BitVec 64}(h:st.length=8):(rch st n).length=8:=by unfold rch;split;rfl;exact h
theorem jy(st:L3)(a b:List L8): ∀k,(∀i,i<k→a.getD i []=b.getD i [])→gw st a k=gw st b k
 |0,_=>rfl
 |k+1,h=>by rw[gw,gw,jy st a b k (fun i hi=>h i om),h k om]
theorem nw(st:L3)(a b:List L8): ∀k,gw st (a++b) (a.length+k)=gw (gw st a a.length) b k
 |0=>by
  show gw st (a++b) a.length=gw st a a.length
  exact jy st _ _ _ (fun i hi=>by simp[List.getElem?_append_left hi])
 |k+1=>by
  rw[←Nat.add_assoc,gw,nw st a b k,gw]
  congr 1
  simp only[List.getD_eq_getElem?_getD]
  rw[List.getElem?_append_right om,Nat.add_sub_cancel_left]
theorem Ex(T:L8):SHA T=DG (gw (full T) (fE (tl T) (BitVec.ofInt 64 T.length)) (fE (tl T) (BitVec.ofInt 64 T.length)).length) 8:=by
 have:=nw IV (im T) (fE (tl T) (BitVec.ofInt 64 T.length)) (fE (tl T) (BitVec.ofInt 64 T.length)).length
 unfold SHA
 rw[show AP T=im T++fE (tl T) (BitVec.ofInt 64 T.length)from rfl,List.length_append,this,Ay]
 rfl
theorem HInv.part{T:L8}{st:L3}{rs:L8}{n:BitVec 64}(h:HInv T st rs n)(xs:L8)(hx:T.length % 64+xs.length<64)(hl:(T++xs).length<9223372036854775808):
 HInv (T++xs) st (rs.take (T.length % 64)++xs++rs.drop (T.length % 64+xs.length)) (n+BitVec.ofInt 64 xs.length):=by
 have hd:(T++xs).length / 64=T.length / 64:=by simp;omega
 have ht:tl (T++xs)=tl T++xs:=by
  unfold tl
  rw[hd,List.drop_append_of_le_length om]
 refine ⟨hl,h.st8, ?_, ?_,fun h64=> ?_⟩
 ·have e:=lx T
  rw[h.rest,ht,nF,nF]
  rw[List.take_append_of_le_length om,List.take_of_length_le om,List.drop_append,List.drop_eq_nil_of_le om]
  simp only[List.nil_append,List.append_assoc,List.drop_replicate,List.length_append]
  congr 3
  omega
 ·apply BitVec.eq_of_toNat_eq
  rw[BitVec.toNat_add,h.toNat,BitVec.ofInt_natCast,BitVec.toNat_ofNat,BitVec.toNat_ofNat]
  simp
 ·have h64':64≤T.length:=by simp at h64;omega
  rw[h.state h64',full,full,hd]
  refine jy _ _ _ _ (fun i hi=> ?_)
  have h1:i<T.length / 64:=hi
  have h2:i<(T++xs).length / 64:=om
  have e1:(im T).getD i []=(T.drop (64*i)).take 64:=by simp[im,h1]
  have e2:(im (T++xs)).getD i []=((T++xs).drop (64*i)).take 64:=by
   unfold im
   simp[-List.length_append,h2]
  rw[e1,e2,List.drop_append_of_le_length om,List.take_append_of_le_length (by simp;omega)]
theorem HInv.fill{T:L8}{st:L3}{rs:L8}{n:BitVec 64}(h:HInv T st rs n)(xs:L8)(hx:T.length % 64+xs.length=64)(hl:(T++xs).length<9223372036854775808):
 HInv (T++xs) (tX (full T) (rs.take (T.length % 64)++xs++rs.drop (T.length % 64+xs.length))) (List.replicate 64 0#8) (n+BitVec.ofInt 64 xs.length):=by
 have hd:(T++xs).length / 64=T.length / 64+1:=by simp;omega
 have ht:tl (T++xs)=[]:=by
  unfold tl
  rw[hd]
  apply List.drop_eq_nil_of_le
  simp;omega
 refine ⟨hl,gQ _ _,by rw[ht];rfl, ?_,fun _=> ?_⟩
 ·apply BitVec.eq_of_toNat_eq
  rw[BitVec.toNat_add,h.toNat,BitVec.ofInt_natCast,BitVec.toNat_ofNat,BitVec.toNat_ofNat]
  simp
 ·rw[full,full,hd,gw]
  have e2: ∀i,i<(T++xs).length / 64→(im (T++xs)).getD i []=((T++xs).drop (64*i)).take 64:=fun i hi=>by
   unfold im
   simp[-List.length_append,hi]
  congr 1
  ·refine jy _ _ _ _ (fun i hi=> ?_)
   have e1:(im T).getD i []=(T.drop (64*i)).take 64:=by simp[im,hi]
   rw[e1,e2 i om,List.drop_append_of_le_length om,List.take_append_of_le_length (by simp;omega)]
  ·have e:=lx T
   rw[e2 _ om,h.rest,nF,List.take_append_of_le_length om,List.take_of_length_le om,List.drop_append,List.drop_eq_nil_of_le om]
   rw[List.drop_append_of_le_length om,show T.drop (64*(T.length / 64))=tl T from rfl,List.take_of_length_le (by simp;omega)]
   simp
   omega
end Sh
end
section
open Go.RowKit
namespace Sh
theorem BC{w:World}{b:Nat}{c:List Value}{t:TypeId}(h:OwnB w b c t){o:Nat}{cs:List Value}(hc: ∀j v,cs[j]? =some v→c[o+j]? =some v):w.rangeAt b o cs:=fun j v hv=>(h.cell (o+j)).trans (hc j v hv)
theorem kY(bh:Nat)(st:L3)(rs:L8)(n:BitVec 64)(h1:st.length=8)(h2:rs.length=64)(w:World)(hw:Gt w)(ho:OwnB w bh (hc st rs n) 315):
 CLS 293 [pnt bh].toArray w (fun e w'=>e=.returned (.agg ((rch st n).map U32).toArray)∧Grow w w'):=by
 refine Hf func293 rfl hw<|fun hGF=>Xp<|Al 2 hGF zv105<|fun b2=>aa<|ah<|Xp<|Mv rfl<|d8 rfl rfl rfl<|Fa 72 rfl underlying315 rfl sizeOf24<|bz rfl isAgg24 (mK (B:=pl w) ((ho.cell 72).trans (rm h1 h2)) (fun h=>h)) rfl rfl<|Bnr rfl rfl (fun _=>nh _ _ _)<|aa<|?_
 refine bZ rfl (fun hc=> ?_) (fun hc=> ?_)
 ·simp only[decide_eq_true_eq]at hc
  refine Xp<|Ca rfl (wE)<|Sx 2 hGF rfl rfl rfl nE (by rw[(show IV.length=8 from rfl)]) (ig _)<|aa<|am<|Rr<|?_
  exact ay 2 rfl rfl rfl isAgg105 sizeOf105 rfl (fun w hw=>⟨by rw[rch,if_pos hc],ac hw⟩)
 ·simp only[decide_eq_false_iff_not]at hc
  refine ap<|Xp<|Mv rfl<|d8 rfl rfl rfl<|Fa 0 rfl underlying315 rfl sizeOf105<|dv rfl isAgg105 sizeOf105 (by rw[List.length_map,h1]) (fu (B:=pl w) (BC ho Up) (fun h=>h)) rfl rfl<|Sx 2 hGF rfl rfl rfl nE h1 (ig _)<|aa<|am<|Rr<|?_
  exact ay 2 rfl rfl rfl isAgg105 sizeOf105 (by rw[List.length_map,h1]) (fun w hw=>⟨by rw[rch,if_neg hc],ac hw⟩)
theorem w9(T:L8)(bh:Nat)(st:L3)(rs:L8)(n:BitVec 64)(hi:HInv T st rs n)(w:World)(hw:Gt w)(ho:OwnB w bh (hc st rs n) 315):
 CLS 283 [pnt bh].toArray w (fun e w'=>e=.returned (.agg ((SHA T).map U8).toArray)∧Grow w w'):=by
 have hGF:BOk Gt (pl w):=gt_low.plain hw
 have hmt:(n % 64#64).toNat=(tl T).length:=by rw[BitVec.toNat_umod,hi.toNat,lx];rfl
 have hm64:(n % 64#64).toNat<64:=by rw[hmt,lx];omega
 have hn:BitVec.ofInt 64 T.length=n:=by rw[hi.num,BitVec.ofInt_natCast]
 refine Hd func283 rfl hGF<|ae (E:=EE [297])<|Al 2 hGF zv112<|fun b2=>aa<|Xd [297]<|Mv rfl<|Cc rfl ent293 (fun w' hw' hG=>kY bh st rs n hi.st8 hi.rs64 w' hG (ho.of_same ((ac hw').block bh ho.lt)))<|Mv rfl<|d8 rfl rfl rfl<|Fa 8 rfl underlying315 rfl sizeOf313<|Mv rfl<|d8 rfl rfl rfl<|Fa 72 rfl underlying315 rfl sizeOf24<|bz rfl isAgg24 (mK (B:=pl w) ((ho.cell 72).trans (rm hi.st8 hi.rs64)) (fun h=>h)) rfl rfl<|Bnr rfl rfl (fun _=>ek _ _ _ dc)<|IH rfl underlying313 sizeOf5 rfl hm64 rfl rfl<|Mv rfl<|d8 rfl rfl rfl<|Fa 72 rfl underlying315 rfl sizeOf24<|bz rfl isAgg24 (mK (B:=pl w) ((ho.cell 72).trans (rm hi.st8 hi.rs64)) (fun h=>h)) rfl rfl<|?_
 refine cV rfl rfl ent297 rfl rfl (fun w' hw'=>(tM _ _ rfl w' (hGF.g _ _ _ hw')).mono fun e w'' h=> ?_)
 obtain ⟨c2,c3,rfl,hgr,h2,h3,hne,hc2,hc3⟩:=h
 refine ⟨_,_,rfl,au hGF,hw'.news ak hgr [(31,c2,[.slice (some ⟨bh,8,none⟩) (n % 64#64).toNat 64],22),(32,c3,[U64 n],24)] ?_ ?_, ?_⟩
 ·intro n' b c t hl
  rcases aC hl with ⟨_,e⟩|⟨_,hl⟩
  ·cases e;exact ⟨h2,hc2⟩
  ·rcases aC hl with ⟨_,e⟩|⟨_,hl⟩
   ·cases e;exact ⟨h3,hc3⟩
   ·cases hl
 ·exact n5 hne
 refine Cc rfl ent296 (fun w' hw' hG=>AT (rch st n) (mc hi.st8) 303 [pnt c2,pnt c3] (fE (tl T) n) (vC _ _ (by rw[lx];omega)) (sC c2 c3 (some ⟨bh,8,none⟩) 64 (tl T) n) ent303 (HQ c2 c3 (some ⟨bh,8,none⟩) 64 (tl T) n (by rw[lx];omega)) w' hG (fun w3 hg3=> ?_)) ?_
 ·have hx:=hw'.grow ak hg3
  refine ⟨by rw[←hmt];exact cv (n:=31) rfl rfl w3 hx,cv (n:=32) rfl rfl w3 hx,BytesAt.range ?_⟩
  intro j v hv
  refine mK (B:=pl w) ((ho.cell (8+j)).trans ?_) (fun h=>h) w3 hx
  refine Mq hi.st8 j v ?_
  rw[hi.rest,nF,List.map_append]
  have hlt:j<((tl T).map U8).length:=by
   rcases Nat.lt_or_ge j ((tl T).map U8).length with h|h
   ·exact h
   ·rw[List.getElem?_eq_none h]at hv;cases hv
  rw[List.getElem?_append_left hlt];exact hv
 refine Ca rfl (vn _ (gU _ _ (mc hi.st8) _))<|Sx 2 hGF rfl rfl rfl ul (eN _ _) (bi _)<|aa<|am<|Rr<|?_
 exact ay 2 rfl rfl rfl isAgg112 sizeOf112 (by rw[List.length_map,eN]) (fun w hw=>⟨by rw[Ex T,hi.rch,hn],ac hw⟩)
end Sh
end
section
open Go.RowKit
namespace Sh
structure WSt(T bs:L8)(w:World)(bh:Nat) where
 (c:Nat) (st:L3) (rs:L8) (n:BitVec 64) (a:Option Addr) (cap:Nat)
 hc:c≤bs.length
 hi:HInv (T++bs.take c) st rs n
 hb:BytesAt w a (bs.drop c)
 hcap:(bs.drop c).length≤cap
 hne:bs.drop c≠[]→∀ad,a=some ad→ad.block≠bh
theorem A9(bs:L8)(c m:Nat):bs.take c++(bs.drop c).take m=bs.take (c+m):=by rw[List.take_add]
theorem ua(T bs:L8)(bh:Nat)(st:L3)(rs:L8)(n:BitVec 64)(hi:HInv T st rs n)(hT:(T++bs).length<9223372036854775808)(a:Option Addr)(cap:Nat)(hcap:bs.length≤cap)(w:World)(hw:Gt w)(ho:OwnB w bh (hc st rs n) 315)(hbh:8≤bh)(hby:BytesAt w a bs)(hne:bs≠[]→∀ad,a=some ad→ad.block≠bh):
 CLS 282 [pnt bh,.slice a bs.length cap].toArray w (fun e w'=>e=.returned (.tuple #[])∧Mod bh w w'∧∃st' rs' n',HInv (T++bs) st' rs' n'∧OwnB w' bh (hc st' rs' n') 315):=by
 have hGF:BOk Gt (plM w (fun k=>k=bh)):=(gt_low.from (M:=fun k=>k=bh) hw (fun m hm=>by subst hm;exact hbh)).ok (B:=plM w (fun k=>k=bh)) ak
 refine cb (G:=Gt) func282 rfl rfl (Hp (plM w (fun k=>k=bh)) [(0,bh,hc st rs n,315)]) (DZ ho) (au hGF)<|aj<|cG (ι:=WSt T bs w bh) (fun x=>[(0,pnt bh),(1,.slice x.a (bs.drop x.c).length x.cap)]) (fun x=>[(0,bh,hc x.st x.rs x.n,315)]) (fun x=>bs.length-x.c) ⟨0,st,rs,n,a,cap,Nat.zero_le _,by simpa using hi,by simpa using hby,by simpa using hcap,hne⟩ hGF trv trv<|?_
 rintro x
 have x8:=x.hi.st8
 have x64:=x.hi.rs64
 have hdl:(bs.drop x.c).length=bs.length-x.c:=List.length_drop
 have hxc:=x.hc
 refine ah<|Xp<|Mv rfl<|a5 rfl (fun _=>az underlying22 _ _ _ _) rfl rfl<|Bnr rfl rfl (fun _=>ba _ _ _)<|aa<|?_
 refine bZ rfl (fun hc=> ?_) (fun hc=> ?_)
 ·simp only[decide_eq_true_eq]at hc
  have hmod:(x.n % 64#64).toNat=(T++bs.take x.c).length % 64:=by rw[BitVec.toNat_umod,x.hi.toNat];rfl
  have hm64:(x.n % 64#64).toNat<64:=om
  obtain ⟨xs,hxs⟩: ∃xs,(bs.drop x.c).take (64-(x.n % 64#64).toNat)=xs:=⟨_,rfl⟩
  have hxl:xs.length=Nat.min (bs.drop x.c).length (64-(x.n % 64#64).toNat):=by rw[←hxs,List.length_take];exact Nat.min_comm _ _
  have hx1:xs.length≤(bs.drop x.c).length:=by rw[hxl];exact Nat.min_le_left _ _
  have hx2:xs.length≤64-(x.n % 64#64).toNat:=by rw[hxl];exact Nat.min_le_right _ _
  have hx0:0<xs.length:=by rw[hxl];exact Nat.lt_min.2 ⟨om,om⟩
  have hdne:bs.drop x.c≠[]:=fun e=>by rw[e]at hc;simp at hc
  have hbx:BytesAt w x.a xs:=hxs▸x.hb.take _
  have hmx:(x.n % 64#64).toNat+xs.length≤x.rs.length:=by rw[x64];omega
  have hxt:T++bs.take (x.c+xs.length)=T++bs.take x.c++xs:=by
   rw[←A9,←List.append_assoc,←List.prefix_iff_eq_take.1 (hxs▸List.take_prefix _ _)]
  have hdn:(bs.drop x.c).length-xs.length=(bs.drop (x.c+xs.length)).length:=by rw[List.length_drop,List.length_drop];omega
  have hroom:8+(x.n % 64#64).toNat+xs.length≤73:=om
  have hlen2:(T++bs.take x.c++xs).length<9223372036854775808:=by simp at hT⊢;omega
  have hb3:BytesAt w (if x.cap=xs.length then x.a else x.a.map (·.add (xs.length*1))) (bs.drop (x.c+xs.length)):=by
   have:=x.hb.drop (cap:=x.cap) (l:=xs.length) x.hcap om
   rwa [List.drop_drop]at this
  have hc3:(bs.drop (x.c+xs.length)).length≤x.cap-xs.length:=by have:=x.hcap;simp at this⊢;omega
  have hn3:bs.drop (x.c+xs.length)≠[]→∀ad,(if x.cap=xs.length then x.a else x.a.map (·.add (xs.length*1)))=some ad→ad.block≠bh:=by
   intro _ ad had
   split at had
   ·exact x.hne hdne ad had
   ·cases hxa:x.a with
    |none=>rw[hxa]at had;cases had
    |some ad0=>
     rw[hxa]at had
     cases had
     rw[rq];exact x.hne hdne ad0 hxa
  have hsum:(x.n+BitVec.ofInt 64 xs.length).toNat=(T++bs.take x.c).length+xs.length:=by
   rw[BitVec.toNat_add,x.hi.toNat,BitVec.ofInt_natCast,BitVec.toNat_ofNat]
   simp at hlen2⊢;omega
  have hsm:((x.n+BitVec.ofInt 64 xs.length) % 64#64).toNat=((T++bs.take x.c).length+xs.length) % 64:=by rw[BitVec.toNat_umod,hsum];rfl
  have hfl0:(((x.n+BitVec.ofInt 64 xs.length) % 64#64==0#64)=true→(T++bs.take x.c).length % 64+xs.length=64)∧(((x.n+BitVec.ofInt 64 xs.length) % 64#64==0#64)=false→(T++bs.take x.c).length % 64+xs.length<64):=by
   refine ⟨fun h=> ?_,fun h=> ?_⟩
   ·have:=congrArg BitVec.toNat (beq_iff_eq.1 h)
    rw[hsm]at this
    have h0:(0#64).toNat=0:=rfl
    omega
   ·have hne: ¬((x.n+BitVec.ofInt 64 xs.length) % 64#64).toNat=0:=fun e=>(beq_eq_false_iff_ne.1 h) (BitVec.eq_of_toNat_eq (by rw[e];rfl))
    rw[hsm]at hne
    omega
  refine ap<|aj<|Xp<|Mv rfl<|Cc rfl ent293 (fun w' hw' hG=>kY bh x.st x.rs x.n x8 x64 w' hG (hw'.own 0 _ _ _ rfl).1)<|Al 4 hGF zv105<|fun b4=>Sx 4 hGF rfl rfl rfl nE (mc x.hi.st8) (ig _)<|aa<|Xd []<|Mv rfl<|d8 rfl rfl rfl<|Fa 8 rfl underlying315 rfl sizeOf313<|Mv rfl<|d8 rfl rfl rfl<|Fa 72 rfl underlying315 rfl sizeOf24<|ch 0 rfl rfl (rm x8 x64) isAgg24 rfl rfl<|Bnr rfl rfl (fun _=>ek _ _ _ dc)<|II rfl underlying313 sizeOf5 rfl hm64 rfl rfl<|Mv rfl<|fD (cs:=xs) 0 hGF rfl rfl rfl underlying22 Ez hxl (fun w' h=>A0 hbx (xr h) (x.hne hdne)) (by rw[ss x8 x64];exact hroom) rfl rfl<|?_
  rw[uQ x8 _ xs hmx]
  have x64:(x.rs.take (x.n % 64#64).toNat++xs++x.rs.drop ((x.n % 64#64).toNat+xs.length)).length=64:=by rw[List.length_append,List.length_append,List.length_take,List.length_drop,x64];omega
  obtain ⟨rs1,hrs1⟩: ∃rs1,x.rs.take (x.n % 64#64).toNat++xs++x.rs.drop ((x.n % 64#64).toNat+xs.length)=rs1:=⟨_,rfl⟩
  rw[hrs1]at x64⊢
  refine Asg rfl<|aa<|Xp<|Mv rfl<|d8 rfl rfl rfl<|Fa 72 rfl underlying315 rfl sizeOf24<|ch 0 rfl rfl (rm x8 x64) isAgg24 rfl rfl<|Mv rfl<|cT rfl rfl (fun _=>oG underlying3 underlying24 _) rfl rfl<|Bnr rfl rfl (fun _=>du _ _ _)<|d8 rfl rfl rfl<|Fa 72 rfl underlying315 rfl sizeOf24<|cM 0 hGF rfl rfl rfl sizeOf24 rfl (by rw[ss x8 x64];decide) rfl<|?_
  rw[O0 x8 x64]
  refine aa<|Xp<|Mv rfl<|Mv rfl<|kD (l:=xs.length) (h':=(bs.drop x.c).length) rfl underlying22 sizeOf5 rfl rfl ⟨om,x.hcap⟩ rfl rfl<|Asg rfl<|aa<|Xp<|Mv rfl<|d8 rfl rfl rfl<|Fa 72 rfl underlying315 rfl sizeOf24<|ch 0 rfl rfl (rm x8 x64) isAgg24 rfl rfl<|Bnr rfl rfl (fun _=>ek _ _ _ dc)<|Bnr rfl rfl (fun _=>bX _ _ _)<|aa<|?_
  refine bZ rfl (fun hc=> ?_) (fun hc=> ?_)
  ·have hfl:=hfl0.1 hc
   refine Xd []<|Mv rfl<|Lw 4 rfl rfl nE (mc x.hi.st8)<|Mv rfl<|d8 rfl rfl rfl<|Fa 8 rfl underlying315 rfl sizeOf313<|Ey 0 rfl rfl isAgg313 sizeOf313 (by rw[List.length_map,x64]) (Mq x8) rfl rfl<|Ca rfl (rJ _ _ (mc x.hi.st8) x64)<|d8 rfl rfl rfl<|Fa 0 rfl underlying315 rfl sizeOf105<|gH 0 hGF rfl rfl rfl sizeOf105 (by rw[List.length_map,gQ]) (ig _) (by rw[ss x8 x64,List.length_map,gQ];decide) rfl<|?_
   rw[M2 x8 (gQ _ _)]
   have x8:=gQ (rch x.st x.n) rs1
   refine aa<|Xq<|Mv rfl<|gJ zv313 underlying313 sizeOf5 rfl rfl<|d8 rfl rfl rfl<|Fa 8 rfl underlying315 rfl sizeOf313<|gH 0 hGF rfl rfl rfl sizeOf313 (by rw[List.length_map,List.length_replicate]) (bi _) (by rw[ss x8 x64,List.length_map,List.length_replicate];decide) rfl<|?_
   rw[Qy x8 x64 List.length_replicate]
   refine aa ?_
   repeat (refine a7 ?_)
   exact aR<|⟨rfl,⟨x.c+xs.length,tX (rch x.st x.n) rs1,List.replicate 64 0#8,x.n+BitVec.ofInt 64 xs.length,if x.cap=xs.length then x.a else x.a.map (·.add (xs.length*1)),x.cap-xs.length,om,(by rw[hxt,←hrs1,hmod,x.hi.rch];exact x.hi.fill xs hfl hlen2),hb3,hc3,hn3⟩,_,by show bs.length-(x.c+xs.length)<bs.length-x.c;omega,rfl,⟨rfl,congrArg (fun k=>some (Value.slice (if x.cap=xs.length then x.a else x.a.map (·.add (xs.length*1))) k (x.cap-xs.length))) hdn,trivial⟩,trv⟩
  ·have hfl:=hfl0.2 hc
   refine ap ?_
   repeat (refine a7 ?_)
   exact aR<|⟨rfl,⟨x.c+xs.length,x.st,rs1,x.n+BitVec.ofInt 64 xs.length,if x.cap=xs.length then x.a else x.a.map (·.add (xs.length*1)),x.cap-xs.length,om,(by rw[hxt,←hrs1,hmod];exact x.hi.part xs hfl hlen2),hb3,hc3,hn3⟩,_,by show bs.length-(x.c+xs.length)<bs.length-x.c;omega,rfl,⟨rfl,congrArg (fun k=>some (Value.slice (if x.cap=xs.length then x.a else x.a.map (·.add (xs.length*1))) k (x.cap-xs.length))) hdn,trivial⟩,trv⟩
 ·simp only[decide_eq_false_iff_not]at hc
  refine be ?_
  have hall:bs.take x.c=bs:=List.take_of_length_le (by have:=x.hc;omega)
  repeat (refine cZ ?_)
  exact bY<|cn rfl (fun w' hw'=>⟨rfl,xr hw',x.st,x.rs,x.n,by have:=x.hi;rw[hall]at this;exact this,(hw'.own 0 _ _ _ rfl).1⟩)
end Sh
end
section
open Go.RowKit
namespace Sh
theorem ti5:TI prog 5 (.int .u8 0) 1 1:=yg kr
def Cln(w w':World)(bs:L8)(sv:Value):Prop:=
 (bs=[]∧sv=.slice none 0 0)∨∃b c cap1,sv=.slice (spt b) bs.length cap1∧w.heap.size≤b∧OwnB w' b c 5∧c.length=cap1∧bs.length≤cap1∧c.take bs.length=bs.map U8
theorem Cln.cells{w w':World}{bs:L8}{sv:Value}(h:Cln w w' bs sv):sv.cells= #[sv]:=by
 rcases h with ⟨_,rfl⟩|⟨_,_,_,rfl,_⟩<;>rfl
end Sh
end
section
open Go.RowKit
namespace Sh
end Sh
end
section
open Go.RowKit
namespace Sh
def MK:L3:=IV++KW
end Sh
end
section
open Go.RowKit
set_option maxHeartbeats 2000000
namespace Sh
def wk(p:L8)(o:Nat)(x:BitVec 32):Nat→BitVec 32
 |0=>x
 |k+1=>(wk p o x k<<<8)|||(p.getD (o+k) 0).setWidth 32
def V1(p:L8)(q:Nat):Nat→L3
 |0=>List.replicate 64 0#32
 |i+1=>(V1 p q i).set i (wk p (q+4*i) ((V1 p q i).getD i 0) 4)
theorem uz(l:L3)(i:Nat)(h:i<l.length):l=l.set i (l.getD i 0):=by
 have e:l.getD i 0=l[i]:=by simp[h]
 rw[e,List.set_getElem_self]
theorem vp(l:L3)(i:Nat)(x:BitVec 32)(h:i<l.length):(l.set i x).getD i 0=x:=by simp[h]
def r0(x:BitVec 32):BitVec 32:=turn x 7^^^turn x 18^^^(x>>>3)
def r1(x:BitVec 32):BitVec 32:=turn x 17^^^turn x 19^^^(x>>>10)
def r5(ws:L3)(i:Nat):BitVec 32:=ws.getD (i-16) 0+r0 (ws.getD (i-15) 0)+ws.getD (i-7) 0+r1 (ws.getD (i-2) 0)
def V2(p:L8)(q:Nat):Nat→L3
 |0=>V1 p q 16
 |j+1=>(V2 p q j).set (16+j) (r5 (V2 p q j) (16+j))
theorem bL:MK.length=72:=rfl
end Sh
end
section
open Go.RowKit
namespace Sh
end Sh
end
section
open Go.RowKit
namespace Xm
theorem zv112(w:World):(zeroValue 112).run prog w=.ok (.agg ((List.replicate 32 (0#8)).map U8).toArray) w:=Sh.zv112 w
theorem ti5:TI prog 5 (.int .u8 0) 1 1:=Sh.ti5
def D(dst:L8):L8:=dst++[BitVec.ofInt 8 (dst.length:Int)]
theorem kX(dst:L8):(D dst).length=dst.length+1:=by simp[D]
def F(msg dst:L8)(n:Nat):L8:=((List.replicate 64 0#8++msg)++[BitVec.ofInt 8 ((n / 256:Nat):Int),BitVec.ofInt 8 (n:Int),0#8])++D dst
theorem oP(msg dst:L8)(n:Nat):(F msg dst n).length=64+msg.length+3+(dst.length+1):=by
 rw[F,List.length_append,List.length_append,List.length_append,List.length_replicate,kX];rfl
def B0(msg dst:L8)(n:Nat):L8:=Sh.SHA (F msg dst n)
theorem kf(msg dst:L8)(n:Nat):(B0 msg dst n).length=32:=Sh.gv _
def R(b l:L8):Nat→L8
 |0=>b
 |j+1=>(R b l j).set j (b.getD j 0^^^l.getD j 0)
theorem jI(b l:L8): ∀j,(R b l j).length=b.length
 |0=>rfl
 |j+1=>by rw[R,List.length_set,jI b l j]
def Xk(b d:L8):Nat→L8
 |0=>List.replicate 32 0#8
 |k+1=>Sh.SHA (((if k=0 then b else R b (Xk b d k) 32)++[BitVec.ofInt 8 ((k+1:Nat):Int)])++d)
theorem fK(b d:L8): ∀k,(Xk b d k).length=32
 |0=>List.length_replicate
 |_+1=>Sh.gv _
def O(b d:L8):Nat→L8
 |0=>[]
 |k+1=>O b d k++Xk b d (k+1)
theorem i1(b d:L8): ∀k,(O b d k).length=32*k
 |0=>rfl
 |k+1=>by rw[O,List.length_append,i1 b d k,fK];omega
def E(msg dst:L8)(n:Nat):L8:=(O (B0 msg dst n) (D dst) ((n+31) / 32)).take n
theorem rp(msg dst:L8)(n:Nat):(E msg dst n).length=n:=by rw[E,List.length_take,i1];omega
structure Bk(xs:L8) where
 (b:Nat) (c:List Value)
 h1:xs.length≤c.length
 h2:c.take xs.length=xs.map U8
theorem hmc{i:TypeInfo}(k:Nat)(h:prog.info? 5=some i∧i.zero=some (.int .u8 0)∧i.size=1∧i.bytes=1)(hk:(madeCells (Value.int .u8 0).cells (k*1)).toList=(List.replicate k 0#8).map U8):(madeCells (Value.int .u8 0).cells (k*i.size)).toList=(List.replicate k 0#8).map U8:=by
 rw[h.2.2.1];exact hk
theorem hmk(k:Nat)(h:k≤1000):k*ti5.choose.size≤16777216∧ti5.choose.bytes*k≤281474976710656∧k≤1000000:=by
 rw[ti5.choose_spec.2.2.1,ti5.choose_spec.2.2.2];omega
theorem mc64:(madeCells (Value.int .u8 0).cells (64*1)).toList=(List.replicate 64 0#8).map U8:=kr
end Xm
end
section
open Go.RowKit
namespace Xm
attribute [local simp] Sh.gv kf oP jI fK i1 Sh.bL kX
theorem K7{w:World}{b:Nat}{c:List Value}{xs:L8}(h:w.rangeAt b 0 c)(h2:c.take xs.length=xs.map U8):BytesAt w (spt b) xs:=BytesAt.range fun j v hv=>h j v (by
 rw[←h2,List.getElem?_take]at hv
 split at hv
 ·exact hv
 ·cases hv)
def X16(b l:L8)(k:Nat):L8:=if k=0 then b else R b l 32
theorem yj{b l:L8}(hb:b.length=32)(k:Nat):(X16 b l k).length=32:=by
 unfold X16
 split
 ·exact hb
 ·rw[jI];exact hb
theorem Rl{xs ys:L8}(h:ys.length=32)(e:xs++ys=[]):False:=by
 have:=congrArg List.length e
 rw[List.length_append,h,List.length_nil]at this
 omega
theorem Gq{c:List Value}{xs:L8}{n:Nat}(h:c.take xs.length=xs.map U8)(hn:n≤xs.length):c.take n=(xs.take n).map U8:=by
 have e:=congrArg (List.take n) h
 rw[List.take_take,Nat.min_eq_left hn]at e
 rw[e,List.map_take]
attribute [local simp] yj
end Xm
end
section
open Go.RowKit
theorem ent227:ai prog 227:=fun _ _=>kr
theorem ent193:ai prog 193:=fun _ _=>kr
namespace Xm
attribute [local simp] Sh.gv kf oP jI fK i1 Sh.bL kX
def Bad(msg dst:L8)(z:Int):Prop:=z<0∨8160<z∨255<dst.length∨65536<msg.length
structure RT(msg dst:L8)(z:Int)(w:World)(v:Value):Prop where
 bad:Bad msg dst z→v=.tuple #[.slice none 0 0,I 130]
 ok: ¬Bad msg dst z→∃a cap,v=.tuple #[.slice a (E msg dst z.toNat).length cap,I 0]∧BytesAt w a (E msg dst z.toNat)∧(E msg dst z.toNat).length≤cap
def PXC:Prop:= ∀(a1:Option Addr) (cap1:Nat) (msg:L8) (a2:Option Addr) (cap2:Nat) (dst:L8) (z:Int) (w:World),msg.length≤100000→msg.length≤cap1→dst.length≤100000→dst.length≤cap2→Gt w→BytesAt w a1 msg→BytesAt w a2 dst→CLS 227 [.slice a1 msg.length cap1,.slice a2 dst.length cap2,I z].toArray w (fun e w'=> ∃v,e=.returned v∧Grow w w'∧RT msg dst z w' v)
end Xm
end
section
/-! ### Products of what has no root -/
theorem z7{a b:Zp}(ha:IsQ a)(hb:IsQ b):IsQ (a*b):=pn (s:=SQr a*SQr b) (by
 have ha:SQr a*SQr a=a:=ha
 have hb:SQr b*SQr b=b:=hb
 generalize SQr a=s at*
 generalize SQr b=t at*
 subst ha hb
 grind)
theorem I6{a b:Zp}(ha: ¬IsQ a)(hb: ¬IsQ b):IsQ (a*b):=by
 have h:=z7 ((tu a).resolve_left ha) ((tu b).resolve_left hb)
 rw[show-a* -b=a*b by grind]at h
 exact h
def S5:Zp:=zp 0x186417302d5a65347a88b0f999ab2b504614aa5e2eebdeb1a014c40bceb7d2306c12a6d436befcf94d39c9db7b263cd4
theorem VE:S5*S5= -(zp 5):=by decide+kernel
theorem VG: ¬IsQ (zp 5):=by
 rcases lZ (a:=zp 5) (b:= -(zp 5)) (c:=zp 5) (by generalize zp 5=a;grind) (by decide+kernel)with h|h
 ·exact absurd (pn VE) h.2
 ·exact h.1
/-! ### The other curve -/
def OA:W2:=(0,zp 240)
def OB:W2:=(zp 1012,zp 1012)
def OZ:W2:=ng2 (zp 2,zp 1)
def gO(x:W2):W2:=ad2 (ad2 (ml2 (ml2 x x) x) (ml2 OA x)) OB
def zu2(u:W2):W2:=ml2 (ml2 OZ u) u
def tu2(u:W2):W2:=ad2 (ml2 (zu2 u) (zu2 u)) (zu2 u)
def X1c:W2:=(zp 0x1a59d4b6bbf912a32d63b43028e2deeebe8d5d97ca64b6d66f64ac7a265a9305e1a40da5edb81b4e3ac4f5c28f5bd27,zp 0x15103a07f641331bb298f5ed3ba1230aa0bcc9f87d923077324df24a0f7ffa93045d3d6f94c17ae10efa11eb851e7336)
def R1c:W2:=(zp 0x28a5c165c0f2b6f84373bd5beb9a30d9ffef84fe5dc9a01a5e6825ee681d72252e4afbaf882c28f1c2935d806d2f71b,zp 0x17407d2938baedf8f3a537708747853994282b0535a8c4d8ffd7c0ebe3e31b581e4adea8190ec4a4a8ecaae9fd615d8a)
theorem IR:ml2 X1c (ml2 OZ OA)=OB:=by decide+kernel
theorem E2:ml2 R1c R1c=gO X1c:=by decide+kernel
theorem RU:ml2 OZ OA≠ze2:=by decide+kernel
theorem yr:OA≠ze2:=by decide+kernel
theorem A6(a b c:W2):ml2 (ml2 a b) c=ml2 a (ml2 b c):=R2.mul_assoc a b c
theorem DL:ml2 OB (iv2 (ml2 OZ OA))=X1c:=by
 rw[←IR,A6,cQ RU]
 exact R2.mul_one X1c
def x1O(u:W2):W2:=if tu2 u=ze2 then ml2 OB (iv2 (ml2 OZ OA))else ml2 (ml2 (ng2 OB) (iv2 OA)) (ad2 on2 (iv2 (tu2 u)))
theorem KJ{u:W2}(h:tu2 u≠ze2):ml2 (ml2 OA (x1O u)) (tu2 u)=ml2 (ng2 OB) (ad2 (tu2 u) on2):=by
 have e1:=cQ yr
 have e2:=cQ h
 rw[show x1O u=ml2 (ml2 (ng2 OB) (iv2 OA)) (ad2 on2 (iv2 (tu2 u)))from if_neg h]
 generalize tu2 u=t at*
 generalize iv2 t=s at*
 generalize iv2 OA=a' at*
 generalize OA=a at*
 generalize ng2 OB=b at*
 exact zl R2 [a,a',b,t,s] 0x556558742a9 0x45558942a2582 0x58492 0x45558942a5675859a (lca (lcm e1) (lcm e2))
theorem g_x2{u:W2}(h:tu2 u≠ze2):gO (ml2 (zu2 u) (x1O u))=ml2 (ml2 (ml2 (zu2 u) (zu2 u)) (zu2 u)) (gO (x1O u)):=by
 have k:=KJ h
 unfold tu2 at k
 unfold gO
 generalize zu2 u=z at*
 generalize x1O u=x at*
 generalize OA=a at*
 generalize OB=b at*
 exact zk R2 [a,b,z,x] 0x4455589589589565897 0x55588844559995697 0x4238 0x5374458882 0x556945888 k
theorem Vy(u:W2):nm2 (zu2 u)=zp 5*(nm2 u*nm2 u):=by
 rw[zu2,fT,fT,show nm2 OZ=zp 5 by decide+kernel]
 generalize zp 5=a
 generalize nm2 u=n
 grind
theorem HA{u:W2}(h: ¬IsQ (nm2 (gO (x1O u)))):IsQ (nm2 (gO (ml2 (zu2 u) (x1O u)))):=by
 by_cases ht:tu2 u=ze2
 ·refine absurd ((iS _).1 ⟨R1c, ?_⟩) h
  rw[E2,show x1O u=ml2 OB (iv2 (ml2 OZ OA))from if_pos ht,DL]
 ·rw[g_x2 ht,fT,fT,fT,Vy]
  have k:=z7 (I6 VG h) (nI (zp 5*(nm2 u*nm2 u)*(nm2 u)))
  generalize nm2 (gO (x1O u))=g at*
  generalize nm2 u=n at*
  generalize zp 5=a at*
  rw[show a*(n*n)*(a*(n*n))*(a*(n*n))*g=a*g*(a*(n*n)*n*(a*(n*n)*n)) by grind]
  exact k
/-! ### The map to the second curve -/
def iXN:List W2:=[(zp 0x5c759507e8e333ebb5b7a9a47d7ed8532c52d39fd3a042a88b58423c50ae15d5c2638e343d9c71c6238aaaaaaaa97d6,zp 0x5c759507e8e333ebb5b7a9a47d7ed8532c52d39fd3a042a88b58423c50ae15d5c2638e343d9c71c6238aaaaaaaa97d6),(0,zp 0x11560bf17baa99bc32126fced787c88f984f87adf7ae0c7f9a208c6b4f20a4181472aaa9cb8d555526a9ffffffffc71a),(zp 0x11560bf17baa99bc32126fced787c88f984f87adf7ae0c7f9a208c6b4f20a4181472aaa9cb8d555526a9ffffffffc71e,zp 0x8ab05f8bdd54cde190937e76bc3e447cc27c3d6fbd7063fcd104635a790520c0a395554e5c6aaaa9354ffffffffe38d),(zp 0x171d6541fa38ccfaed6dea691f5fb614cb14b4e7f4e810aa22d6108f142b85757098e38d0f671c7188e2aaaaaaaa5ed1,0)]
def iXD:List W2:=[(0,-zp 72),(zp 0xc,-zp 12),(zp 0x1,0)]
def iYN:List W2:=[(zp 0x1530477c7ab4113b59a4c18b076d11930f7da5d4a07f649bf54439d87d27e500fc8c25ebf8c92f6812cfc71c71c6d706,zp 0x1530477c7ab4113b59a4c18b076d11930f7da5d4a07f649bf54439d87d27e500fc8c25ebf8c92f6812cfc71c71c6d706),(0,zp 0x5c759507e8e333ebb5b7a9a47d7ed8532c52d39fd3a042a88b58423c50ae15d5c2638e343d9c71c6238aaaaaaaa97be),(zp 0x11560bf17baa99bc32126fced787c88f984f87adf7ae0c7f9a208c6b4f20a4181472aaa9cb8d555526a9ffffffffc71c,zp 0x8ab05f8bdd54cde190937e76bc3e447cc27c3d6fbd7063fcd104635a790520c0a395554e5c6aaaa9354ffffffffe38f),(zp 0x124c9ad43b6cf79bfbf7043de3811ad0761b0f37a1e26286b0e977c69aa274524e79097a56dc4bd9e1b371c71c718b10,0)]
def iYD:List W2:=[(-zp 432,-zp 432),(0,-zp 216),(zp 0x12,-zp 18),(zp 0x1,0)]
theorem C8:R2.pp (R2.pp iYN iYN) (R2.pp [OB,OA,ze2,on2] (R2.pp iXD (R2.pp iXD iXD)))=R2.pp (R2.pp iYD iYD) (R2.pa (R2.pp iXN (R2.pp iXN iXN)) (R2.pk (zp 4,zp 4) (R2.pp iXD (R2.pp iXD iXD)))):=by decide+kernel
theorem Qg(x:W2):R2.pev [OB,OA,ze2,on2] x=gO x:=by
 show ad2 OB (ml2 x (ad2 OA (ml2 x (ad2 ze2 (ml2 x (ad2 on2 (ml2 x ze2)))))))=ad2 (ad2 (ml2 (ml2 x x) x) (ml2 OA x)) OB
 generalize OA=a
 generalize OB=b
 exact zx R2 [a,b,x] 0x47584658415842581 0x44558885687
theorem PE(x:W2):ml2 (ml2 (R2.pev iYN x) (R2.pev iYN x)) (ml2 (gO x) (ml2 (R2.pev iXD x) (ml2 (R2.pev iXD x) (R2.pev iXD x))))=ml2 (ml2 (R2.pev iYD x) (R2.pev iYD x)) (ad2 (ml2 (R2.pev iXN x) (ml2 (R2.pev iXN x) (R2.pev iXN x))) (ml2 (zp 4,zp 4) (ml2 (R2.pev iXD x) (ml2 (R2.pev iXD x) (R2.pev iXD x))))):=by
 have h:=congrArg (fun l=>R2.pev l x) C8
 simp only[R2.pev_pp,R2.pev_pa,R2.pev_pk,Qg]at h
 exact h
theorem Oj{x y:W2}(h:ml2 y y=gO x)(hx:R2.pev iXD x≠ze2)(hy:R2.pev iYD x≠ze2):E2w.on (ml2 (R2.pev iXN x) (iv2 (R2.pev iXD x)),ml2 (ml2 y (R2.pev iYN x)) (iv2 (R2.pev iYD x))):=by
 have e:=PE x
 rw[←h]at e
 have e1:=cQ hx
 have e2:=cQ hy
 show ml2 (ml2 (ml2 y (R2.pev iYN x)) (iv2 (R2.pev iYD x))) (ml2 (ml2 y (R2.pev iYN x)) (iv2 (R2.pev iYD x)))=ad2 (ml2 (ml2 (R2.pev iXN x) (iv2 (R2.pev iXD x))) (ml2 (ml2 (R2.pev iXN x) (iv2 (R2.pev iXD x))) (ml2 (R2.pev iXN x) (iv2 (R2.pev iXD x))))) (zp 4,zp 4)
 generalize R2.pev iXN x=xn at*
 generalize R2.pev iXD x=xd at*
 generalize R2.pev iYN x=yn at*
 generalize R2.pev iYD x=yd at*
 generalize iv2 xd=s at*
 generalize iv2 yd=t at*
 generalize ((zp 4,zp 4):W2)=b at*
 exact zl R2 [y,xn,xd,yn,yd,s,t,b] 0x55569c5569c 0x445555bbb5cc55aa4575775d585885543555665995ccd44558b58b58b2255455757755bbb5d5558b58b58b45ac22 0x4557b557b57bd 0x445555bbb5cc55995566585885543555665995ccd44558b58b58b258b55455757755bbb5d5558b58b58b45ac25ac (lca (lca (lcm e) (lcm e1)) (lcm e2))
end
section
theorem C5{a b:W2}(ha:a≠ze2)(hb:b≠ze2):iv2 (ml2 a b)=ml2 (iv2 a) (iv2 b):=by
 have e0:=cQ (x:=ml2 a b) (fun h=>(fA h).elim ha hb)
 have e1:=cQ ha
 have e2:=cQ hb
 generalize iv2 (ml2 a b)=w at*
 generalize iv2 a=s at*
 generalize iv2 b=t at*
 exact zl R2 [a,b,s,t,w] 0xa 0x4455892535a579253a2 0x589 0x4455895567a535a57956853a579 (lca (lca (lcm e0) (lcm e1)) (lcm e2))
theorem PK{x:W2}(h:x≠ze2):ng2 x≠ze2:=fun e=>h (by
 have:=congrArg ng2 e
 rw[Dx]at this
 exact (R2.neg_neg x).symm.trans this)
/-! ### The first x -/
theorem Md(x:W2):ad2 (ml2 (ad2 (ml2 x x) OA) x) OB=gO x:=by
 unfold gO
 generalize OA=a
 generalize OB=b
 exact zx R2 [x,a,b] 0x454566768 0x44556665768
theorem W3(u:W2):ml2 (ml2 u u) OZ=zu2 u:=by
 unfold zu2
 generalize OZ=z
 exact zx R2 [u,z] 0x55667 0x55766
theorem Mt(u:W2):zu2 (ng2 u)=zu2 u:=by
 unfold zu2
 generalize OZ=z
 exact zx R2 [u,z] 0x5573636 0x55766
theorem TQ(u:W2):tu2 (ng2 u)=tu2 u:=by rw[tu2,tu2,Mt]
theorem Sn(u:W2):x1O (ng2 u)=x1O u:=by rw[x1O,x1O,TQ]
theorem Ja{u:W2}(h:tu2 u=ze2):ml2 (ml2 OB (ad2 (tu2 u) on2)) (iv2 (ml2 OZ OA))=x1O u:=by
 rw[show x1O u=ml2 OB (iv2 (ml2 OZ OA))from if_pos h,h,show ad2 ze2 on2=on2 from R2.zero_add on2,show ml2 OB on2=OB from R2.mul_one OB]
theorem Hs{u:W2}(h: ¬tu2 u=ze2):ml2 (ml2 OB (ad2 (tu2 u) on2)) (iv2 (ml2 (ng2 (tu2 u)) OA))=x1O u:=by
 rw[show x1O u=ml2 (ml2 (ng2 OB) (iv2 OA)) (ad2 on2 (iv2 (tu2 u)))from if_neg h]
 have e0:=cQ (x:=ml2 (ng2 (tu2 u)) OA) (fun k=>(fA k).elim (PK h) yr)
 have e1:=cQ yr
 have e2:=cQ h
 generalize iv2 (ml2 (ng2 (tu2 u)) OA)=w at*
 generalize tu2 u=t at*
 generalize iv2 t=s at*
 generalize iv2 OA=a' at*
 generalize OA=a at*
 generalize OB=b at*
 exact zl R2 [a,a',b,t,s,w] 0x558492b 0x4455385742a253585b5942a25358b2 0x5538742a 0x4455385742a55396b53585b5942a5675358b59a (lca (lca (lcm e0) (lcm e1)) (lcm e2))
/-! ### Signs -/
def sgS(r u:W2):W2:=if SG2 r=SG2 u then r else ng2 r
theorem QA(r u:W2):ml2 (sgS r u) (sgS r u)=ml2 r r:=by
 unfold sgS
 split
 ·rfl
 ·exact FP r
structure SwR(u x r:W2):Prop where
 sq:ml2 r r=gO x
 lg:LG2 r=false
 at1:x=x1O u∨(¬IsQ (nm2 (gO (x1O u)))∧x=ml2 (zu2 u) (x1O u))
theorem Pm(u:W2): ∃x r,SwR u x r:=by
 by_cases h:IsQ (nm2 (gO (x1O u)))
 ·obtain ⟨r,hr⟩:=(iS _).2 h
  exact ⟨_,NL r,(GU r).trans hr,oN r,.inl rfl⟩
 ·obtain ⟨r,hr⟩:=(iS _).2 (HA h)
  exact ⟨_,NL r,(GU r).trans hr,oN r,.inr ⟨h,rfl⟩⟩
theorem SwR.neg{u x r:W2}(h:SwR u x r):SwR (ng2 u) x r:=⟨h.sq,h.lg,by rw[Sn,Mt];exact h.at1⟩
theorem SwR.on{u x r:W2}(h:SwR u x r):ml2 (sgS r u) (sgS r u)=gO x:=(QA r u).trans h.sq
theorem Uy:tu2 ze2=ze2:=by decide+kernel
theorem No:X1c≠ze2:=by decide+kernel
theorem SwR.ze{x r:W2}(h:SwR ze2 x r):x≠ze2:=by
 have e:x1O ze2=X1c:=(if_pos Uy).trans DL
 rcases h.at1 with k|k
 ·rw[k,e];exact No
 ·refine absurd ((iS _).1 ⟨R1c, ?_⟩) k.1
  rw[E2,e]
/-! ### The map to the second curve -/
def C6:W2:=(zp 6,-zp 6)
theorem Sr:iXD=[ml2 C6 C6,ad2 C6 C6,on2]:=by decide+kernel
theorem Te:iYD=[ml2 C6 (ml2 C6 C6),ad2 (ml2 C6 C6) (ad2 (ml2 C6 C6) (ml2 C6 C6)),ad2 C6 (ad2 C6 C6),on2]:=by decide+kernel
theorem UH(x:W2):R2.pev iXD x=ml2 (ad2 x C6) (ad2 x C6):=by
 rw[Sr]
 generalize C6=c
 exact zx R2 [x,c] 0x45775644775642561 0x5467467
theorem Tg(x:W2):R2.pev iYD x=ml2 (ad2 x C6) (ml2 (ad2 x C6) (ad2 x C6)):=by
 rw[Te]
 generalize C6=c
 exact zx R2 [x,c] 0x45757756445774577577564474775642561 0x54675467467
def R32:Zp:=zp 0x1764c4d4cfa3326ab57cbfed7f4a64378dc56542f8ff574f159cb76173021e735e4c97e34b82fa6cc8627df6f1f0af2
theorem QE:R32*R32= -(zp 32):=by decide+kernel
theorem MW: ¬IsQ (zp 32):=by
 rcases lZ (a:=zp 32) (b:= -(zp 32)) (c:=zp 32) (by generalize zp 32=a;grind) (by decide+kernel)with h|h
 ·exact absurd (pn QE) h.2
 ·exact h.1
theorem Pf:nm2 (gO (ng2 C6))=zp 32:=by decide+kernel
theorem mg{x y:W2}(h:ml2 y y=gO x):ad2 x C6≠ze2:=fun k=>by
 have e:x=ng2 C6:=by
  have h:=k
  generalize C6=c at*
  exact zk R2 [x,c] 0x6 0x37 0x2 0x1 0x467 h
 have q:=lH h
 rw[e,Pf]at q
 exact MW q
theorem Ah{x y:W2}(h:ml2 y y=gO x):R2.pev iXD x≠ze2:=fun e=>(fA ((UH x).symm.trans e)).elim (mg h) (mg h)
theorem yN{x y:W2}(h:ml2 y y=gO x):R2.pev iYD x≠ze2:=fun e=>(fA ((Tg x).symm.trans e)).elim (mg h) (fun e=>(fA e).elim (mg h) (mg h))
def XIs(x:W2):W2:=ml2 (R2.pev iXN x) (iv2 (R2.pev iXD x))
def YIs(x y:W2):W2:=ml2 (ml2 y (R2.pev iYN x)) (iv2 (R2.pev iYD x))
theorem UU{n d e:W2}(hd:d≠ze2)(he:e≠ze2):ml2 (ml2 n e) (iv2 (ml2 d e))=ml2 n (iv2 d):=by
 rw[C5 hd he]
 have e2:=cQ he
 generalize iv2 d=s at*
 generalize iv2 e=t at*
 exact zk R2 [n,d,e,s,t] 0x556859a 0x569 0x569 0x2 0x58a e2
theorem Ul{n d e:W2}(hd:d≠ze2)(he:e≠ze2):ml2 (ml2 n d) (iv2 (ml2 d e))=ml2 n (iv2 e):=by
 rw[C5 hd he]
 have e1:=cQ hd
 generalize iv2 d=s at*
 generalize iv2 e=t at*
 exact zk R2 [n,d,e,s,t] 0x556759a 0x56a 0x56a 0x2 0x579 e1
theorem vS{x y:W2}(h:ml2 y y=gO x):E2w.on (XIs x,YIs x y):=Oj h (Ah h) (yN h)
/-! ### Coefficients, the highest first -/
def HK(f:Nat→W2)(x:W2):Nat→W2
 |0=>ze2
 |k+1=>ad2 (ml2 (HK f x k) x) (f k)
theorem QV(f:Nat→W2)(x:W2):HK f x 4=R2.pev [f 3,f 2,f 1,f 0] x:=by
 show ad2 (ml2 (ad2 (ml2 (ad2 (ml2 (ad2 (ml2 ze2 x) (f 0)) x) (f 1)) x) (f 2)) x) (f 3)=R2.pev [f 3,f 2,f 1,f 0] x
 generalize f 0=a3
 generalize f 1=a2
 generalize f 2=a1
 generalize f 3=a0
 exact zx R2 [a0,a1,a2,a3,x] 0x454545451a9a8a7a6 0x465a475a485a495a1
theorem HK_z(f:Nat→W2)(x:W2)(h:f 0=ze2):HK f x 4=R2.pev [f 3,f 2,f 1] x:=by
 show ad2 (ml2 (ad2 (ml2 (ad2 (ml2 (ad2 (ml2 ze2 x) (f 0)) x) (f 1)) x) (f 2)) x) (f 3)=R2.pev [f 3,f 2,f 1] x
 rw[h]
 generalize f 1=a2
 generalize f 2=a1
 generalize f 3=a0
 exact zx R2 [a0,a1,a2,x] 0x45454545191989796 0x4659475948591
/-! ### What the laws ask besides -/
end
section
open J2
open Go.RowKit
attribute [local simp] aW bd aU aP aD bf aL aK aB PLl cm cq N1l cr cp cu a8 bg aQ a6 bc bj
theorem ent288:ai prog 288:=fun _ _=>kr
theorem ent287:ai prog 287:=fun _ _=>kr
theorem ent268:ai prog 268:=fun _ _=>kr
theorem ent270:ai prog 270:=fun _ _=>kr
theorem ent265:ai prog 265:=fun _ _=>kr
theorem ent266:ai prog 266:=fun _ _=>kr
theorem ent285:ai prog 285:=fun _ _=>kr
theorem ent264:ai prog 264:=fun _ _=>kr
theorem pA  :PUR 288 [] (EV2 OA):=pE TO68 func288 [] (.inl (.inl [OA.1,OA.2])) (let t0:=zp (240#64).toNat;(.inl (.inl [0,t0]),[])) [] kr aI rfl
def TO69:Tb prog Gt:=TO68.add (yy (g:=OA) ent288 pA)
theorem pB  :PUR 287 [] (EV2 OB):=pE TO69 func287 [] (.inl (.inl [OB.1,OB.2])) (let t0:=zp (1012#64).toNat;let t1:=zp (1012#64).toNat;(.inl (.inl [t0,t1]),[])) [] kr aI rfl
def TO70:Tb prog Gt:=TO69.add (yy (g:=OB) ent287 pB)
theorem pZ  :PUR 268 [] (EV2 OZ):=pE TO70 func268 [] (.inl (.inl [OZ.1,OZ.2])) (let t0:=zp (2#64).toNat;let t1:=ng2 (t0,1);(.inl (.inl [t1.1,t1.2]),[])) [] kr aI rfl
def TO71:Tb prog Gt:=TO70.add (yy (g:=OZ) ent268 pZ)
theorem psq(x:W2):PUR 270 [EV2 x] (EV2 (gO x)):=pE TO71 func270 [.inl [x.1,x.2]] (.inl (.inl [(gO x).1,(gO x).2])) (let t0:=ml2 x x;let t1:=OA;let t2:=ad2 (t0.1,t0.2) (t1.1,t1.2);let t3:=ml2 (t2.1,t2.2) x;let t4:=OB;let t5:=ad2 (t3.1,t3.2) (t4.1,t4.2);(.inl (.inl [t5.1,t5.2]),[])) [] kr aI (el2 (congrArg Prod.fst (Md x)) (congrArg Prod.snd (Md x)))
def WP:Tb prog Gt:=TO71.add (fg (g:=gO) ent270 psq)
def FXs(s:W2):W2:=if (ad2 (ml2 s s) s)=ze2 then ml2 (ml2 OB (ad2 (ad2 (ml2 s s) s) on2)) (iv2 (ml2 OZ OA))else ml2 (ml2 OB (ad2 (ad2 (ml2 s s) s) on2)) (iv2 (ml2 (ng2 (ad2 (ml2 s s) s)) OA))
theorem Qb(u:W2):FXs (zu2 u)=x1O u:=by
 by_cases h:tu2 u=ze2
 ·exact (if_pos h).trans (Ja h)
 ·exact (if_neg h).trans (Hs h)
theorem ND(s:W2):PUR 269 [EV2 s] (EV2 (FXs s)):=by
 by_cases h:(ad2 (ml2 s s) s)=ze2
 ·exact pE WP func269 [.inl [s.1,s.2]] (.inl (.inl [(FXs s).1,(FXs s).2])) (let t0:=ml2 s s;let t1:=ad2 (t0.1,t0.2) s;let t3:=OZ;let t4:=OB;let t5:=on2;let t6:=ad2 (t1.1,t1.2) (t5.1,t5.2);let t7:=ml2 (t4.1,t4.2) (t6.1,t6.2);let t8:=OA;let t9:=ml2 (t3.1,t3.2) (t8.1,t8.2);let t10:=iv2 (t9.1,t9.2);let t11:=ml2 (t7.1,t7.2) (t10.1,t10.2);(.inl (.inl [t11.1,t11.2]),[(decide ((t1.1,t1.2)=ze2),true)])) [some true] kr (aw (decide_eq_true h) aI) (by rw[show FXs s=_ from if_pos h]<;>exact rfl)
 ·exact pE WP func269 [.inl [s.1,s.2]] (.inl (.inl [(FXs s).1,(FXs s).2])) (let t0:=ml2 s s;let t1:=ad2 (t0.1,t0.2) s;let t2:=ng2 (t1.1,t1.2);let t3:=OB;let t4:=on2;let t5:=ad2 (t1.1,t1.2) (t4.1,t4.2);let t6:=ml2 (t3.1,t3.2) (t5.1,t5.2);let t7:=OA;let t8:=ml2 (t2.1,t2.2) (t7.1,t7.2);let t9:=iv2 (t8.1,t8.2);let t10:=ml2 (t6.1,t6.2) (t9.1,t9.2);(.inl (.inl [t10.1,t10.2]),[(decide ((t1.1,t1.2)=ze2),false)])) [some false] kr (aw (decide_eq_false h) aI) (by rw[show FXs s=_ from if_neg h]<;>exact rfl)
theorem sg_t{r u:W2}(h:SG2 r=SG2 u):(SG2 r !=SG2 u)=false:=by rw[h];exact bne_self_eq_false _
theorem sg_f{r u:W2}(h: ¬SG2 r=SG2 u):(SG2 r !=SG2 u)=true:=bne_iff_ne.2 h
theorem Bb(r u:W2)(h:SG2 r=SG2 u):PUR 271 [EV2 r,I (SG2 u)] (EV2 r):=by
 intro w hw
 refine Hf func271 rfl hw<|fun hGF=>Xp<|Bx 2 hGF rfl<|fun b2=>Al 4 hGF zv92<|fun b4=>aa<|ah<|Xp<|La 2 rfl rfl aH<|Ca rfl (vj _)<|Mv rfl<|Bnb false rfl rfl (fun _=>aX _ _ _) (sg_t h)<|aa<|aq rfl<|ap<|Xp<|La 2 rfl rfl aH<|Sa 4 hGF rfl rfl rfl aH<|aa<|am<|Rr<|?_
 exact ay 4 rfl rfl rfl isAgg92 sizeOf92 sm (fun w hw=>⟨rfl,ac hw⟩)
theorem AE(r u:W2)(h: ¬SG2 r=SG2 u):PUR 271 [EV2 r,I (SG2 u)] (EV2 (ng2 r)):=by
 intro w hw
 refine Hf func271 rfl hw<|fun hGF=>Xp<|Bx 2 hGF rfl<|fun b2=>Al 4 hGF zv92<|fun b4=>aa<|ah<|Xp<|La 2 rfl rfl aH<|Ca rfl (vj _)<|Mv rfl<|Bnb true rfl rfl (fun _=>aX _ _ _) (sg_f h)<|aa<|aV rfl<|Xp<|La 2 rfl rfl aH<|Ca rfl (CA _)<|Sa 4 hGF rfl rfl rfl aH<|aa<|am<|Rr<|?_
 exact ay 4 rfl rfl rfl isAgg92 sizeOf92 sm (fun w hw=>⟨rfl,ac hw⟩)
theorem yp(r u:W2):PUR 271 [EV2 r,I (SG2 u)] (EV2 (sgS r u)):=by
 by_cases h:SG2 r=SG2 u
 ·rw[show sgS r u=r from if_pos h];exact Bb r u h
 ·rw[show sgS r u=ng2 r from if_neg h];exact AE r u h
theorem B5(u:W2):PUR 150 [EV2 (ml2 u u),EV2 OZ] (EV2 (zu2 u)):=by
 have h:=dh (ml2 u u) OZ
 rw[W3]at h
 exact h
theorem yC(u:W2):PUR 269 [EV2 (zu2 u)] (EV2 (x1O u)):=by
 have h:=ND (zu2 u)
 rw[Qb]at h
 exact h
theorem O1(u r:W2)(hr:ml2 r r=gO (x1O u))(hl:LG2 r=false):PUR 231 [EV2 u] (.tuple #[EV2 (x1O u),EV2 (sgS r u)]):=by
 intro w hw
 refine Hf func231 rfl hw<|fun hGF=>Xp<|Bx 1 hGF rfl<|fun b1=>Al 2 hGF zv92<|fun b2=>Al 3 hGF zv92<|fun b3=>aa<|Xp<|La 1 rfl rfl aH<|Ca rfl (h9 _)<|Ca rfl (pZ)<|Ca rfl (B5 u)<|Al 4 hGF zv92<|fun b4=>Sa 4 hGF rfl rfl rfl aH<|aa<|Xp<|La 4 rfl rfl aH<|Ca rfl (yC u)<|Al 5 hGF zv92<|fun b5=>Sa 5 hGF rfl rfl rfl aH<|aa<|Xp<|La 5 rfl rfl aH<|Ca rfl (psq _)<|Ca rfl (n9 _ r hr hl)<|Mv rfl<|Ext rfl rfl<|Ext rfl rfl<|Al 6 hGF zv92<|fun b6=>Sa 6 hGF rfl rfl rfl aH<|Asg rfl<|aa<|ah<|Xp<|Mv rfl<|aY rfl (fun _=>aJ _) rfl rfl<|aa<|aq rfl<|ap<|Xd []<|La 5 rfl rfl aH<|?_
 refine La 6 rfl rfl aH<|La 1 rfl rfl aH<|Ca rfl (vj _)<|Ca rfl (yp r u)<|Sa 2 hGF rfl rfl rfl aH<|Sa 3 hGF rfl rfl rfl aH<|aa<|am<|Rr<|?_
 exact tj 2 3 rfl rfl rfl rfl rfl isAgg92 sizeOf92 sm sm (fun w hw=>⟨rfl,ac hw⟩)
theorem Q8(u r:W2)(hq: ¬IsQ (nm2 (gO (x1O u))))(hr:ml2 r r=gO (ml2 (zu2 u) (x1O u)))(hl:LG2 r=false):PUR 231 [EV2 u] (.tuple #[EV2 (ml2 (zu2 u) (x1O u)),EV2 (sgS r u)]):=by
 intro w hw
 refine Hf func231 rfl hw<|fun hGF=>Xp<|Bx 1 hGF rfl<|fun b1=>Al 2 hGF zv92<|fun b2=>Al 3 hGF zv92<|fun b3=>aa<|Xp<|La 1 rfl rfl aH<|Ca rfl (h9 _)<|Ca rfl (pZ)<|Ca rfl (B5 u)<|Al 4 hGF zv92<|fun b4=>Sa 4 hGF rfl rfl rfl aH<|aa<|Xp<|La 4 rfl rfl aH<|Ca rfl (yC u)<|Al 5 hGF zv92<|fun b5=>Sa 5 hGF rfl rfl rfl aH<|aa<|Xp<|La 5 rfl rfl aH<|Ca rfl (psq _)<|Ca rfl (te _ hq)<|Mv rfl<|Ext rfl rfl<|Ext rfl rfl<|Al 6 hGF zv92<|fun b6=>Sa 6 hGF rfl rfl rfl aH<|Asg rfl<|aa<|ah<|Xp<|Mv rfl<|aY rfl (fun _=>aJ _) rfl rfl<|aa<|aV rfl<|Xp<|La 4 rfl rfl aH<|La 5 rfl rfl aH<|?_
 refine Ca rfl (dh (zu2 u) (x1O u))<|Sa 5 hGF rfl rfl rfl aH<|aa<|Xq<|La 5 rfl rfl aH<|Ca rfl (psq _)<|Ca rfl (n9 _ r hr hl)<|Mv rfl<|Ext rfl rfl<|Ext rfl rfl<|Sa 6 hGF rfl rfl rfl aH<|aa<|Xd []<|La 5 rfl rfl aH<|La 6 rfl rfl aH<|La 1 rfl rfl aH<|Ca rfl (vj _)<|Ca rfl (yp r u)<|Sa 2 hGF rfl rfl rfl aH<|Sa 3 hGF rfl rfl rfl aH<|aa<|am<|Rr<|?_
 exact tj 2 3 rfl rfl rfl rfl rfl isAgg92 sizeOf92 sm sm (fun w hw=>⟨rfl,ac hw⟩)
theorem pswu{u x r:W2}(h:SwR u x r):PUR 231 [EV2 u] (.tuple #[EV2 x,EV2 (sgS r u)]):=by
 obtain ⟨hr,hl,rfl|⟨hq,rfl⟩⟩:=h
 ·exact O1 u r hr hl
 ·exact Q8 u r hq hr hl
end
section
open J2
open Go.RowKit
attribute [local simp] aW bd aU aP aD bf aL aK aB PLl cm cq N1l cr cp cu a8 bg aQ a6 bc bj
end
end Go.Proofs.YtfgacclgjklgnaaGreatDoor
