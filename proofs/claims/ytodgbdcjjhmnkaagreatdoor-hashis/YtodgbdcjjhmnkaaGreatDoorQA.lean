/-
 The document's clearing; its messages made points.
 The document's messages made points.
-/
import Derived.Test.YtodgbdcjjhmnkaaGreatDoorQ8
import Derived.Test.YtodgbdcjjhmnkaaGreatDoorXJ
import Derived.Test.YtodgbdcjjhmnkaaGreatDoorX3
import Derived.Test.YtodgbdcjjhmnkaaGreatDoorXW
set_option maxRecDepth 100000
set_option maxHeartbeats 1000000
namespace Go.Proofs.YtodgbdcjjhmnkaaGreatDoor
open Go.Proofs.Tryz
section
open Go.RowKit
attribute [local simp] bp bQ aI aB bj bc aX aW bv PLl eK eI N1l eP eU eW bJ bV bY bX cH eT cb cw Xm.N2r_len
theorem ent47:am Tryz.prog 47:=fun _ _=>by kernel_rfl
theorem ent7:am Tryz.prog 7:=fun _ _=>by kernel_rfl
def dgt(c:BitVec 8):BitVec 8:=if 97#8≤c then c-97#8+10#8 else c-48#8
theorem rX(c:BitVec 8):Pure Tryz.prog Gt 90 [U8 c] (U8 (dgt c)):=by
 intro w hw
 have hGF:BOk Gt (pl w):=gt_low.plain hw
 by_cases h:97#8≤c
 ·rw[show dgt c=_ from if_pos h]
  refine Hd func90 rfl hGF<|Xp<|Asg rfl<|aa<|ah<|Xp<|Mv rfl<|Bnb true rfl rfl (fun _=>lZ _ _ 97#8) (decide_eq_true h)<|aa<|bf rfl<|Xp<|Mv rfl<|Bnr rfl rfl (fun _=>m4 _ _ _)<|Bnr rfl rfl (fun _=>tS _ _ _)<|Asg rfl<|aa<|aq<|Rr<|?_
  exact aQ rfl rfl (fun w hw=>⟨rfl,ac hw⟩)
 ·rw[show dgt c=_ from if_neg h]
  refine Hd func90 rfl hGF<|Xp<|Asg rfl<|aa<|ah<|Xp<|Mv rfl<|Bnb false rfl rfl (fun _=>lZ _ _ 97#8) (decide_eq_false h)<|aa<|aV rfl<|au<|Xp<|Mv rfl<|Bnr rfl rfl (fun _=>m4 _ _ _)<|Asg rfl<|aa<|aq<|Rr<|?_
  exact aQ rfl rfl (fun w hw=>⟨rfl,ac hw⟩)
def HXL:List UInt8:=(List.append (List.append [48,98,99,54,57,102,48,56,102,50,101,101,55,53,98,51,53,56,52,99,54,97,48,101,97,57,49,98,51,53,50,56,56,56,101,50,97,56,101,57] [49,52,53,97,100,55,54,56,57,57,56,54,102,102,48,51,49,53,48,56,102,102,101,49,51,50,57,99,50,102,49,55,56,55,51,49,100,98,57,53]) (List.append [54,100,56,50,98,102,48,49,53,100,49,50,49,50,98,48,50,101,99,48,101,99,54,57,100,55,52,55,55,99,49,97,101,57,53,52,99,98,99,48] [54,54,56,57,102,54,97,51,53,57,56,57,52,99,48,97,100,101,98,98,102,54,98,52,101,56,48,50,48,48,48,53,97,97,97,57,53,53,53,49]))
def HX:List (BitVec 8):=[48#8,98#8,99#8,54#8,57#8,102#8,48#8,56#8,102#8,50#8,101#8,101#8,55#8,53#8,98#8,51#8,53#8,56#8,52#8,99#8,54#8,97#8,48#8,101#8,97#8,57#8,49#8,98#8,51#8,53#8,50#8,56#8,56#8,56#8,101#8,50#8,97#8,56#8,101#8,57#8,49#8,52#8,53#8,97#8,100#8,55#8,54#8,56#8,57#8,57#8,56#8,54#8,102#8,102#8,48#8,51#8,49#8,53#8,48#8,56#8,102#8,102#8,101#8,49#8,51#8,50#8,57#8,99#8,50#8,102#8,49#8,55#8,56#8,55#8,51#8,49#8,100#8,98#8,57#8,53#8,54#8,100#8,56#8,50#8,98#8,102#8,48#8,49#8,53#8,100#8,49#8,50#8,49#8,50#8,98#8,48#8,50#8,101#8,99#8,48#8,101#8,99#8,54#8,57#8,100#8,55#8,52#8,55#8,55#8,99#8,49#8,97#8,101#8,57#8,53#8,52#8,99#8,98#8,99#8,48#8,54#8,54#8,56#8,57#8,102#8,54#8,97#8,51#8,53#8,57#8,56#8,57#8,52#8,99#8,48#8,97#8,100#8,101#8,98#8,98#8,102#8,54#8,98#8,52#8,101#8,56#8,48#8,50#8,48#8,48#8,48#8,53#8,97#8,97#8,97#8,57#8,53#8,53#8,53#8,49#8]
def HBs:List (BitVec 8):=[11#8,198#8,159#8,8#8,242#8,238#8,117#8,179#8,88#8,76#8,106#8,14#8,169#8,27#8,53#8,40#8,136#8,226#8,168#8,233#8,20#8,90#8,215#8,104#8,153#8,134#8,255#8,3#8,21#8,8#8,255#8,225#8,50#8,156#8,47#8,23#8,135#8,49#8,219#8,149#8,109#8,130#8,191#8,1#8,93#8,18#8,18#8,176#8,46#8,192#8,236#8,105#8,215#8,71#8,124#8,26#8,233#8,84#8,203#8,192#8,102#8,137#8,246#8,163#8,89#8,137#8,76#8,10#8,222#8,187#8,246#8,180#8,232#8,2#8,0#8,5#8,170#8,169#8,85#8,81#8]
theorem IN: ∀i:Fin 160,HXL.toArray[i.val]? =some (UInt8.ofBitVec (HX.getD i.val 0)):=by decide+kernel
theorem Fw{i:Nat}{z:Int}(hz:z=(i:Int))(h:i<160):HXL.toArray[z.toNat]? =some (UInt8.ofBitVec (HX.getD i 0)):=by
 subst hz
 rw[Int.toNat_natCast];exact IN ⟨i,h⟩
theorem EH: ∀k:Fin 80,dgt (HX.getD (2*k.val) 0)<<<(4#64).toNat|||dgt (HX.getD (2*k.val+1) 0)=HBs.getD k.val 0:=by decide+kernel
theorem JZ{k:Nat}(h:k<80):dgt (HX.getD (2*k) 0)<<<(4#64).toNat|||dgt (HX.getD (2*k+1) 0)=HBs.getD k 0:=EH ⟨k,h⟩
theorem EF:HBs.length=80:=rfl
def HBk(k:Nat):List Value:=(HBs.take k).map U8
theorem jM{k:Nat}(h:k≤80):(HBk k).length=k:=by rw[HBk,List.length_map,List.length_take,show HBs.length=80 from rfl];omega
theorem zn{k:Nat}(h:k<80):HBk k++[U8 (HBs.getD k 0)]=HBk (k+1):=by
 rw[HBk,HBk,List.take_add_one,List.getD_eq_getElem?_getD,List.getElem?_eq_getElem (show k<HBs.length from h),List.map_append];rfl
theorem CJ:HBk 80=HBs.map U8:=rfl
theorem ti5s:TI Tryz.prog 5 (.int .u8 0) 1 1:=wB (by kernel_rfl)
structure AppV(f:Nat→List Value)(e N:Nat) where
 (k:Nat) (a0:Option Addr) (cap:Nat) (own:Hl)
 hk:k≤N
 hs:OwnV own 50 e a0 cap (f k)
theorem OwnV.skip{L:Hl}{n:Nat}{e:TypeId}{a0:Option Addr}{cap:Nat}{xs:List Value}(h:OwnV L n e a0 cap xs)(m:Nat){x:Nat×List Value×TypeId}(hm:Nat.beq m n=false):OwnV ((m,x)::L) n e a0 cap xs:=by
 rcases h with h|⟨b,c,h1,h2,h3⟩
 ·exact .inl h
 ·exact .inr ⟨b,c,h1,by show (bif Nat.beq m n then some x else lkB L n)=_;rw[hm];exact h2,h3⟩
theorem Kf(w:World)(hw:Gt w):Calls Tryz.prog 47 [].toArray w (fun e w'=> ∃b c cap,e=.returned (.slice (some ⟨b,0,none⟩) 80 cap)∧Grow w w'∧w.heap.size≤b∧OwnB w' b c 5∧c.take HBs.length=HBs.map U8):=by
 have hGF:BOk Gt (pl w):=gt_low.plain hw
 have fin: ∀{L:Hl} {a0:Option Addr} {cap:Nat} {w':World},OwnV L 50 5 a0 cap (HBk 80)→Hp (pl w) L w'→∃b c cap',Ending.returned (.slice a0 (HBk 80).length cap)=.returned (.slice (some ⟨b,0,none⟩) 80 cap')∧Grow w w'∧w.heap.size≤b∧OwnB w' b c 5∧c.take HBs.length=HBs.map U8:=fun {L a0 cap w'} h hp=>by
  rcases h with ⟨_,h,_⟩|⟨b,c,rfl,hl,hc,hle,ht⟩
  ·have e:=jM (k:=80) (by omega);rw[h]at e;cases e
  ·refine ⟨b,c,cap,by rw[jM (by omega)],ac hp,(hp.own _ _ _ _ hl).2.elim id False.elim,(hp.own _ _ _ _ hl).1, ?_⟩
   rw[jM (by omega),CJ]at ht
   exact ht
 refine Hd func47 rfl hGF<|Xp<|Asg rfl<|aa<|Xp<|Asg rfl<|aa<|ah<|Xp<|Asg rfl<|aa<|ai<|bg (ι:=AppV HBk 5 80) (fun x=>[(1,.slice x.a0 (HBk x.k).length x.cap),(2,I ((2*x.k:Nat):Int))]) (fun x=>x.own) (fun x=>80-x.k) ⟨0,none,0,[],by omega,y4 _ _ _⟩ hGF ⟨rfl,rfl,trivial⟩ trivial<|?_
 rintro ⟨k,a0,cap,own,hk,hs⟩
 dsimp only at hs⊢
 refine ah<|Xp<|Mv rfl<|Bnr (v:=.bool (decide (k<80))) rfl rfl (fun _=>(av _ _ _).trans (by rw[show decide (((2*k:Nat):Int)<160)=decide (k<80)from decide_eq_decide.2 (by omega)]))<|aa<|?_
 refine ba rfl (fun hc=> ?_) (fun hc=> ?_)
 ·have hk2:k<80:=by simpa using hc
  refine au<|ah<|ai<|Xe []<|Mv rfl<|Mv rfl<|wC (n:=HX.getD (2*k) 0) rfl rfl underlying9 (by omega) (Fw (i:=2*k) (rfl) (by omega)) rfl rfl<|Ca rfl (rX _)<|Bnr (v:=U8 (dgt (HX.getD (2*k) 0)<<<(4#64).toNat)) rfl rfl (fun _=>tG _ _ 4#64)<|Mv rfl<|Bnr (v:=I (((2*k:Nat):Int)+1)) rfl rfl (fun _=>ap _ _ _ (by unfold inI;omega))<|wC (n:=HX.getD (2*k+1) 0) rfl rfl underlying9 (by omega) (Fw (i:=2*k+1) (by omega) (by omega)) rfl rfl<|Ca rfl (rX _)<|Bnr (v:=U8 (HBs.getD k 0)) rfl rfl (fun _=>(xK _ _ _).trans (by rw[JZ hk2]))<|o6 17 [U8 (HBs.getD k 0)] hGF rfl rfl rfl (by decide) (by decide) underlying22 sizeOf5 zeroValue5 rfl rfl rfl<|?_
  intro b17
  refine sL (xs:=HBk k) (ys:=[U8 (HBs.getD k 0)]) 50 hGF rfl rfl underlying22 underlying22 ti5s rfl (hs.skip 17 rfl) (fun w' h=>aU (n:=17) rfl w' h) rfl (by simp) (by rw[jM hk];show (k+1)*1≤_;omega) (by rw[jM hk];show k+1≤_;omega) rfl rfl (fun bA cA capA eA lA tA=> ?_)
  subst eA
  rw[zn hk2]at lA tA⊢
  refine Asg rfl<|aa<|Xq<|Mv rfl<|Bnr (v:=I ((2*(k+1):Nat):Int)) rfl rfl (fun _=>(ap _ _ _ (by unfold inI;omega)).trans (by rw[show ((2*k:Nat):Int)+2=((2*(k+1):Nat):Int) by omega]))<|Asg rfl<|aa<|?_
  repeat (refine aJ ?_)
  exact aA<|⟨rfl,⟨k+1,some ⟨bA,0,none⟩,_,[(50,bA,cA,5)],by omega,.inr ⟨bA,cA,rfl,rfl,rfl,lA,tA⟩⟩,_,by show 80-(k+1)<80-k;omega,rfl,⟨rfl,rfl,trivial⟩,⟨rfl,trivial⟩⟩
 ·obtain rfl:k=80:=by simp at hc;omega
  refine aM<|Xp<|Mv rfl<|Asg rfl<|aa<|aq<|Rr<|?_
  exact aQ rfl rfl (fun w' hw'=>fin hs hw')
def RH(x:W6):W6:=RMJ x HBs (8*HBs.length)
theorem G8(x:W6)(e:Option Addr)(cap:Nat)(bs:List (BitVec 8))(n:Nat)(hn:bs.length=n)(hl:n≤4096)(y:W6)(hy:RMJ x bs (8*bs.length)=y)(w:World)(hw:Gt w)(hby:BytesAt w e bs):Calls Tryz.prog 46 [EV6 x,.slice e n cap].toArray w (fun r w'=>r=.returned (EV6 y)∧Grow w w'):=by
 subst hn hy
 exact rL x e cap bs hl w hw hby
theorem Ho(x:W6)(b cap:Nat)(c:List Value)(w:World)(hw:Gt w)(h:w.rangeAt b 0 c)(ht:c.take HBs.length=HBs.map U8):Calls Tryz.prog 46 [EV6 x,.slice (some ⟨b,0,none⟩) 80 cap].toArray w (fun r w'=>r=.returned (EV6 (RH x))∧Grow w w'):=
 G8 x (some ⟨b,0,none⟩) cap HBs 80 EF (by decide) (RH x) rfl w hw (kL h ht)
theorem L2{x:W6}{P Q:Pt W2}(hP:E2w.onP P)(hx:E2w.jr x P)(bs:List (BitVec 8))(m:Nat)(hn:BN bs bs.length=m)(y:W6)(hy:y=RMJ x bs (8*bs.length))(hQ:E2w.times P m=Q):E2w.jr y Q:=by
 subst hn hy hQ
 rw[←ge];exact Ar hP hx bs (8*bs.length)
theorem FR:BN HBs HBs.length=HEF:=by decide+kernel
theorem KQ(x:W6):RH x=RMJ x HBs (8*HBs.length):=by rw[RH]
theorem MZ{x:W6}{P Q:Pt W2}(hP:E2w.onP P)(hx:E2w.jr x P)(hQ:E2w.times P HEF=Q):E2w.jr (RH x) Q:=L2 hP hx HBs HEF FR (RH x) (KQ x) hQ
theorem yW(x:W6):Pure Tryz.prog Gt 17 [EV6 x] (EV6 (RH x)):=by
 intro w hw
 refine Hf func17 rfl hw<|fun hGF=>Xp<|Bx 1 hGF rfl<|fun b1=>Al 2 hGF zv41<|fun b2=>aa<|o9 (EE [47,2000047]) eH (by kernel_rfl) (by kernel_rfl)<|aG (m:=0) [0,1,2,3] (by kernel_rfl)<|La 1 rfl rfl gT<|?_
 refine bx rfl rfl ent47 rfl rfl (fun w' hw'=>(Kf w' (hGF.g _ _ _ hw')).mono fun e' w'' h=> ?_)
 obtain ⟨c1,cc,cp,rfl,hg,h1,ho,ht⟩:=h
 refine ⟨_,_,rfl,az hGF,hw'.news ao hg [(33,c1,cc,5)] ?_ bH,bB ao rfl, ?_⟩
 ·intro n' b' c' t' hl
  rcases aH hl with ⟨_,e⟩|⟨_,hl⟩
  ·cases e;exact ⟨h1,ho⟩
  ·cases hl
 clear hw' hg h1 ho
 refine Cc rfl ent46 (fun w' hC hG=>Ho x _ _ _ w' hG (aU (n:=33) rfl w' hC) ht)<|Sa 2 hGF rfl rfl rfl gT<|aa<|cv (by kernel_rfl)<|aA<|aq<|Rr<|?_
 exact aw 2 rfl rfl rfl isAgg41 sizeOf41 (by simp) (fun w hw=>⟨rfl,ac hw⟩)
end
section
open Go.RowKit
attribute [local simp] bp bQ aI aB bj bc aX aW bv PLl eK eI N1l eP eU eW bJ bV bY bX cH eT cb cw Xm.N2r_len
def U2n(msg dst:List (BitVec 8))(i:Nat):W2:=Xm.N2 (Xm.E msg dst 256) i
abbrev U2c(msg dst:List (BitVec 8)):List Value:=(RW 12 (Xm.N2r (Xm.E msg dst 256)) 2).map U64
def SwA(u:W2)(A:W2×W2):Prop:= ∃x r,SwR u x r∧(XIs x,YIs x (sgS r u))=A
theorem zH(u:W2): ∃A,SwA u A:=by
 obtain ⟨x,r,h⟩:=IT u
 exact ⟨_,x,r,h,rfl⟩
theorem po{u:W2}{A:W2×W2}(h:SwA u A):E2w.on A:=by
 obtain ⟨x,r,s,rfl⟩:=h
 exact ub s.on
theorem Gg{u:W2}{A:W2×W2}(h:SwA u A):Pure Tryz.prog Gt 27 [EV2 u] (EV6 (A.1,A.2,on2)):=by
 obtain ⟨x,r,s,rfl⟩:=h
 exact rmap s
def RHf(A B:W2×W2):W6:=RH (E2w.jaF (A.1,A.2,on2) (B.1,B.2,on2))
theorem zF(A B:W2×W2):Pure Tryz.prog Gt 17 [EV6 (E2w.jaF (A.1,A.2,on2) (B.1,B.2,on2))] (EV6 (RHf A B)):=by
 rw[RHf];exact yW _
structure Sw2(msg dst:List (BitVec 8))(A B:W2×W2):Prop where
 s0:SwA (U2n msg dst 0) A
 s1:SwA (U2n msg dst 1) B
theorem n4{msg dst:List (BitVec 8)}{w0 w:World}{v:Value}(h:Xm.RFt msg dst 2 w0 w v)(hb: ¬Xm.FBad msg dst 2): ∃b cap,v=.tuple #[.slice (some ⟨b,0,none⟩) 2 cap,I 0]∧w0.heap.size≤b∧w.rangeAt b 0 (U2c msg dst):=by
 obtain ⟨a,cap,hv,ha⟩:=h.ok hb
 obtain ⟨b,rfl,hs,hr⟩:=ha.resolve_left (by decide)
 exact ⟨b,cap,hv,hs,hr⟩
theorem tO{msg dst:List (BitVec 8)}{w:World}{b:Nat}(h:w.rangeAt b 0 (U2c msg dst)):b<w.heap.size:=by
 have hl:0<(U2c msg dst).length:=by simp[U2c]
 exact block_lt_of_cell (h 0 _ (List.getElem?_eq_getElem hl))
theorem zO{msg dst:List (BitVec 8)}{w:World}{b:Nat}(h:w.rangeAt b 0 (U2c msg dst))(i:Nat)(hi:i<2):w.rangeAt b (0+12*i) ((fe (U2n msg dst i).1++fe (U2n msg dst i).2).map U64):=kC h hi (Xm.N2r_len _ _)
theorem xo(bm:Nat)(a1:Option Addr)(cap1:Nat)(msg:List (BitVec 8))(a2:Option Addr)(cap2:Nat)(dst:List (BitVec 8))(w:World)(hw:Gt w)(ho:OwnB w bm (Sh.MK.map U32) 77)(hb1:BytesAt w a1 msg)(hb2:BytesAt w a2 dst)(hbad:Xm.FBad msg dst 2):Calls Tryz.prog 7 [.pointer (some ⟨bm,0,none⟩),.slice a1 msg.length cap1,.slice a2 dst.length cap2].toArray w (fun e w'=>e=.returned (.tuple #[EV6 (ze2,ze2,ze2),I 130])∧Grow w w'):=by
 refine Hf func7 rfl hw<|fun hGF=>ae (E:=EE [26,2000026])<|Al 6 hGF zv41<|fun b6=>Asg rfl<|aa<|ae (E:=EE [26,2000026])<|Mv rfl<|Mv rfl<|Mv rfl<|?_
 refine bx rfl rfl ent26 rfl rfl (fun w' hw'=>(Xm.rfields bm a1 cap1 msg a2 cap2 dst 2 w' (hGF.g _ _ _ hw') (Xm.own_grow ho (ac hw')) (hb1.grow (ac hw')) (hb2.grow (ac hw'))).mono fun e w'' h=> ?_)
 obtain ⟨v,rfl,hg,hq⟩:=h
 obtain rfl:=hq.bad hbad
 refine ⟨_,_,rfl,az hGF,hw'.grow ao hg,fun _ h=>h, ?_⟩
 clear hq hg hw'
 refine Mv rfl<|Ext rfl rfl<|Ext rfl rfl<|Asg rfl<|Asg rfl<|aa<|ah<|ae (E:=EE [26,2000026])<|Mv rfl<|Bnb true rfl rfl (fun _=>bK _ _ _) (rfl)<|aa<|bf rfl<|ae (E:=EE [26,2000026])<|kR wd rfl rfl<|Mv rfl<|Sa 6 hGF rfl rfl rfl gT<|Asg rfl<|aa<|aq<|Rr<|?_
 exact bG 6 rfl rfl rfl rfl isAgg41 sizeOf41 (by simp) (fun w hw=>⟨rfl,ac hw⟩)
theorem yx(bm:Nat)(a1:Option Addr)(cap1:Nat)(msg:List (BitVec 8))(a2:Option Addr)(cap2:Nat)(dst:List (BitVec 8))(w:World)(hw:Gt w)(ho:OwnB w bm (Sh.MK.map U32) 77)(hb1:BytesAt w a1 msg)(hb2:BytesAt w a2 dst)(hbad: ¬Xm.FBad msg dst 2){A B:W2×W2}(h:Sw2 msg dst A B):Calls Tryz.prog 7 [.pointer (some ⟨bm,0,none⟩),.slice a1 msg.length cap1,.slice a2 dst.length cap2].toArray w (fun e w'=>e=.returned (.tuple #[EV6 (RHf A B),I 0])∧Grow w w'):=by
 refine Hf func7 rfl hw<|fun hGF=>ae (E:=EE [26,2000026])<|Al 6 hGF zv41<|fun b6=>Asg rfl<|aa<|ae (E:=EE [26,2000026])<|Mv rfl<|Mv rfl<|Mv rfl<|?_
 refine bx rfl rfl ent26 rfl rfl (fun w' hw'=>(Xm.rfields bm a1 cap1 msg a2 cap2 dst 2 w' (hGF.g _ _ _ hw') (Xm.own_grow ho (ac hw')) (hb1.grow (ac hw')) (hb2.grow (ac hw'))).mono fun e w'' h=> ?_)
 obtain ⟨v,rfl,hg,hq⟩:=h
 obtain ⟨b,cap,rfl,hbs,hbr⟩:=n4 hq hbad
 refine ⟨_,_,rfl,az (jI hGF),y1 hw' ao hg hbs (tO hbr) hbr,fun _ h=>gu h, ?_⟩
 clear hq hg hw' hbs hbr
 refine Mv rfl<|Ext rfl rfl<|Ext rfl rfl<|Asg rfl<|Asg rfl<|aa<|ah<|ae (E:=EE [26,2000026])<|Mv rfl<|Bnb false rfl rfl (fun _=>bK _ _ _) (rfl)<|aa<|aV rfl<|au<|Xd [26,2000026]<|Mv rfl<|mW (s:=12) 0 rfl rfl underlying69 sizeOf39 (by decide) (by decide) rfl rfl<|dB (cs:=(fe (U2n msg dst 0).1++fe (U2n msg dst 0).2).map U64) rfl isAgg39 sizeOf39 (by simp) (fun w' h'=>zO (sf h') 0 (by decide)) rfl rfl<|Ca rfl (Gg h.s0)<|Mv rfl<|mW (s:=12) 1 rfl rfl underlying69 sizeOf39 (by decide) (by decide) rfl rfl<|dB (cs:=(fe (U2n msg dst 1).1++fe (U2n msg dst 1).2).map U64) rfl isAgg39 sizeOf39 (by simp) (fun w' h'=>zO (sf h') 1 (by decide)) rfl rfl<|Ca rfl (Gg h.s1)<|Ca rfl (yq _ _)<|Ca rfl (zF _ _)<|Sa 6 (jI hGF) rfl rfl rfl gT<|Asg rfl<|aa<|aq<|Rr<|?_
 exact bG 6 rfl rfl rfl rfl isAgg41 sizeOf41 (by simp) (fun w hw=>⟨rfl,hbl hw⟩)
end
end Go.Proofs.YtodgbdcjjhmnkaaGreatDoor
