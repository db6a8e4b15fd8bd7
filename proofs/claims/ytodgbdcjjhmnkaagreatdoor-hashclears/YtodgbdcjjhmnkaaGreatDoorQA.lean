/-
 The document's clearing; its messages made points.
 The document's messages made points.
-/
import Derived.Test.YtodgbdcjjhmnkaaGreatDoorQ8
import Derived.Test.YtodgbdcjjhmnkaaGreatDoorXJ
import Derived.Test.YtodgbdcjjhmnkaaGreatDoorX3
import Derived.Test.YtodgbdcjjhmnkaaGreatDoorXW
set_option maxRecDepth 100000
set_option maxHeartbeats 1000000
namespace Go.Proofs.YtodgbdcjjhmnkaaGreatDoor
open Go.Proofs.Tryz
section
open Go.RowKit
attribute [local simp] a8 bG aE az a6 aY aQ aK a9 PLl d8 ec N1l d6 d9 dR bC bL bN bO ce dW cF ee Xm.N2r_len
theorem ent47:ah Tryz.prog 47:=fun _ _=>by kernel_rfl
def dgt(c:BitVec 8):BitVec 8:=if 97#8≤c then c-97#8+10#8 else c-48#8
theorem pS(c:BitVec 8):Pure Tryz.prog Gt 90 [U8 c] (U8 (dgt c)):=by
 intro w hw
 have hGF:BOk Gt (pl w):=gt_low.plain hw
 by_cases h:97#8≤c
 ·rw[show dgt c=_ from if_pos h]
  refine Hd func90 rfl hGF<|Xp<|Asg rfl<|aa<|ae<|Xp<|Mv rfl<|Bnb true rfl rfl (fun _=>mc _ _ 97#8) (decide_eq_true h)<|aa<|ba rfl<|Xp<|Mv rfl<|Bnr rfl rfl (fun _=>k9 _ _ _)<|Bnr rfl rfl (fun _=>qJ _ _ _)<|Asg rfl<|aa<|ap<|Rr<|?_
  exact aJ rfl rfl (fun w hw=>⟨rfl,ac hw⟩)
 ·rw[show dgt c=_ from if_neg h]
  refine Hd func90 rfl hGF<|Xp<|Asg rfl<|aa<|ae<|Xp<|Mv rfl<|Bnb false rfl rfl (fun _=>mc _ _ 97#8) (decide_eq_false h)<|aa<|aL rfl<|au<|Xp<|Mv rfl<|Bnr rfl rfl (fun _=>k9 _ _ _)<|Asg rfl<|aa<|ap<|Rr<|?_
  exact aJ rfl rfl (fun w hw=>⟨rfl,ac hw⟩)
def HXL:List UInt8:=(List.append (List.append [48,98,99,54,57,102,48,56,102,50,101,101,55,53,98,51,53,56,52,99,54,97,48,101,97,57,49,98,51,53,50,56,56,56,101,50,97,56,101,57] [49,52,53,97,100,55,54,56,57,57,56,54,102,102,48,51,49,53,48,56,102,102,101,49,51,50,57,99,50,102,49,55,56,55,51,49,100,98,57,53]) (List.append [54,100,56,50,98,102,48,49,53,100,49,50,49,50,98,48,50,101,99,48,101,99,54,57,100,55,52,55,55,99,49,97,101,57,53,52,99,98,99,48] [54,54,56,57,102,54,97,51,53,57,56,57,52,99,48,97,100,101,98,98,102,54,98,52,101,56,48,50,48,48,48,53,97,97,97,57,53,53,53,49]))
def HX:List (BitVec 8):=[48#8,98#8,99#8,54#8,57#8,102#8,48#8,56#8,102#8,50#8,101#8,101#8,55#8,53#8,98#8,51#8,53#8,56#8,52#8,99#8,54#8,97#8,48#8,101#8,97#8,57#8,49#8,98#8,51#8,53#8,50#8,56#8,56#8,56#8,101#8,50#8,97#8,56#8,101#8,57#8,49#8,52#8,53#8,97#8,100#8,55#8,54#8,56#8,57#8,57#8,56#8,54#8,102#8,102#8,48#8,51#8,49#8,53#8,48#8,56#8,102#8,102#8,101#8,49#8,51#8,50#8,57#8,99#8,50#8,102#8,49#8,55#8,56#8,55#8,51#8,49#8,100#8,98#8,57#8,53#8,54#8,100#8,56#8,50#8,98#8,102#8,48#8,49#8,53#8,100#8,49#8,50#8,49#8,50#8,98#8,48#8,50#8,101#8,99#8,48#8,101#8,99#8,54#8,57#8,100#8,55#8,52#8,55#8,55#8,99#8,49#8,97#8,101#8,57#8,53#8,52#8,99#8,98#8,99#8,48#8,54#8,54#8,56#8,57#8,102#8,54#8,97#8,51#8,53#8,57#8,56#8,57#8,52#8,99#8,48#8,97#8,100#8,101#8,98#8,98#8,102#8,54#8,98#8,52#8,101#8,56#8,48#8,50#8,48#8,48#8,48#8,53#8,97#8,97#8,97#8,57#8,53#8,53#8,53#8,49#8]
def HBs:List (BitVec 8):=[11#8,198#8,159#8,8#8,242#8,238#8,117#8,179#8,88#8,76#8,106#8,14#8,169#8,27#8,53#8,40#8,136#8,226#8,168#8,233#8,20#8,90#8,215#8,104#8,153#8,134#8,255#8,3#8,21#8,8#8,255#8,225#8,50#8,156#8,47#8,23#8,135#8,49#8,219#8,149#8,109#8,130#8,191#8,1#8,93#8,18#8,18#8,176#8,46#8,192#8,236#8,105#8,215#8,71#8,124#8,26#8,233#8,84#8,203#8,192#8,102#8,137#8,246#8,163#8,89#8,137#8,76#8,10#8,222#8,187#8,246#8,180#8,232#8,2#8,0#8,5#8,170#8,169#8,85#8,81#8]
theorem HG: ∀i:Fin 160,HXL.toArray[i.val]? =some (UInt8.ofBitVec (HX.getD i.val 0)):=by decide+kernel
theorem Eb{i:Nat}{z:Int}(hz:z=(i:Int))(h:i<160):HXL.toArray[z.toNat]? =some (UInt8.ofBitVec (HX.getD i 0)):=by
 subst hz
 rw[Int.toNat_natCast];exact HG ⟨i,h⟩
theorem Ah: ∀k:Fin 80,dgt (HX.getD (2*k.val) 0)<<<(4#64).toNat|||dgt (HX.getD (2*k.val+1) 0)=HBs.getD k.val 0:=by decide+kernel
theorem H4{k:Nat}(h:k<80):dgt (HX.getD (2*k) 0)<<<(4#64).toNat|||dgt (HX.getD (2*k+1) 0)=HBs.getD k 0:=Ah ⟨k,h⟩
theorem BH:HBs.length=80:=rfl
def HBk(k:Nat):List Value:=(HBs.take k).map U8
theorem i7{k:Nat}(h:k≤80):(HBk k).length=k:=by rw[HBk,List.length_map,List.length_take,show HBs.length=80 from rfl];omega
theorem zd{k:Nat}(h:k<80):HBk k++[U8 (HBs.getD k 0)]=HBk (k+1):=by
 rw[HBk,HBk,List.take_add_one,List.getD_eq_getElem?_getD,List.getElem?_eq_getElem (show k<HBs.length from h),List.map_append];rfl
theorem Cv:HBk 80=HBs.map U8:=rfl
theorem ti5s:TI Tryz.prog 5 (.int .u8 0) 1 1:=wF (by kernel_rfl)
structure AppV(f:Nat→List Value)(e N:Nat) where
 (k:Nat) (a0:Option Addr) (cap:Nat) (own:Hl)
 hk:k≤N
 hs:OwnV own 50 e a0 cap (f k)
theorem OwnV.skip{L:Hl}{n:Nat}{e:TypeId}{a0:Option Addr}{cap:Nat}{xs:List Value}(h:OwnV L n e a0 cap xs)(m:Nat){x:Nat×List Value×TypeId}(hm:Nat.beq m n=false):OwnV ((m,x)::L) n e a0 cap xs:=by
 rcases h with h|⟨b,c,h1,h2,h3⟩
 ·exact .inl h
 ·exact .inr ⟨b,c,h1,by show (bif Nat.beq m n then some x else lkB L n)=_;rw[hm];exact h2,h3⟩
theorem HZ(w:World)(hw:Gt w):Calls Tryz.prog 47 [].toArray w (fun e w'=> ∃b c cap,e=.returned (.slice (some ⟨b,0,none⟩) 80 cap)∧Grow w w'∧w.heap.size≤b∧OwnB w' b c 5∧c.take HBs.length=HBs.map U8):=by
 have hGF:BOk Gt (pl w):=gt_low.plain hw
 have fin: ∀{L:Hl} {a0:Option Addr} {cap:Nat} {w':World},OwnV L 50 5 a0 cap (HBk 80)→Hp (pl w) L w'→∃b c cap',Ending.returned (.slice a0 (HBk 80).length cap)=.returned (.slice (some ⟨b,0,none⟩) 80 cap')∧Grow w w'∧w.heap.size≤b∧OwnB w' b c 5∧c.take HBs.length=HBs.map U8:=fun {L a0 cap w'} h hp=>by
  rcases h with ⟨_,h,_⟩|⟨b,c,rfl,hl,hc,hle,ht⟩
  ·have e:=i7 (k:=80) (by omega);rw[h]at e;cases e
  ·refine ⟨b,c,cap,by rw[i7 (by omega)],ac hp,(hp.own _ _ _ _ hl).2.elim id False.elim,(hp.own _ _ _ _ hl).1, ?_⟩
   rw[i7 (by omega),Cv]at ht
   exact ht
 refine Hd func47 rfl hGF<|Xp<|Asg rfl<|aa<|Xp<|Asg rfl<|aa<|ae<|Xp<|Asg rfl<|aa<|ai<|bB (ι:=AppV HBk 5 80) (fun x=>[(1,.slice x.a0 (HBk x.k).length x.cap),(2,I ((2*x.k:Nat):Int))]) (fun x=>x.own) (fun x=>80-x.k) ⟨0,none,0,[],by omega,y5 _ _ _⟩ hGF ⟨rfl,rfl,trivial⟩ trivial<|?_
 rintro ⟨k,a0,cap,own,hk,hs⟩
 dsimp only at hs⊢
 refine ae<|Xp<|Mv rfl<|Bnr (v:=.bool (decide (k<80))) rfl rfl (fun _=>(aA _ _ _).trans (by rw[show decide (((2*k:Nat):Int)<160)=decide (k<80)from decide_eq_decide.2 (by omega)]))<|aa<|?_
 refine bj rfl (fun hc=> ?_) (fun hc=> ?_)
 ·have hk2:k<80:=by simpa using hc
  refine au<|ae<|ai<|Xe []<|Mv rfl<|Mv rfl<|tk (n:=HX.getD (2*k) 0) rfl rfl underlying9 (by omega) (Eb (i:=2*k) (rfl) (by omega)) rfl rfl<|Ca rfl (pS _)<|Bnr (v:=U8 (dgt (HX.getD (2*k) 0)<<<(4#64).toNat)) rfl rfl (fun _=>rE _ _ 4#64)<|Mv rfl<|Bnr (v:=I (((2*k:Nat):Int)+1)) rfl rfl (fun _=>aw _ _ _ (by unfold inI;omega))<|tk (n:=HX.getD (2*k+1) 0) rfl rfl underlying9 (by omega) (Eb (i:=2*k+1) (by omega) (by omega)) rfl rfl<|Ca rfl (pS _)<|Bnr (v:=U8 (HBs.getD k 0)) rfl rfl (fun _=>(uJ _ _ _).trans (by rw[H4 hk2]))<|oE 17 [U8 (HBs.getD k 0)] hGF rfl rfl rfl (by decide) (by decide) underlying22 sizeOf5 zeroValue5 rfl rfl rfl<|?_
  intro b17
  refine rH (xs:=HBk k) (ys:=[U8 (HBs.getD k 0)]) 50 hGF rfl rfl underlying22 underlying22 ti5s rfl (hs.skip 17 rfl) (fun w' h=>bv (n:=17) rfl w' h) rfl (by simp) (by rw[i7 hk];show (k+1)*1≤_;omega) (by rw[i7 hk];show k+1≤_;omega) rfl rfl (fun bA cA capA eA lA tA=> ?_)
  subst eA
  rw[zd hk2]at lA tA⊢
  refine Asg rfl<|aa<|Xq<|Mv rfl<|Bnr (v:=I ((2*(k+1):Nat):Int)) rfl rfl (fun _=>(aw _ _ _ (by unfold inI;omega)).trans (by rw[show ((2*k:Nat):Int)+2=((2*(k+1):Nat):Int) by omega]))<|Asg rfl<|aa<|?_
  repeat (refine aR ?_)
  exact aG<|⟨rfl,⟨k+1,some ⟨bA,0,none⟩,_,[(50,bA,cA,5)],by omega,.inr ⟨bA,cA,rfl,rfl,rfl,lA,tA⟩⟩,_,by show 80-(k+1)<80-k;omega,rfl,⟨rfl,rfl,trivial⟩,⟨rfl,trivial⟩⟩
 ·obtain rfl:k=80:=by simp at hc;omega
  refine aT<|Xp<|Mv rfl<|Asg rfl<|aa<|ap<|Rr<|?_
  exact aJ rfl rfl (fun w' hw'=>fin hs hw')
def RH(x:W6):W6:=RMJ x HBs (8*HBs.length)
theorem EJ(x:W6)(e:Option Addr)(cap:Nat)(bs:List (BitVec 8))(n:Nat)(hn:bs.length=n)(hl:n≤4096)(y:W6)(hy:RMJ x bs (8*bs.length)=y)(w:World)(hw:Gt w)(hby:BytesAt w e bs):Calls Tryz.prog 46 [EV6 x,.slice e n cap].toArray w (fun r w'=>r=.returned (EV6 y)∧Grow w w'):=by
 subst hn hy
 exact pN x e cap bs hl w hw hby
theorem G8(x:W6)(b cap:Nat)(c:List Value)(w:World)(hw:Gt w)(h:w.rangeAt b 0 c)(ht:c.take HBs.length=HBs.map U8):Calls Tryz.prog 46 [EV6 x,.slice (some ⟨b,0,none⟩) 80 cap].toArray w (fun r w'=>r=.returned (EV6 (RH x))∧Grow w w'):=
 EJ x (some ⟨b,0,none⟩) cap HBs 80 BH (by decide) (RH x) rfl w hw (jS h ht)
theorem Ln{x:W6}{P Q:Pt W2}(hP:E2w.onP P)(hx:E2w.jr x P)(bs:List (BitVec 8))(m:Nat)(hn:BN bs bs.length=m)(y:W6)(hy:y=RMJ x bs (8*bs.length))(hQ:E2w.times P m=Q):E2w.jr y Q:=by
 subst hn hy hQ
 rw[←fS];exact zg hP hx bs (8*bs.length)
theorem Dt:BN HBs HBs.length=HEF:=by decide+kernel
theorem IB(x:W6):RH x=RMJ x HBs (8*HBs.length):=by rw[RH]
theorem LH{x:W6}{P Q:Pt W2}(hP:E2w.onP P)(hx:E2w.jr x P)(hQ:E2w.times P HEF=Q):E2w.jr (RH x) Q:=Ln hP hx HBs HEF Dt (RH x) (IB x) hQ
theorem jf(x:W6):Pure Tryz.prog Gt 17 [EV6 x] (EV6 (RH x)):=by
 intro w hw
 refine Hf func17 rfl hw<|fun hGF=>Xp<|Bx 1 hGF rfl<|fun b1=>Al 2 hGF zv41<|fun b2=>aa<|nC (EE [47,2000047]) iq (by kernel_rfl) (by kernel_rfl)<|aO (m:=0) [0,1,2,3] (by kernel_rfl)<|La 1 rfl rfl lI<|?_
 refine bq rfl rfl ent47 rfl rfl (fun w' hw'=>(HZ w' (hGF.g _ _ _ hw')).mono fun e' w'' h=> ?_)
 obtain ⟨c1,cc,cp,rfl,hg,h1,ho,ht⟩:=h
 refine ⟨_,_,rfl,ay hGF,hw'.news ao hg [(33,c1,cc,5)] ?_ bJ,bx ao rfl, ?_⟩
 ·intro n' b' c' t' hl
  rcases aF hl with ⟨_,e⟩|⟨_,hl⟩
  ·cases e;exact ⟨h1,ho⟩
  ·cases hl
 clear hw' hg h1 ho
 refine Cc rfl ent46 (fun w' hC hG=>G8 x _ _ _ w' hG (bv (n:=33) rfl w' hC) ht)<|Sa 2 hGF rfl rfl rfl lI<|aa<|da (by kernel_rfl)<|aG<|ap<|Rr<|?_
 exact av 2 rfl rfl rfl isAgg41 sizeOf41 (by simp) (fun w hw=>⟨rfl,ac hw⟩)
end
section
open Go.RowKit
attribute [local simp] a8 bG aE az a6 aY aQ aK a9 PLl d8 ec N1l d6 d9 dR bC bL bN bO ce dW cF ee Xm.N2r_len
def U2n(msg dst:List (BitVec 8))(i:Nat):W2:=Xm.N2 (Xm.E msg dst 256) i
abbrev U2c(msg dst:List (BitVec 8)):List Value:=(RW 12 (Xm.N2r (Xm.E msg dst 256)) 2).map U64
def SwA(u:W2)(A:W2×W2):Prop:= ∃x r,SwR u x r∧(XIs x,YIs x (sgS r u))=A
theorem xL(u:W2): ∃A,SwA u A:=by
 obtain ⟨x,r,h⟩:=HU u
 exact ⟨_,x,r,h,rfl⟩
theorem Aa{u:W2}{A:W2×W2}(h:SwA u A):E2w.on A:=by
 obtain ⟨x,r,s,rfl⟩:=h
 exact rU s.on
structure Sw2(msg dst:List (BitVec 8))(A B:W2×W2):Prop where
 s0:SwA (U2n msg dst 0) A
 s1:SwA (U2n msg dst 1) B
theorem vd{msg dst:List (BitVec 8)}{w0 w:World}{v:Value}(h:Xm.RFt msg dst 2 w0 w v)(hb: ¬Xm.FBad msg dst 2): ∃b cap,v=.tuple #[.slice (some ⟨b,0,none⟩) 2 cap,I 0]∧w0.heap.size≤b∧w.rangeAt b 0 (U2c msg dst):=by
 obtain ⟨a,cap,hv,ha⟩:=h.ok hb
 obtain ⟨b,rfl,hs,hr⟩:=ha.resolve_left (by decide)
 exact ⟨b,cap,hv,hs,hr⟩
theorem xt{msg dst:List (BitVec 8)}{w:World}{b:Nat}(h:w.rangeAt b 0 (U2c msg dst)):b<w.heap.size:=by
 have hl:0<(U2c msg dst).length:=by simp[U2c]
 exact block_lt_of_cell (h 0 _ (List.getElem?_eq_getElem hl))
end
end Go.Proofs.YtodgbdcjjhmnkaaGreatDoor
