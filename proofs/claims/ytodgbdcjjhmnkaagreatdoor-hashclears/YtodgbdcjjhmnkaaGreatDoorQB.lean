/-
 What the laws of layer 15 share.
 The laws HashIs, HashClears.
 The walks of package h2c.
-/
import Derived.Test.YtodgbdcjjhmnkaaGreatDoorQA
import Derived.Test.YtodgbdcjjhmnkaaGreatDoorQ8
import Derived.Test.YtodgbdcjjhmnkaaGreatDoorX2
import Derived.Test.YtodgbdcjjhmnkaaGreatDoorXW
import Derived.Test.YtodgbdcjjhmnkaaGreatDoorQ9
set_option maxRecDepth 100000
set_option maxHeartbeats 1000000
namespace Go.Proofs.YtodgbdcjjhmnkaaGreatDoor
open Go.Proofs.Tryz
section
open Go.RowKit
attribute [local simp] a8 bG aE az a6 aY aQ aK a9 PLl d8 ec N1l d6 d9 dR bC bL bN bO ce dW cF ee fh
theorem ent6:ah Tryz.prog 6:=fun _ _=>by kernel_rfl
theorem ent23:ah Tryz.prog 23:=fun _ _=>by kernel_rfl
theorem RJ_s{P:Pt W2}(h: ¬P=none):RJ2 P=(PX P,PY P,on2):=by
 cases P with
 |none=>exact absurd rfl h
 |some p=>rfl
theorem Fg{J K:W6}{P Q:Pt W2}(hP:E2w.onP P)(hQ:E2w.onP Q)(hJ:E2w.jr J P)(hK:E2w.jr K Q):decide ((E2w.jaF J (K.1,ng2 K.2.1,K.2.2)).2.2=ze2)=decide (P=Q):=by
 have h:=E2w.jr_a hP (E2w.ne_on hQ) hJ (E2w.jr_n hK)
 exact decide_eq_decide.2 ((E2w.jr_z h).trans (E2w.ad_ne_iff hP hQ))
theorem FY{K:W6}{P:Pt W2}(hP:E2w.onP P)(hK:E2w.jr K P):decide ((E2w.jaF (RJ2 P) (K.1,ng2 K.2.1,K.2.2)).2.2=ze2)=true:=(Fg hP hP (yo P) hK).trans (decide_eq_true rfl)
theorem Gg(x:Zp)(b:Nat)(t:TypeId)(w:World)(hw:Gt w)(ho:OwnB w b ((oo x).map U8) t):
 Calls Tryz.prog 124 [.slice (some ⟨b,0,none⟩) 48 48].toArray w (fun r w'=>r=.returned (.tuple #[NV (nm x),.bool true])∧Grow w w'):=by
 have h:=sB b t (oo x) (a9 x) w hw ho
 rw[wj]at h
 exact h
theorem wG(x:Zp):Pure Tryz.prog Gt 71 [EV x] (EV x):=by
 intro w hw
 refine Hf func71 rfl hw<|fun hGF=>Xp<|Bx 1 hGF rfl<|fun b1=>Al 2 hGF zv37<|fun b2=>aa<|Xp<|La 1 rfl rfl bK<|Ca rfl (jY _)<|Al 3 hGF zv60<|fun b3=>aH 3 hGF rfl rfl rfl sizeOf60 (by simp) (by simp) (cf _) rfl<|aa<|Xp<|cg (l:=0) (h':=48) rfl underlying60 sizeOf5 rfl rfl (by omega) (by omega) rfl rfl<|Cc rfl ent124 (fun w' hC hG=>Gg x _ _ w' hG (hC.own 3 _ _ _ rfl).1)<|Mv rfl<|Ext rfl rfl<|Ext rfl rfl<|Al 4 hGF zv35<|fun b4=>Sa 4 hGF rfl rfl rfl bu<|Asg rfl<|aa<|Xp<|La 4 rfl rfl bu<|Ca rfl (rofE _)<|Sa 2 hGF rfl rfl rfl bU<|aa<|ap<|Rr<|?_
 exact av 2 rfl rfl rfl isAgg37 sizeOf37 (by simp) (fun w hw=>⟨rfl,ac hw⟩)
theorem CP(x:W2):Pure Tryz.prog Gt 31 [EV2 x] (EV2 x):=by
 intro w hw
 refine Hf func31 rfl hw<|fun hGF=>Xp<|Bx 1 hGF rfl<|fun b1=>Al 2 hGF zv39<|fun b2=>aa<|Xd []<|Fa 0 rfl underlying29 rfl sizeOf27<|cG 1 _ rfl rfl isAgg27 sizeOf27 (by simp) yy rfl rfl<|Ca rfl (wG _)<|Fa 6 rfl underlying29 rfl sizeOf27<|cG 1 _ rfl rfl isAgg27 sizeOf27 (by simp) (wp (by simp)) rfl rfl<|Ca rfl (wG _)<|bP DZ rfl rfl (by simp) (by simp) rfl rfl<|Sa 2 hGF rfl rfl rfl Ij<|aa<|ap<|Rr<|?_
 exact av 2 rfl rfl rfl isAgg39 sizeOf39 (by simp) (fun w hw=>⟨rfl,ac hw⟩)
theorem gN(p:GP):Pure Tryz.prog Gt 9 [PtV p] (EV6 (RJ2 p.P)):=by
 intro w hw
 have hGF:BOk Gt (pl w):=gt_low.plain hw
 by_cases h:p.P=none
 ·rw[h]
  refine Hd func9 rfl hGF<|Xp<|Bx 1 hGF rfl<|fun b1=>Al 2 hGF zv41<|fun b2=>aa<|Xp<|La 1 rfl rfl bt<|Ca rfl (xy_n p h)<|Mv rfl<|Ext rfl rfl<|Ext rfl rfl<|Ext rfl rfl<|Al 3 hGF zv29<|fun b3=>Al 4 hGF zv29<|fun b4=>Sa 3 hGF rfl rfl rfl aM<|Sa 4 hGF rfl rfl rfl aM<|Asg rfl<|aa<|ae<|Xp<|Mv rfl<|bz rfl (fun _=>bi _) rfl rfl<|aa<|ba rfl<|Xp<|ig Ax rfl rfl<|Sa 2 hGF rfl rfl rfl lI<|aa<|ap<|Rr<|?_
  exact av 2 rfl rfl rfl isAgg41 sizeOf41 (by simp) (fun w hw=>⟨rfl,ac hw⟩)
 ·rw[RJ_s h]
  refine Hd func9 rfl hGF<|Xp<|Bx 1 hGF rfl<|fun b1=>Al 2 hGF zv41<|fun b2=>aa<|Xp<|La 1 rfl rfl bt<|Ca rfl (I8 p h)<|Mv rfl<|Ext rfl rfl<|Ext rfl rfl<|Ext rfl rfl<|Al 3 hGF zv29<|fun b3=>Al 4 hGF zv29<|fun b4=>Sa 3 hGF rfl rfl rfl aM<|Sa 4 hGF rfl rfl rfl aM<|Asg rfl<|aa<|ae<|Xp<|Mv rfl<|bz rfl (fun _=>bi _) rfl rfl<|aa<|aL rfl<|au<|Xd []<|La 3 rfl rfl aM<|Ca rfl (CP _)<|La 4 rfl rfl aM<|Ca rfl (CP _)<|Ca rfl (J3 _ _)<|Sa 2 hGF rfl rfl rfl lI<|aa<|ap<|Rr<|?_
  exact av 2 rfl rfl rfl isAgg41 sizeOf41 (by simp) (fun w hw=>⟨rfl,ac hw⟩)
def PCl(gC:GP→GP):Prop:=(∀p,(gC p).P=E2w.times p.P HEF)∧∀p,Pure Tryz.prog Gt 16 [PtV p] (PtV (gC p))
structure PHs:Prop where
 bad: ∀msg dst,Xm.FBad msg dst 2→∃p:GP,p.P=none∧∀(a1:Option Addr) (cap1:Nat) (a2:Option Addr) (cap2:Nat) (w:World),msg.length≤65600→msg.length≤cap1→dst.length≤1000→dst.length≤cap2→Gt w→BytesAt w a1 msg→BytesAt w a2 dst→Calls Tryz.prog 6 [.slice a1 msg.length cap1,.slice a2 dst.length cap2].toArray w (fun e w'=>e=.returned (.tuple #[PtV p,I 130])∧Grow w w')
 ok: ∀msg dst A B,¬Xm.FBad msg dst 2→Sw2 msg dst A B→∃p:GP,p.P=E2w.times (E2w.ad (some A) (some B)) HEF∧∀(a1:Option Addr) (cap1:Nat) (a2:Option Addr) (cap2:Nat) (w:World),msg.length≤65600→msg.length≤cap1→dst.length≤1000→dst.length≤cap2→Gt w→BytesAt w a1 msg→BytesAt w a2 dst→Calls Tryz.prog 6 [.slice a1 msg.length cap1,.slice a2 dst.length cap2].toArray w (fun e w'=>e=.returned (.tuple #[PtV p,I 0])∧Grow w w')
def SUs:List (BitVec 8):=[66#8,76#8,83#8,95#8,83#8,73#8,71#8,95#8,66#8,76#8,83#8,49#8,50#8,51#8,56#8,49#8,71#8,50#8,95#8,88#8,77#8,68#8,58#8,83#8,72#8,65#8,45#8,50#8,53#8,54#8,95#8,83#8,83#8,87#8,85#8,95#8,82#8,79#8,95#8,80#8,79#8,80#8,95#8]
def SUb:ByteArray:=⟨(SUs.map fun x=>UInt8.ofBitVec x).toArray⟩
def PSu:Prop:=Pure Tryz.prog Gt 22 [] (.string SUb)
theorem EH(msg dst:List (BitVec 8)): ∃A B,Sw2 msg dst A B:=by
 obtain ⟨A,h⟩:=xL (U2n msg dst 0)
 obtain ⟨B,h'⟩:=xL (U2n msg dst 1)
 exact ⟨A,B,h,h'⟩
theorem KI{P Q:Pt W2}(hP:E2w.onP P)(h:Q=E2w.times P HEF):E2w.times Q ORD=none:=by rw[h];exact BL hP
theorem A7(p:GP)(K:W6)(hK:E2w.jr K p.P):Pure Tryz.prog Gt 10 [EV6 (RJ2 p.P),EV6 K] (.bool true):=by
 have e:=s6 (RJ2 p.P) K
 rw[FY p.on hK]at e
 exact e
theorem HC{msg dst:List (BitVec 8)}{A B:W2×W2}(h:Sw2 msg dst A B):E2w.onP (E2w.ad (some A) (some B)):=E2w.ad_on (iQ (Aa h.s0)) (iQ (Aa h.s1))
theorem xy_q{p:GP}{X Y:W2}(h:p.P=some (X,Y)):Pure Tryz.prog Gt 20 [PtV p] (.tuple #[EV2 X,EV2 Y,.bool true]):=by
 have e:=I8 p (by rw[h];exact fun e=>by cases e)
 rw[h]at e
 exact e
theorem GO(w:World)(hw:Gt w):Calls Tryz.prog 23 [].toArray w (fun e w'=> ∃b,e=.returned (.slice (some ⟨b,0,none⟩) 43 43)∧Grow w w'∧w.heap.size≤b∧OwnB w' b (SUs.map U8) 5):=by
 refine Hf func23 rfl hw<|fun hGF=>ak (E:=EE [1000022])<|Asg rfl<|aa<|ak (E:=EE [1000022])<|jR 1 SUs hGF rfl rfl rfl (by decide) (by decide) underlying22 sizeOf5 zeroValue5 rfl rfl<|fun b1=>qZ 1 rfl hGF rfl rfl underlying22 underlying5 rfl rfl<|Asg rfl<|aa<|ap<|Rr<|?_
 exact aJ rfl rfl (fun w hw=>⟨b1,rfl,ac hw,(hw.own 1 b1 _ _ rfl).2.elim id False.elim,(hw.own 1 b1 _ _ rfl).1⟩)
theorem LI:(oo qxX.1).getD 0 0=1#8:=by decide+kernel
theorem Je:(oo qxX.1).getD 1 0=65#8:=by decide+kernel
theorem LM:(oo qxX.1).getD 2 0=235#8:=by decide+kernel
theorem FI:(oo qxX.1).getD 47 0=138#8:=by decide+kernel
theorem Fp: ¬Xm.FBad Xm.qxm Xm.qxd 2:=by
 rintro (h|h|h|h)<;>revert h<;>decide
theorem qx_s{A B:W2×W2}(h:Sw2 Xm.qxm Xm.qxd A B): ∃y,E2w.times (E2w.ad (some A) (some B)) HEF=some (qxX,y):=by
 obtain ⟨⟨x,r,h0,rfl⟩,x',r',h1,rfl⟩:=h
 rw[show U2n Xm.qxm Xm.qxd 0=oG from Xm.qx_0]at h0⊢
 rw[show U2n Xm.qxm Xm.qxd 1=pW from Xm.qx_1]at h1⊢
 exact Iy h0 h1
theorem Ic(w:World):(zeroValue 60).run Tryz.prog w=.ok (.agg ((List.replicate 48 (0#8)).map U8).toArray) w:=(zeroValue60 w).trans (by rfl)
theorem Gq(w:World):BytesAt w none Xm.qxm:=fun j v hv=>by simp[Xm.qxm]at hv
theorem ij(hH:PHs)(hSu:PSu):Pure Tryz.prog Gt 5 [] (.bool true):=by
 obtain ⟨A,B,h⟩:=EH Xm.qxm Xm.qxd
 obtain ⟨p,hp,hc⟩:=hH.ok _ _ _ _ Fp h
 have hin:E2w.times p.P ORD=none:=KI (HC h) hp
 obtain ⟨y,hy⟩:=qx_s h
 have hq:p.P=some (qxX,y):=hp.trans hy
 clear hp hy
 intro w hw
 refine Hf func5 rfl hw<|fun hGF=>ak (E:=EE [1000022,23,2000023])<|Asg rfl<|aa<|ak (E:=EE [1000022,23,2000023])<|jR 8 Xm.qxd hGF rfl rfl rfl (by decide) (by decide) underlying22 sizeOf5 zeroValue5 rfl rfl<|fun b8=>qZ 8 rfl hGF rfl rfl underlying22 underlying5 rfl rfl<|Cc rfl ent6 (fun w' hC hG=>hc none 0 _ _ w' (by decide) (Nat.le_refl _) (by decide) (Nat.le_refl _) hG (Gq w') (BytesAt.range (bv (n:=8) rfl w' hC)))<|Mv rfl<|Ext rfl rfl<|Ext rfl rfl<|Al 1 hGF zv31<|fun b1=>Sa 1 hGF rfl rfl rfl bt<|Asg rfl<|aa<|ak (E:=EE [1000022,23,2000023])<|La 1 rfl rfl bt<|Ca rfl (xy_q hq)<|Mv rfl<|Ext rfl rfl<|Ext rfl rfl<|Ext rfl rfl<|Al 3 hGF zv29<|fun b3=>Al 4 hGF zv29<|fun b4=>Sa 3 hGF rfl rfl rfl aM<|Sa 4 hGF rfl rfl rfl aM<|Asg rfl<|aa<|ak (E:=EE [1000022,23,2000023])<|Fa 0 rfl underlying29 rfl sizeOf27<|cG 3 _ rfl rfl isAgg27 sizeOf27 (by simp) yy rfl rfl<|Ca rfl (jY qxX.1)<|Al 6 hGF Ic<|fun b6=>aH 6 hGF rfl rfl rfl sizeOf60 (by simp) (by simp) (cf _) rfl<|aa<|ak (E:=EE [1000022,23,2000023])<|Mv rfl<|Bnb true rfl rfl (fun _=>uZ _ _ _) (rfl)<|Mv rfl<|Mv rfl<|?_
 refine Pk rfl rfl rfl<|Mv rfl<|Ia (0) rfl rfl underlying60 sizeOf5<|Lm 6 U8 0 rfl rfl isAgg5 (by simp)<|Bnb true rfl rfl (fun _=>cR _ _ _) (beq_iff_eq.2 LI)<|Pk rfl rfl rfl<|Mv rfl<|Ia (1) rfl rfl underlying60 sizeOf5<|Lm 6 U8 0 rfl rfl isAgg5 (by simp)<|Bnb true rfl rfl (fun _=>cR _ _ _) (beq_iff_eq.2 Je)<|Pk rfl rfl rfl<|Mv rfl<|Ia (2) rfl rfl underlying60 sizeOf5<|Lm 6 U8 0 rfl rfl isAgg5 (by simp)<|Bnb true rfl rfl (fun _=>cR _ _ _) (beq_iff_eq.2 LM)<|Pk rfl rfl rfl<|Mv rfl<|Ia (47) rfl rfl underlying60 sizeOf5<|Lm 6 U8 0 rfl rfl isAgg5 (by simp)<|Bnb true rfl rfl (fun _=>cR _ _ _) (beq_iff_eq.2 FI)<|Pk rfl rfl rfl<|Mv rfl<|La 1 rfl rfl bt<|Cbl true rfl ent11 (fQ _) (decide_eq_true hin)<|Pk rfl rfl rfl<|Mv rfl<|Ca rfl (hSu)<|?_
 refine bq rfl rfl ent23 rfl rfl (fun w' hw'=>(GO w' (hGF.g _ _ _ hw')).mono fun e' w'' h=> ?_)
 obtain ⟨c1,rfl,hg,h1,ho⟩:=h
 refine ⟨_,_,rfl,ay hGF,hw'.news ao hg [(34,c1,SUs.map U8,5)] ?_ bJ,bx ao rfl, ?_⟩
 ·intro n' b' c' t' hl
  rcases aF hl with ⟨_,e⟩|⟨_,hl⟩
  ·cases e;exact ⟨h1,ho⟩
  ·cases hl
 clear hw' hg h1 ho
 refine wO rfl rfl (fun w' hw'=>yX underlying22 underlying5 underlying9 (BytesAt.range (bv (n:=34) rfl w' hw')) _ _ rfl) rfl rfl<|Bnr (v:=.bool true) rfl rfl (fun w=>qA _ _ w)<|Pk rfl rfl rfl<|Asg rfl<|aa<|ap<|Rr<|?_
 exact aJ rfl rfl (fun w hw=>⟨rfl,ac hw⟩)
end
section
open Go.RowKit
attribute [local simp] a8 bG aE az a6 aY aQ aK a9 PLl d8 ec N1l d6 d9 dR bC bL bN bO ce dW cF ee fh
theorem el(e:Option Addr)(cap:Nat)(bs:List (BitVec 8))(l k len c':Nat)(hk:len=k)(hl:l+k≤bs.length)(hc':len≤c')(hcap:bs.length≤cap)(hlen:bs.length≤1000)(w:World)(hw:Gt w)(hby:BytesAt w e bs):
 Calls Tryz.prog 13 [.slice (if cap=l then e else e.map (·.add (l*1))) len c'].toArray w (fun r w'=>r=.returned (EV (ZB ((bs.drop l).take k)))∧Grow w w'):=by
 subst hk
 have hL:((bs.drop l).take len).length=len:=by rw[List.length_take,List.length_drop];omega
 have h:=jU (if cap=l then e else e.map (·.add (l*1))) c' ((bs.drop l).take len) (by omega) (by omega) w hw (hby.cut l len hcap)
 rw[hL]at h
 exact h
def NUM(bs:List (BitVec 8)):W2:=(ZB ((bs.drop 0).take (bs.length / 2)),ZB ((bs.drop (bs.length / 2)).take (bs.length-bs.length / 2)))
theorem jn{gC:GP→GP}(h: ∀p,(gC p).P=E2w.times p.P HEF)(p:GP):(gC (qO p)).P=(qO (gC p)).P:=by
 rw[h]
 show E2w.times (E2w.ne p.P) HEF=E2w.ne (gC p).P
 rw[h,E2w.times_ne p.on]
theorem zT(hH:PHs)(hSu:PSu){gC:GP→GP}(hC0:PCl gC)(e0:Option Addr)(cap0:Nat)(bs0:List (BitVec 8))(e1:Option Addr)(cap1:Nat)(bs1:List (BitVec 8))(b2 b3:Bool)(hc0:bs0.length≤cap0)(w:World)(hw:Gt w)(hb0:BytesAt w e0 bs0)(hb1:BytesAt w e1 bs1):Calls Tryz.prog 4 [.slice e0 bs0.length cap0,.slice e1 bs1.length cap1,.bool b2,.bool b3].toArray w (fun r w'=>r=.returned (.bool true)∧Grow w w'):=by
 have hGF:BOk Gt (pl w):=gt_low.plain hw
 have hcl:=hC0.2
 have hin: ∀p:GP,E2w.times (gC p).P ORD=none:=fun p=>KI p.on (hC0.1 p)
 have hK: ∀p:GP,E2w.jr (RH (RJ2 p.P)) (gC p).P:=fun p=>LH p.on (yo p.P) (hC0.1 p).symm
 by_cases h1:((bs0.length:Nat):Int)>200
 ·refine Hd func4 rfl hGF<|Xp<|Asg rfl<|aa<|ae<|Xp<|Ca rfl (ij hH hSu)<|bz rfl (fun _=>bi _) rfl rfl<|aa<|aL rfl<|au<|ae<|Xp<|Mv rfl<|aZ rfl (fun _=>aC underlying22 _ _ _ _) rfl rfl<|Bnb true rfl rfl (fun _=>aU _ _ _) (decide_eq_true h1)<|Mv rfl<|Sk<|Sk<|Sk<|Pk rfl rfl rfl<|aa<|ba rfl<|Xp<|Asg rfl<|aa<|ap<|Rr<|?_
  exact aJ rfl rfl (fun w hw=>⟨rfl,ac hw⟩)
 by_cases h2:((bs1.length:Nat):Int)>8
 ·refine Hd func4 rfl hGF<|Xp<|Asg rfl<|aa<|ae<|Xp<|Ca rfl (ij hH hSu)<|bz rfl (fun _=>bi _) rfl rfl<|aa<|aL rfl<|au<|ae<|Xp<|Mv rfl<|aZ rfl (fun _=>aC underlying22 _ _ _ _) rfl rfl<|Bnb false rfl rfl (fun _=>aU _ _ _) (decide_eq_false h1)<|Mv rfl<|Mv rfl<|aZ rfl (fun _=>aC underlying22 _ _ _ _) rfl rfl<|Bnb true rfl rfl (fun _=>aU _ _ _) (decide_eq_true h2)<|Pk rfl rfl rfl<|aa<|ba rfl<|Xp<|Asg rfl<|aa<|ap<|Rr<|?_
  exact aJ rfl rfl (fun w hw=>⟨rfl,ac hw⟩)
 by_cases hq:LQ (NUM bs0)
 ·obtain ⟨rt,hr,hl⟩:=AU hq
  cases b3
  ·refine Hd func4 rfl hGF<|Xp<|Asg rfl<|aa<|ae<|Xp<|Ca rfl (ij hH hSu)<|bz rfl (fun _=>bi _) rfl rfl<|aa<|aL rfl<|au<|ae<|Xp<|Mv rfl<|aZ rfl (fun _=>aC underlying22 _ _ _ _) rfl rfl<|Bnb false rfl rfl (fun _=>aU _ _ _) (decide_eq_false h1)<|Mv rfl<|Mv rfl<|aZ rfl (fun _=>aC underlying22 _ _ _ _) rfl rfl<|Bnb false rfl rfl (fun _=>aU _ _ _) (decide_eq_false h2)<|Pk rfl rfl rfl<|aa<|aL rfl<|au<|Xp<|Mv rfl<|aZ rfl (fun _=>aC underlying22 _ _ _ _) rfl rfl<|Bnr (v:=I ((bs0.length / 2:Nat):Int)) rfl rfl (fun _=>cw _ _ _ (by decide) (show inI ((bs0.length / 2:Nat):Int) by unfold inI;omega))<|Asg rfl<|aa<|Xa [0,1,2,3,4,5,6,7,8,9,10,11,12,13] ⟨14,10,31,(GL jJ).map U64⟩ [15,16] (bY rfl zv31 rfl)<|Mv rfl<|Mv rfl<|dC (l:=0) (h':=bs0.length / 2) rfl underlying22 sizeOf5 rfl rfl (by omega) rfl rfl<|Cc rfl ent13 (fun w' hC hG=>el e0 cap0 bs0 0 (bs0.length / 2) _ _ rfl (by omega) (by omega) hc0 (by omega) w' hG (hb0.grow (ac hC)))<|Mv rfl<|Mv rfl<|dC (l:=bs0.length / 2) (h':=bs0.length) rfl underlying22 sizeOf5 rfl rfl (by omega) rfl rfl<|Cc rfl ent13 (fun w' hC hG=>el e0 cap0 bs0 (bs0.length / 2) (bs0.length-bs0.length / 2) _ _ rfl (by omega) (by omega) hc0 (by omega) w' hG (hb0.grow (ac hC)))<|bP cO rfl rfl (by simp) (by simp) rfl rfl<|?_
   refine Mv rfl<|Ca rfl (wB (NUM bs0) rt hr hl _)<|Mv rfl<|Ext rfl rfl<|Ext rfl rfl<|aa<|?_
   refine ⟨_,_,rfl,hGF,by intro x hx;simp only[List.mem_cons,List.not_mem_nil,or_false]at hx;subst hx;rfl,by intro x hx;simp only[List.mem_cons,List.not_mem_nil,or_false]at hx;subst hx;rfl,fun adr6=> ?_⟩
   refine Sa 10 hGF rfl rfl rfl bt<|Asg rfl<|aa<|ae<|Xp<|Mv rfl<|Mv rfl<|Mv rfl<|bz rfl (fun _=>bi _) rfl rfl<|Pk rfl rfl rfl<|aa<|aL rfl<|au<|Xp<|La 10 rfl rfl bt<|Ca rfl (hcl _)<|Al 12 hGF zv31<|fun b12=>Sa 12 hGF rfl rfl rfl bt<|aa<|Xd []<|La 12 rfl rfl bt<|Ca rfl (gN _)<|La 10 rfl rfl bt<|Ca rfl (gN _)<|Ca rfl (jf _)<|Ca rfl (A7 (gC _) _ (hK _))<|Mv rfl<|La 12 rfl rfl bt<|Cbl true rfl ent11 (fQ _) (decide_eq_true (hin _))<|Pk rfl rfl rfl<|Mv rfl<|La 10 rfl rfl bt<|Ca rfl (km _)<|Ca rfl (hcl (qO _))<|La 12 rfl rfl bt<|Ca rfl (km _)<|Cbl true rfl ent19 (kP _ _) (decide_eq_true (jn hC0.1 _))<|Pk rfl rfl rfl<|Asg rfl<|aa<|?_
   refine ap<|Rr<|?_
   exact aJ rfl rfl (fun w hw=>⟨rfl,ac hw⟩)
  ·refine Hd func4 rfl hGF<|Xp<|Asg rfl<|aa<|ae<|Xp<|Ca rfl (ij hH hSu)<|bz rfl (fun _=>bi _) rfl rfl<|aa<|aL rfl<|au<|ae<|Xp<|Mv rfl<|aZ rfl (fun _=>aC underlying22 _ _ _ _) rfl rfl<|Bnb false rfl rfl (fun _=>aU _ _ _) (decide_eq_false h1)<|Mv rfl<|Mv rfl<|aZ rfl (fun _=>aC underlying22 _ _ _ _) rfl rfl<|Bnb false rfl rfl (fun _=>aU _ _ _) (decide_eq_false h2)<|Pk rfl rfl rfl<|aa<|aL rfl<|au<|Xp<|Mv rfl<|aZ rfl (fun _=>aC underlying22 _ _ _ _) rfl rfl<|Bnr (v:=I ((bs0.length / 2:Nat):Int)) rfl rfl (fun _=>cw _ _ _ (by decide) (show inI ((bs0.length / 2:Nat):Int) by unfold inI;omega))<|Asg rfl<|aa<|Xa [0,1,2,3,4,5,6,7,8,9,10,11,12,13] ⟨14,10,31,(GL jJ).map U64⟩ [15,16] (bY rfl zv31 rfl)<|Mv rfl<|Mv rfl<|dC (l:=0) (h':=bs0.length / 2) rfl underlying22 sizeOf5 rfl rfl (by omega) rfl rfl<|Cc rfl ent13 (fun w' hC hG=>el e0 cap0 bs0 0 (bs0.length / 2) _ _ rfl (by omega) (by omega) hc0 (by omega) w' hG (hb0.grow (ac hC)))<|Mv rfl<|Mv rfl<|dC (l:=bs0.length / 2) (h':=bs0.length) rfl underlying22 sizeOf5 rfl rfl (by omega) rfl rfl<|Cc rfl ent13 (fun w' hC hG=>el e0 cap0 bs0 (bs0.length / 2) (bs0.length-bs0.length / 2) _ _ rfl (by omega) (by omega) hc0 (by omega) w' hG (hb0.grow (ac hC)))<|bP cO rfl rfl (by simp) (by simp) rfl rfl<|?_
   refine Mv rfl<|Ca rfl (wB (NUM bs0) rt hr hl _)<|Mv rfl<|Ext rfl rfl<|Ext rfl rfl<|aa<|?_
   refine ⟨_,_,rfl,hGF,by intro x hx;simp only[List.mem_cons,List.not_mem_nil,or_false]at hx;subst hx;rfl,by intro x hx;simp only[List.mem_cons,List.not_mem_nil,or_false]at hx;subst hx;rfl,fun adr6=> ?_⟩
   refine Sa 10 hGF rfl rfl rfl bt<|Asg rfl<|aa<|ae<|Xp<|Mv rfl<|Mv rfl<|Sk<|Sk<|Pk rfl rfl rfl<|aa<|ba rfl<|Xq<|Ca rfl (y4)<|Mv rfl<|Cc rfl ent15 (fun w' hC hG=>ui BQ e1 cap1 bs1 (by omega) w' hG (hb1.grow (ac hC)))<|Sa 10 hGF rfl rfl rfl bt<|aa<|Xp<|La 10 rfl rfl bt<|Ca rfl (hcl _)<|Al 12 hGF zv31<|fun b12=>Sa 12 hGF rfl rfl rfl bt<|aa<|Xd []<|La 12 rfl rfl bt<|Ca rfl (gN _)<|La 10 rfl rfl bt<|Ca rfl (gN _)<|Ca rfl (jf _)<|Ca rfl (A7 (gC _) _ (hK _))<|Mv rfl<|La 12 rfl rfl bt<|Cbl true rfl ent11 (fQ _) (decide_eq_true (hin _))<|Pk rfl rfl rfl<|Mv rfl<|La 10 rfl rfl bt<|Ca rfl (km _)<|Ca rfl (hcl (qO _))<|La 12 rfl rfl bt<|?_
   refine Ca rfl (km _)<|Cbl true rfl ent19 (kP _ _) (decide_eq_true (jn hC0.1 _))<|Pk rfl rfl rfl<|Asg rfl<|aa<|ap<|Rr<|?_
   exact aJ rfl rfl (fun w hw=>⟨rfl,ac hw⟩)
 ·cases b3
  ·refine Hd func4 rfl hGF<|Xp<|Asg rfl<|aa<|ae<|Xp<|Ca rfl (ij hH hSu)<|bz rfl (fun _=>bi _) rfl rfl<|aa<|aL rfl<|au<|ae<|Xp<|Mv rfl<|aZ rfl (fun _=>aC underlying22 _ _ _ _) rfl rfl<|Bnb false rfl rfl (fun _=>aU _ _ _) (decide_eq_false h1)<|Mv rfl<|Mv rfl<|aZ rfl (fun _=>aC underlying22 _ _ _ _) rfl rfl<|Bnb false rfl rfl (fun _=>aU _ _ _) (decide_eq_false h2)<|Pk rfl rfl rfl<|aa<|aL rfl<|au<|Xp<|Mv rfl<|aZ rfl (fun _=>aC underlying22 _ _ _ _) rfl rfl<|Bnr (v:=I ((bs0.length / 2:Nat):Int)) rfl rfl (fun _=>cw _ _ _ (by decide) (show inI ((bs0.length / 2:Nat):Int) by unfold inI;omega))<|Asg rfl<|aa<|Xa [0,1,2,3,4,5,6,7,8,9,10,11,12,13] ⟨14,10,31,(GL jJ).map U64⟩ [15,16] (bY rfl zv31 rfl)<|Mv rfl<|Mv rfl<|dC (l:=0) (h':=bs0.length / 2) rfl underlying22 sizeOf5 rfl rfl (by omega) rfl rfl<|Cc rfl ent13 (fun w' hC hG=>el e0 cap0 bs0 0 (bs0.length / 2) _ _ rfl (by omega) (by omega) hc0 (by omega) w' hG (hb0.grow (ac hC)))<|Mv rfl<|Mv rfl<|dC (l:=bs0.length / 2) (h':=bs0.length) rfl underlying22 sizeOf5 rfl rfl (by omega) rfl rfl<|Cc rfl ent13 (fun w' hC hG=>el e0 cap0 bs0 (bs0.length / 2) (bs0.length-bs0.length / 2) _ _ rfl (by omega) (by omega) hc0 (by omega) w' hG (hb0.grow (ac hC)))<|bP cO rfl rfl (by simp) (by simp) rfl rfl<|?_
   refine Mv rfl<|Ca rfl (wt (NUM bs0) _ hq)<|Mv rfl<|Ext rfl rfl<|Ext rfl rfl<|aa<|?_
   refine ⟨_,_,rfl,hGF,by intro x hx;simp only[List.mem_cons,List.not_mem_nil,or_false]at hx;subst hx;rfl,by intro x hx;simp only[List.mem_cons,List.not_mem_nil,or_false]at hx;subst hx;rfl,fun adr6=> ?_⟩
   refine Sa 10 hGF rfl rfl rfl bt<|Asg rfl<|aa<|ae<|Xp<|Mv rfl<|Mv rfl<|Mv rfl<|bz rfl (fun _=>bi _) rfl rfl<|Pk rfl rfl rfl<|aa<|ba rfl<|Xq<|Ca rfl (y4)<|Mv rfl<|Cc rfl ent15 (fun w' hC hG=>ui BQ e1 cap1 bs1 (by omega) w' hG (hb1.grow (ac hC)))<|Sa 10 hGF rfl rfl rfl bt<|aa<|Xp<|La 10 rfl rfl bt<|Ca rfl (hcl _)<|Al 12 hGF zv31<|fun b12=>Sa 12 hGF rfl rfl rfl bt<|aa<|Xd []<|La 12 rfl rfl bt<|Ca rfl (gN _)<|La 10 rfl rfl bt<|Ca rfl (gN _)<|Ca rfl (jf _)<|Ca rfl (A7 (gC _) _ (hK _))<|Mv rfl<|La 12 rfl rfl bt<|Cbl true rfl ent11 (fQ _) (decide_eq_true (hin _))<|Pk rfl rfl rfl<|Mv rfl<|La 10 rfl rfl bt<|Ca rfl (km _)<|Ca rfl (hcl (qO _))<|La 12 rfl rfl bt<|?_
   refine Ca rfl (km _)<|Cbl true rfl ent19 (kP _ _) (decide_eq_true (jn hC0.1 _))<|Pk rfl rfl rfl<|Asg rfl<|aa<|ap<|Rr<|?_
   exact aJ rfl rfl (fun w hw=>⟨rfl,ac hw⟩)
  ·refine Hd func4 rfl hGF<|Xp<|Asg rfl<|aa<|ae<|Xp<|Ca rfl (ij hH hSu)<|bz rfl (fun _=>bi _) rfl rfl<|aa<|aL rfl<|au<|ae<|Xp<|Mv rfl<|aZ rfl (fun _=>aC underlying22 _ _ _ _) rfl rfl<|Bnb false rfl rfl (fun _=>aU _ _ _) (decide_eq_false h1)<|Mv rfl<|Mv rfl<|aZ rfl (fun _=>aC underlying22 _ _ _ _) rfl rfl<|Bnb false rfl rfl (fun _=>aU _ _ _) (decide_eq_false h2)<|Pk rfl rfl rfl<|aa<|aL rfl<|au<|Xp<|Mv rfl<|aZ rfl (fun _=>aC underlying22 _ _ _ _) rfl rfl<|Bnr (v:=I ((bs0.length / 2:Nat):Int)) rfl rfl (fun _=>cw _ _ _ (by decide) (show inI ((bs0.length / 2:Nat):Int) by unfold inI;omega))<|Asg rfl<|aa<|Xa [0,1,2,3,4,5,6,7,8,9,10,11,12,13] ⟨14,10,31,(GL jJ).map U64⟩ [15,16] (bY rfl zv31 rfl)<|Mv rfl<|Mv rfl<|dC (l:=0) (h':=bs0.length / 2) rfl underlying22 sizeOf5 rfl rfl (by omega) rfl rfl<|Cc rfl ent13 (fun w' hC hG=>el e0 cap0 bs0 0 (bs0.length / 2) _ _ rfl (by omega) (by omega) hc0 (by omega) w' hG (hb0.grow (ac hC)))<|Mv rfl<|Mv rfl<|dC (l:=bs0.length / 2) (h':=bs0.length) rfl underlying22 sizeOf5 rfl rfl (by omega) rfl rfl<|Cc rfl ent13 (fun w' hC hG=>el e0 cap0 bs0 (bs0.length / 2) (bs0.length-bs0.length / 2) _ _ rfl (by omega) (by omega) hc0 (by omega) w' hG (hb0.grow (ac hC)))<|bP cO rfl rfl (by simp) (by simp) rfl rfl<|?_
   refine Mv rfl<|Ca rfl (wt (NUM bs0) _ hq)<|Mv rfl<|Ext rfl rfl<|Ext rfl rfl<|aa<|?_
   refine ⟨_,_,rfl,hGF,by intro x hx;simp only[List.mem_cons,List.not_mem_nil,or_false]at hx;subst hx;rfl,by intro x hx;simp only[List.mem_cons,List.not_mem_nil,or_false]at hx;subst hx;rfl,fun adr6=> ?_⟩
   refine Sa 10 hGF rfl rfl rfl bt<|Asg rfl<|aa<|ae<|Xp<|Mv rfl<|Mv rfl<|Sk<|Sk<|Pk rfl rfl rfl<|aa<|ba rfl<|Xq<|Ca rfl (y4)<|Mv rfl<|Cc rfl ent15 (fun w' hC hG=>ui BQ e1 cap1 bs1 (by omega) w' hG (hb1.grow (ac hC)))<|Sa 10 hGF rfl rfl rfl bt<|aa<|Xp<|La 10 rfl rfl bt<|Ca rfl (hcl _)<|Al 12 hGF zv31<|fun b12=>Sa 12 hGF rfl rfl rfl bt<|aa<|Xd []<|La 12 rfl rfl bt<|Ca rfl (gN _)<|La 10 rfl rfl bt<|Ca rfl (gN _)<|Ca rfl (jf _)<|Ca rfl (A7 (gC _) _ (hK _))<|Mv rfl<|La 12 rfl rfl bt<|Cbl true rfl ent11 (fQ _) (decide_eq_true (hin _))<|Pk rfl rfl rfl<|Mv rfl<|La 10 rfl rfl bt<|Ca rfl (km _)<|Ca rfl (hcl (qO _))<|La 12 rfl rfl bt<|?_
   refine Ca rfl (km _)<|Cbl true rfl ent19 (kP _ _) (decide_eq_true (jn hC0.1 _))<|Pk rfl rfl rfl<|Asg rfl<|aa<|ap<|Rr<|?_
   exact aJ rfl rfl (fun w hw=>⟨rfl,ac hw⟩)
end
section
open Go.RowKit
attribute [local simp] a8 bG aE az a6 aY aQ aK a9 PLl d8 ec N1l d6 d9 dR bC bL bN bO ce dW cF ee fh
theorem ent24:ah Tryz.prog 24:=fun _ _=>by kernel_rfl
theorem ent57:ah Tryz.prog 57:=fun _ _=>by kernel_rfl
theorem ent25:ah Tryz.prog 25:=fun _ _=>by kernel_rfl
theorem H6  :Pure Tryz.prog Gt 22 [] (.string SUb):=by
 intro w hw
 refine Hf func22 rfl hw<|fun hGF=>Xp<|Asg rfl<|aa<|Xp<|Asg rfl<|aa<|ap<|Rr<|?_
 exact aJ rfl rfl (fun w hw=>⟨rfl,ac hw⟩)
theorem Iv(p q:GP)(hq:Bu p HBs=q)(b cap:Nat)(w:World)(hw:Gt w)(h:w.rangeAt b 0 (HBs.map U8)):Calls Tryz.prog 15 [PtV p,.slice (some ⟨b,0,none⟩) HBs.length cap].toArray w (fun r w'=>r=.returned (PtV q)∧Grow w w'):=by
 subst hq
 exact ui p _ cap HBs (by decide) w hw (BytesAt.range h)
def gCl(p:GP):GP:=Bu p HBs
theorem Fu(p:GP)(bs:List (BitVec 8)):(Bu p bs).P=E2w.times p.P (BN bs bs.length):=rfl
theorem De(p:GP):(gCl p).P=E2w.times p.P HEF:=by rw[gCl,Fu,Dt]
theorem wa(p:GP):Pure Tryz.prog Gt 16 [PtV p] (PtV (gCl p)):=by
 intro w hw
 refine Hf func16 rfl hw<|fun hGF=>ak (E:=EE [1000022])<|Bx 1 hGF rfl<|fun b1=>Al 2 hGF zv31<|fun b2=>aa<|ak (E:=EE [1000022])<|La 1 rfl rfl bt<|jR 4 HBs hGF rfl rfl rfl (by decide) (by decide) underlying22 sizeOf5 zeroValue5 rfl rfl<|fun b4=>qZ 4 rfl hGF rfl rfl underlying22 underlying5 rfl rfl<|Cc rfl ent15 (fun w' hC hG=>Iv p (gCl p) rfl _ _ w' hG (bv (n:=4) rfl w' hC))<|Sa 2 hGF rfl rfl rfl bt<|aa<|ap<|Rr<|?_
 exact av 2 rfl rfl rfl isAgg31 sizeOf31 (by simp) (fun w hw=>⟨rfl,ac hw⟩)
theorem pcl:PCl gCl:=⟨De,wa⟩
def PE2(f:Nat→W2):List (List Value):=(List.range 2).map fun (k:Nat)=>[EV2 (f k)]
theorem nS(f:Nat→W2):(PE2 f).length=2:=by rw[PE2,List.length_map,List.length_range]
theorem sJ(f:Nat→W2)(k:Nat)(h:k<2):(PE2 f)[k]? =some [EV2 (f k)]:=by
 rw[PE2,List.getElem?_map,List.getElem?_range h];rfl
theorem Hy(f:Nat→W2)(k:Nat)(v:List Value)(h:(PE2 f)[k]? =some v):k<2∧v=[EV2 (f k)]:=by
 have hk:k<2:=by
  rcases Nat.lt_or_ge k 2 with hk|hk
  ·exact hk
  ·rw[List.getElem?_eq_none (by rw[nS];exact hk)]at h;cases h
 exact ⟨hk,(Option.some.inj ((sJ f k hk).symm.trans h)).symm⟩
def RdE(bb b cap:Nat)(f:Nat→W2):Cls:=fun w=>w.cell? ⟨bb,0,none⟩=some (.slice (some ⟨b,0,none⟩) 2 cap)∧w.rangeAt b 0 ((RW 12 (RPr f) 2).map U64)
theorem yh(bb b cap:Nat)(f:Nat→W2):gI Tryz.prog Gt 57 [.pointer (some ⟨bb,0,none⟩)] (PE2 f) (RdE bb b cap f):=by
 intro l J Jx hJ hJx hRd hGx hY w hj
 have okJ: ∀k,BOk Gt (Bi w (fun Y=>J Y k)):=fun k=>⟨fun _ _ _ h=>(hRd _ _ _ h.rid).1,hJ k⟩
 have okX: ∀k,BOk Gt (Bi w (fun Y=>Jx Y k)):=fun k=>⟨fun _ _ _ h=>hGx _ _ _ h.rid,hJx k⟩
 have c1: ∀k L w',Hp (Bi w (fun Y=>J Y k)) L w'→RdE bb b cap f w':=fun k L w' h=>(hRd _ _ _ h.rid).2
 refine cr (G:=Gt) func57 rfl rfl (Hp (Bi w (fun Y=>J Y 0)) []) (cu (Bi w _) hj (hJ 0)) (ay (okJ 0))<|Xp<|bp rfl isAgg101 (fun w h=>(c1 _ _ w h).1) rfl rfl<|aZ rfl (fun _=>aC underlying101 _ _ _ _) rfl rfl<|Mv rfl<|aa<|ai<|iA (ι:={i:Nat // i≤2}) (fun y=>[(0,.func (.yield l) #[] #[]),(1,.pointer (some ⟨bb,0,none⟩)),(5,.slice (some ⟨b,0,none⟩) 2 cap),(6,I ((2:Nat):Int)),(7,I (y.1:Int))]) (fun y=>Bi w (fun Y=>J Y y.1)) (fun y=>[]) (fun y=>2-y.1) ⟨0,Nat.zero_le _⟩ (fun _=>okJ _) rfl ⟨rfl,rfl,rfl,rfl,rfl,trivial⟩ trivial<|?_
 rintro ⟨i,hi⟩
 dsimp only
 refine Xp<|Bnr rfl rfl (fun _=>aA _ _ _)<|aa<|ae<|?_
 refine bj rfl (fun hc=> ?_) (fun hc=> ?_)
 ·have hi2:i<2:=by simp at hc;omega
  refine au<|ae<|ai<|Xp<|w7 (s:=12) i rfl rfl underlying101 sizeOf29 (by omega) (by omega) rfl rfl<|eX (cs:=(fe (f i).1++fe (f i).2).map U64) rfl isAgg29 sizeOf29 (by simp) (fun w h=>uy (c1 _ _ w h).2 (by omega) (ee _ _)) rfl rfl<|Al 4 (okJ _) zv29<|fun b4=>Sa 4 (okJ _) rfl rfl rfl aM<|aa<|Xp<|Mv rfl<|La 4 rfl rfl aM<|?_
  refine dM (hY.b (k:=i) (sJ f i (by omega)) w) (okJ _) (okX _) rfl rfl rfl rfl rfl ?_ ?_
  ·refine bz rfl (fun _=>bi _) rfl rfl<|aa<|aL rfl<|au<|Xq<|Bnr rfl rfl (fun _=>aw _ _ _ (by unfold inI;omega))<|Mv rfl<|aa<|?_
   repeat (refine aR ?_)
   exact aG<|⟨rfl,⟨i+1,by omega⟩,_,by show 2-(i+1)<2-i;omega,rfl,⟨rfl,rfl,rfl,rfl,rfl,trivial⟩,trivial⟩
  ·refine bz rfl (fun _=>bi _) rfl rfl<|aa<|ba rfl<|ap<|Rr<|?_
   repeat (first|refine ew ?_|refine dH ?_|refine eT rfl ?_|refine ck ?_|refine cn ?_)
   exact eQ rfl (fun w hw=>⟨⟨_,rfl⟩,.inr ⟨_,bQ (hJx _) hw.rid⟩⟩)
 ·obtain rfl:i=2:=by simp at hc;omega
  refine aT ?_
  repeat (first|refine ew ?_|refine dH ?_|refine eT rfl ?_|refine ck ?_|refine cn ?_)
  refine cv rfl (fun w hw=>⟨⟨_,rfl⟩,.inl ?_⟩)
  have:=bQ (hJ _) hw.rid
  rw[nS]
  exact this
theorem Dz{u:W2}{A:W2×W2}(h:SwA u A): ∃p:GP,p.P=some A∧Pure Tryz.prog Gt 59 [EV2 u] (PtV p):=by
 obtain ⟨x,r,s,rfl⟩:=h
 exact ⟨_,rfl,pmap s⟩
def gS(p:Nat→GP):Nat→GP
 |0=>jJ
 |k+1=>Lj (gS p k) (p k)
theorem gS_P{p:Nat→GP}{A B:W2×W2}(h0:(p 0).P=some A)(h1:(p 1).P=some B):(gS p 2).P=E2w.ad (some A) (some B):=by
 show E2w.ad (E2w.ad none (p 0).P) (p 1).P=_
 rw[h0,h1];rfl
theorem Ae(msg dst:List (BitVec 8))(hbad:Xm.FBad msg dst 2)(a1:Option Addr)(cap1:Nat)(a2:Option Addr)(cap2:Nat)(w:World)(hl1:msg.length≤65600)(hc1:msg.length≤cap1)(hl2:dst.length≤1000)(hc2:dst.length≤cap2)(hw:Gt w)(hb1:BytesAt w a1 msg)(hb2:BytesAt w a2 dst):Calls Tryz.prog 24 [.slice a1 msg.length cap1,.slice a2 dst.length cap2].toArray w (fun e w'=>e=.returned (.tuple #[.nilFunc,I 130])∧Grow w w'):=by
 refine Hf func24 rfl hw<|fun hGF=>ak (E:=EE [56,2000056])<|Asg rfl<|Asg rfl<|aa<|ak (E:=EE [56,2000056])<|Mv rfl<|Mv rfl<|?_
 refine bq rfl rfl ent56 rfl rfl (fun w' hw'=>(Xm.pfc a1 cap1 msg a2 cap2 dst 2 w' (by omega) hc1 (by omega) hc2 (hGF.g _ _ _ hw') (hb1.grow (ac hw')) (hb2.grow (ac hw'))).mono fun e w'' h=> ?_)
 obtain ⟨v,rfl,hg,hq⟩:=h
 obtain rfl:=hq.bad hbad
 refine ⟨_,_,rfl,ay hGF,hw'.grow ao hg,fun _ h=>h, ?_⟩
 clear hq hg hw'
 refine Mv rfl<|Ext rfl rfl<|Ext rfl rfl<|iS 6 hGF zeroValue101 rfl rfl<|fun b6=>fT 6 hGF rfl rfl rfl sizeOf101 rfl (by decide) rfl<|Asg rfl<|aa<|ae<|ak (E:=EE [56,2000056])<|Mv rfl<|Bnb true rfl rfl (fun _=>cY _ _ _) (rfl)<|aa<|ba rfl<|ak (E:=EE [56,2000056])<|Mv rfl<|Asg rfl<|Asg rfl<|aa<|ap<|Rr<|?_
 exact cW rfl rfl rfl (fun w hw=>⟨rfl,ac hw⟩)
theorem G3(msg dst:List (BitVec 8))(hbad: ¬Xm.FBad msg dst 2)(a1:Option Addr)(cap1:Nat)(a2:Option Addr)(cap2:Nat)(w:World)(hl1:msg.length≤65600)(hc1:msg.length≤cap1)(hl2:dst.length≤1000)(hc2:dst.length≤cap2)(hw:Gt w)(hb1:BytesAt w a1 msg)(hb2:BytesAt w a2 dst):Calls Tryz.prog 24 [.slice a1 msg.length cap1,.slice a2 dst.length cap2].toArray w (fun e w'=> ∃b cap b1,e=.returned (.tuple #[.func (.func 57) #[] #[.pointer (some ⟨b1,0,none⟩)],I 0])∧Grow w w'∧w.heap.size≤b∧w'.rangeAt b 0 (U2c msg dst)∧w.heap.size≤b1∧w'.rangeAt b1 0 [.slice (some ⟨b,0,none⟩) 2 cap]):=by
 refine Hf func24 rfl hw<|fun hGF=>ak (E:=EE [56,2000056])<|Asg rfl<|Asg rfl<|aa<|ak (E:=EE [56,2000056])<|Mv rfl<|Mv rfl<|?_
 refine bq rfl rfl ent56 rfl rfl (fun w' hw'=>(Xm.pfc a1 cap1 msg a2 cap2 dst 2 w' (by omega) hc1 (by omega) hc2 (hGF.g _ _ _ hw') (hb1.grow (ac hw')) (hb2.grow (ac hw'))).mono fun e w'' h=> ?_)
 obtain ⟨v,rfl,hg,hq⟩:=h
 obtain ⟨b,cap,rfl,hbs,hbr⟩:=vd hq hbad
 refine ⟨_,_,rfl,ay (k8 hGF),C9 hw' ao hg hbs (xt hbr) hbr,fun _ h=>gE h, ?_⟩
 have hbs0:w.heap.size≤b:=Nat.le_trans (ac hw').size hbs
 clear hq hg hw' hbs hbr
 refine Mv rfl<|Ext rfl rfl<|Ext rfl rfl<|iS 6 (k8 hGF) zeroValue101 rfl rfl<|fun b6=>fT 6 (k8 hGF) rfl rfl rfl sizeOf101 rfl (by decide) rfl<|Asg rfl<|aa<|ae<|ak (E:=EE [56,2000056])<|Mv rfl<|Bnb false rfl rfl (fun _=>cY _ _ _) (rfl)<|aa<|aL rfl<|au<|ak (E:=EE [56,2000056])<|ia rfl rfl rfl rfl<|Asg rfl<|Asg rfl<|aa<|ap<|Rr<|?_
 exact cW rfl rfl rfl (fun w hw=>⟨b,cap,b6,rfl,hbl hw,hbs0,yw hw,(hw.own 6 b6 _ _ rfl).2.elim id False.elim,(hw.own 6 b6 _ _ rfl).1.range⟩)
theorem uv(f:Nat→W2)(p:Nat→GP)(hm0: ∀k,k<2→Pure Tryz.prog Gt 59 [EV2 (f k)] (PtV (p k)))(b1 b cap:Nat)(w:World)(hw:Gt w)(hRs: ∀w',Grow w w'→RdE b1 b cap f w'):
 Calls Tryz.prog 25 [.func (.func 57) #[] #[.pointer (some ⟨b1,0,none⟩)]].toArray w (fun r w'=>r=.returned (PtV (gS p 2))∧Grow w w'):=by
 have hGF:BOk Gt (pl w):=gt_low.plain hw
 refine dq (G:=Gt) func25 rfl rfl (Hp (pl w) []) (cu (pl w) trivial ao) (ay hGF)<|Xp<|Al 2 hGF zv31<|fun b2=>aa<|Xp<|Al 3 hGF zv31<|fun b3=>aa<|ae<|Xp<|Mv rfl<|aa<|ai<|?_
 refine h7 (fun _=>pl w) (fun _ _=>pl w) (fun _=>hGF) (fun _ _=>hGF) (fun _=>rfl) (fun _ _=>rfl) rfl rfl ent57 (yh b1 b cap f) (fun x hx=>by obtain ⟨k,hk,rfl⟩:=List.mem_map.1 hx;rfl) rfl (fun k=>[(2,b2,(GL (jJ)).map U64,31),(3,b3,(GL (gS p k)).map U64,31)]) (fun _ _ _=>False) ⟨rfl,rfl,trivial⟩ (fun k _ w' h=>hRs w' (h.below (fun _ h=>h))) ?_ ?_ (fun _ _ _ _ _ h=>h.elim)
 ·intro k v hx R hR
  obtain ⟨hk,rfl⟩:=Hy f k v hx
  have hm:=hm0 k hk
  refine Xq<|dZ 4 (hR (pl w) rfl hGF).1 zv29 rfl rfl<|fun b4=>aH 4 (hR (pl w) rfl hGF).1 rfl rfl rfl sizeOf29 (by simp) (by simp) (bg _) rfl<|aa<|?_
  refine ⟨rfl,_,rfl, ?_⟩
  refine ai<|Xe []<|La 3 rfl rfl bt<|La 4 rfl rfl aM<|Ca rfl (hm)<|Ca rfl (JZ _ _)<|aH 3 (hR (pl w) rfl hGF).2.1 rfl rfl rfl sizeOf31 (by simp) (by simp) (bg _) rfl<|aa<|?_
  repeat (refine aR ?_)
  exact ⟨_,rfl,⟨rfl,rfl,trivial⟩⟩
 ·intro D hD
  rw[nS]
  refine Xp<|La 3 rfl rfl bt<|Sa 2 hD rfl rfl rfl bt<|aa<|ap<|Rr<|?_
  exact ib (.inl rfl) ao (av 2 rfl rfl rfl isAgg31 sizeOf31 (by simp) (fun w hw=>⟨rfl,ac hw⟩))
theorem H2{B:Bs}{L:Hl}{Y:Nat→Prop}{w w':World}{b d:Nat}{cs ds:List Value}(h:Hq B L Y w)(hr:Rides B.J)(hg:Grow w w')(hb:w.heap.size≤b)(hb':b<w'.heap.size)(hc:w'.rangeAt b 0 cs)(hd:w.heap.size≤d)(hd':d<w'.heap.size)(he:w'.rangeAt d 0 ds):Hq (pj (pj B b cs) d ds) L Y w':=by
 have k:=C9 h hr hg hb hb' hc
 refine ⟨k.os,k.tape,k.output,k.size,k.keep,k.own,k.inj,k.apart,k.high,k.lt,k.rid,fun e=> ?_,hd',he⟩
 rcases e with e|e
 ·have:=h.ownlt e;omega
 ·have:=h.lt _ e;omega
theorem Gi{w w':World}{b1 b cap:Nat}{f:Nat→W2}(h1:w.rangeAt b1 0 [.slice (some ⟨b,0,none⟩) 2 cap])(h2:w.rangeAt b 0 ((RW 12 (RPr f) 2).map U64))(hg:Grow w w'):RdE b1 b cap f w':=⟨(jo h1 hg) 0 _ rfl,jo h2 hg⟩
theorem uO(msg dst:List (BitVec 8))(hbad:Xm.FBad msg dst 2)(a1:Option Addr)(cap1:Nat)(a2:Option Addr)(cap2:Nat)(w:World)(hl1:msg.length≤65600)(hc1:msg.length≤cap1)(hl2:dst.length≤1000)(hc2:dst.length≤cap2)(hw:Gt w)(hb1:BytesAt w a1 msg)(hb2:BytesAt w a2 dst):Calls Tryz.prog 6 [.slice a1 msg.length cap1,.slice a2 dst.length cap2].toArray w (fun e w'=>e=.returned (.tuple #[PtV jJ,I 130])∧Grow w w'):=by
 refine Hf func6 rfl hw<|fun hGF=>ak (E:=EE [24,2000024])<|Al 4 hGF zv31<|fun b4=>Asg rfl<|aa<|ak (E:=EE [24,2000024])<|Mv rfl<|Mv rfl<|?_
 refine bq rfl rfl ent24 rfl rfl (fun w' hw'=>(Ae msg dst hbad a1 cap1 a2 cap2 w' hl1 hc1 hl2 hc2 (hGF.g _ _ _ hw') (hb1.grow (ac hw')) (hb2.grow (ac hw'))).mono fun e w'' h=> ?_)
 obtain ⟨rfl,hg⟩:=h
 refine ⟨_,_,rfl,ay hGF,hw'.grow ao hg,fun _ h=>h, ?_⟩
 clear hg hw'
 refine Mv rfl<|Ext rfl rfl<|Ext rfl rfl<|Asg rfl<|Asg rfl<|aa<|ae<|ak (E:=EE [24,2000024])<|Mv rfl<|Bnb true rfl rfl (fun _=>cY _ _ _) (rfl)<|aa<|ba rfl<|ak (E:=EE [24,2000024])<|ig kN rfl rfl<|Mv rfl<|Sa 4 hGF rfl rfl rfl bt<|Asg rfl<|aa<|ap<|Rr<|?_
 exact bw 4 rfl rfl rfl rfl isAgg31 sizeOf31 (by simp) (fun w hw=>⟨rfl,ac hw⟩)
theorem xi(msg dst:List (BitVec 8))(hbad: ¬Xm.FBad msg dst 2)(p:Nat→GP)(hm0: ∀k,k<2→Pure Tryz.prog Gt 59 [EV2 (U2n msg dst k)] (PtV (p k)))(a1:Option Addr)(cap1:Nat)(a2:Option Addr)(cap2:Nat)(w:World)(hl1:msg.length≤65600)(hc1:msg.length≤cap1)(hl2:dst.length≤1000)(hc2:dst.length≤cap2)(hw:Gt w)(hb1:BytesAt w a1 msg)(hb2:BytesAt w a2 dst):Calls Tryz.prog 6 [.slice a1 msg.length cap1,.slice a2 dst.length cap2].toArray w (fun e w'=>e=.returned (.tuple #[PtV (gCl (gS p 2)),I 0])∧Grow w w'):=by
 refine Hf func6 rfl hw<|fun hGF=>ak (E:=EE [24,2000024])<|Al 4 hGF zv31<|fun b4=>Asg rfl<|aa<|ak (E:=EE [24,2000024])<|Mv rfl<|Mv rfl<|?_
 refine bq rfl rfl ent24 rfl rfl (fun w' hw'=>(G3 msg dst hbad a1 cap1 a2 cap2 w' hl1 hc1 hl2 hc2 (hGF.g _ _ _ hw') (hb1.grow (ac hw')) (hb2.grow (ac hw'))).mono fun e w'' h=> ?_)
 obtain ⟨b,cap,b1,rfl,hg,hbs,hbr,hds,hdr⟩:=h
 refine ⟨_,_,rfl,ay (k8 (k8 hGF)),H2 hw' ao hg hbs (xt hbr) hbr hds (block_lt_of_cell (hdr 0 _ rfl)) hdr,fun _ h=>gE (gE h), ?_⟩
 clear hg hw' hbs hbr hds hdr
 refine Mv rfl<|Ext rfl rfl<|Ext rfl rfl<|Asg rfl<|Asg rfl<|aa<|ae<|ak (E:=EE [24,2000024])<|Mv rfl<|Bnb false rfl rfl (fun _=>cY _ _ _) (rfl)<|aa<|aL rfl<|au<|ak (E:=EE [24,2000024])<|Mv rfl<|Cc rfl ent25 (fun w' hC hG=>uv (U2n msg dst) p hm0 b1 b cap w' hG (fun w'' hg=>Gi (yw hC) (yw (gE hC)) hg))<|Ca rfl (wa _)<|Sa 4 (k8 (k8 hGF)) rfl rfl rfl bt<|Asg rfl<|aa<|ap<|Rr<|?_
 exact bw 4 rfl rfl rfl rfl isAgg31 sizeOf31 (by simp) (fun w hw=>⟨rfl,hbl hw⟩)
theorem phs:PHs:=by
 refine ⟨fun msg dst hb=>⟨jJ,rfl,fun a1 cap1 a2 cap2 w=>uO msg dst hb a1 cap1 a2 cap2 w⟩,fun msg dst A B hb h=> ?_⟩
 obtain ⟨p0,e0,h0⟩:=Dz h.s0
 obtain ⟨p1,e1,h1⟩:=Dz h.s1
 refine ⟨gCl (gS (fun k=>if k=0 then p0 else p1) 2), ?_,fun a1 cap1 a2 cap2 w=>xi msg dst hb _ (fun k hk=> ?_) a1 cap1 a2 cap2 w⟩
 ·rw[De,gS_P (A:=A) (B:=B) e0 e1]
 ·match k,hk with
  |0,_=>exact h0
  |1,_=>exact h1
end
end Go.Proofs.YtodgbdcjjhmnkaaGreatDoor
