/-
 What the laws of layer 15 share.
 The laws HashIs, HashClears.
 The walks of package h2c.
-/
import Derived.Test.YtodgbdcjjhmnkaaGreatDoorQA
import Derived.Test.YtodgbdcjjhmnkaaGreatDoorQ8
import Derived.Test.YtodgbdcjjhmnkaaGreatDoorX2
import Derived.Test.YtodgbdcjjhmnkaaGreatDoorXW
import Derived.Test.YtodgbdcjjhmnkaaGreatDoorQ9
set_option maxRecDepth 100000
set_option maxHeartbeats 1000000
namespace Go.Proofs.YtodgbdcjjhmnkaaGreatDoor
open Go.Proofs.Tryz
section
open Go.RowKit
attribute [local simp] bp bQ aI aB bj bc aX aW bv PLl eK eI N1l eP eU eW bJ bV bY bX cH eT cb cw f7
theorem ent6:am Tryz.prog 6:=fun _ _=>by kernel_rfl
theorem ent23:am Tryz.prog 23:=fun _ _=>by kernel_rfl
theorem RJ_s{P:Pt W2}(h: ¬P=none):RJ2 P=(PX P,PY P,on2):=by
 cases P with
 |none=>exact absurd rfl h
 |some p=>rfl
theorem Je{J K:W6}{P Q:Pt W2}(hP:E2w.onP P)(hQ:E2w.onP Q)(hJ:E2w.jr J P)(hK:E2w.jr K Q):decide ((E2w.jaF J (K.1,ng2 K.2.1,K.2.2)).2.2=ze2)=decide (P=Q):=by
 have h:=E2w.jr_a hP (E2w.ne_on hQ) hJ (E2w.jr_n hK)
 exact decide_eq_decide.2 ((E2w.jr_z h).trans (E2w.ad_ne_iff hP hQ))
theorem GZ{K:W6}{P:Pt W2}(hP:E2w.onP P)(hK:E2w.jr K P):decide ((E2w.jaF (RJ2 P) (K.1,ng2 K.2.1,K.2.2)).2.2=ze2)=true:=(Je hP hP (Is P) hK).trans (decide_eq_true rfl)
theorem GG(x:Zp)(b:Nat)(t:TypeId)(w:World)(hw:Gt w)(ho:OwnB w b ((qe x).map U8) t):
 Calls Tryz.prog 124 [.slice (some ⟨b,0,none⟩) 48 48].toArray w (fun r w'=>r=.returned (.tuple #[NV (nm x),.bool true])∧Grow w w'):=by
 have h:=vZ b t (qe x) (bv x) w hw ho
 rw[AT]at h
 exact h
theorem yP(x:Zp):Pure Tryz.prog Gt 71 [EV x] (EV x):=by
 intro w hw
 refine Hf func71 rfl hw<|fun hGF=>Xp<|Bx 1 hGF rfl<|fun b1=>Al 2 hGF zv37<|fun b2=>aa<|Xp<|La 1 rfl rfl bU<|Ca rfl (kV _)<|Al 3 hGF zv60<|fun b3=>aF 3 hGF rfl rfl rfl sizeOf60 (by simp) (by simp) (ca _) rfl<|aa<|Xp<|ci (l:=0) (h':=48) rfl underlying60 sizeOf5 rfl rfl (by omega) (by omega) rfl rfl<|Cc rfl ent124 (fun w' hC hG=>GG x _ _ w' hG (hC.own 3 _ _ _ rfl).1)<|Mv rfl<|Ext rfl rfl<|Ext rfl rfl<|Al 4 hGF zv35<|fun b4=>Sa 4 hGF rfl rfl rfl bu<|Asg rfl<|aa<|Xp<|La 4 rfl rfl bu<|Ca rfl (GM _)<|Sa 2 hGF rfl rfl rfl cm<|aa<|aq<|Rr<|?_
 exact aw 2 rfl rfl rfl isAgg37 sizeOf37 (by simp) (fun w hw=>⟨rfl,ac hw⟩)
theorem EQ(x:W2):Pure Tryz.prog Gt 31 [EV2 x] (EV2 x):=by
 intro w hw
 refine Hf func31 rfl hw<|fun hGF=>Xp<|Bx 1 hGF rfl<|fun b1=>Al 2 hGF zv39<|fun b2=>aa<|Xd []<|Fa 0 rfl underlying29 rfl sizeOf27<|db 1 _ rfl rfl isAgg27 sizeOf27 (by simp) AN rfl rfl<|Ca rfl (yP _)<|Fa 6 rfl underlying29 rfl sizeOf27<|db 1 _ rfl rfl isAgg27 sizeOf27 (by simp) (zB (by simp)) rfl rfl<|Ca rfl (yP _)<|cq n8 rfl rfl (by simp) (by simp) rfl rfl<|Sa 2 hGF rfl rfl rfl bw<|aa<|aq<|Rr<|?_
 exact aw 2 rfl rfl rfl isAgg39 sizeOf39 (by simp) (fun w hw=>⟨rfl,ac hw⟩)
theorem BA(p:GP):Pure Tryz.prog Gt 9 [PtV p] (EV6 (RJ2 p.P)):=by
 intro w hw
 have hGF:BOk Gt (pl w):=gt_low.plain hw
 by_cases h:p.P=none
 ·rw[h]
  refine Hd func9 rfl hGF<|Xp<|Bx 1 hGF rfl<|fun b1=>Al 2 hGF zv41<|fun b2=>aa<|Xp<|La 1 rfl rfl dj<|Ca rfl (xy_n p h)<|Mv rfl<|Ext rfl rfl<|Ext rfl rfl<|Ext rfl rfl<|Al 3 hGF zv29<|fun b3=>Al 4 hGF zv29<|fun b4=>Sa 3 hGF rfl rfl rfl a9<|Sa 4 hGF rfl rfl rfl a9<|Asg rfl<|aa<|ah<|Xp<|Mv rfl<|bT rfl (fun _=>bI _) rfl rfl<|aa<|bf rfl<|Xp<|kR wd rfl rfl<|Sa 2 hGF rfl rfl rfl gT<|aa<|aq<|Rr<|?_
  exact aw 2 rfl rfl rfl isAgg41 sizeOf41 (by simp) (fun w hw=>⟨rfl,ac hw⟩)
 ·rw[RJ_s h]
  refine Hd func9 rfl hGF<|Xp<|Bx 1 hGF rfl<|fun b1=>Al 2 hGF zv41<|fun b2=>aa<|Xp<|La 1 rfl rfl dj<|Ca rfl (Mx p h)<|Mv rfl<|Ext rfl rfl<|Ext rfl rfl<|Ext rfl rfl<|Al 3 hGF zv29<|fun b3=>Al 4 hGF zv29<|fun b4=>Sa 3 hGF rfl rfl rfl a9<|Sa 4 hGF rfl rfl rfl a9<|Asg rfl<|aa<|ah<|Xp<|Mv rfl<|bT rfl (fun _=>bI _) rfl rfl<|aa<|aV rfl<|au<|Xd []<|La 3 rfl rfl a9<|Ca rfl (EQ _)<|La 4 rfl rfl a9<|Ca rfl (EQ _)<|Ca rfl (Id _ _)<|Sa 2 hGF rfl rfl rfl gT<|aa<|aq<|Rr<|?_
  exact aw 2 rfl rfl rfl isAgg41 sizeOf41 (by simp) (fun w hw=>⟨rfl,ac hw⟩)
structure PHs:Prop where
 bad: ∀msg dst,Xm.FBad msg dst 2→∃p:GP,p.P=none∧∀(a1:Option Addr) (cap1:Nat) (a2:Option Addr) (cap2:Nat) (w:World),msg.length≤65600→msg.length≤cap1→dst.length≤1000→dst.length≤cap2→Gt w→BytesAt w a1 msg→BytesAt w a2 dst→Calls Tryz.prog 6 [.slice a1 msg.length cap1,.slice a2 dst.length cap2].toArray w (fun e w'=>e=.returned (.tuple #[PtV p,I 130])∧Grow w w')
 ok: ∀msg dst A B,¬Xm.FBad msg dst 2→Sw2 msg dst A B→∃p:GP,p.P=E2w.times (E2w.ad (some A) (some B)) HEF∧∀(a1:Option Addr) (cap1:Nat) (a2:Option Addr) (cap2:Nat) (w:World),msg.length≤65600→msg.length≤cap1→dst.length≤1000→dst.length≤cap2→Gt w→BytesAt w a1 msg→BytesAt w a2 dst→Calls Tryz.prog 6 [.slice a1 msg.length cap1,.slice a2 dst.length cap2].toArray w (fun e w'=>e=.returned (.tuple #[PtV p,I 0])∧Grow w w')
def SUs:List (BitVec 8):=[66#8,76#8,83#8,95#8,83#8,73#8,71#8,95#8,66#8,76#8,83#8,49#8,50#8,51#8,56#8,49#8,71#8,50#8,95#8,88#8,77#8,68#8,58#8,83#8,72#8,65#8,45#8,50#8,53#8,54#8,95#8,83#8,83#8,87#8,85#8,95#8,82#8,79#8,95#8,80#8,79#8,80#8,95#8]
def SUb:ByteArray:=⟨(SUs.map fun x=>UInt8.ofBitVec x).toArray⟩
def PSu:Prop:=Pure Tryz.prog Gt 22 [] (.string SUb)
theorem yI(msg dst:List (BitVec 8)): ∃A B,Sw2 msg dst A B:=by
 obtain ⟨A,h⟩:=zH (U2n msg dst 0)
 obtain ⟨B,h'⟩:=zH (U2n msg dst 1)
 exact ⟨A,B,h,h'⟩
theorem L7{P Q:Pt W2}(hP:E2w.onP P)(h:Q=E2w.times P HEF):E2w.times Q ORD=none:=by rw[h];exact CE hP
theorem M6(p:GP)(K:W6)(hK:E2w.jr K p.P):Pure Tryz.prog Gt 10 [EV6 (RJ2 p.P),EV6 K] (.bool true):=by
 have e:=uv (RJ2 p.P) K
 rw[GZ p.on hK]at e
 exact e
theorem tp{msg dst:List (BitVec 8)}{A B:W2×W2}(h:Sw2 msg dst A B):E2w.onP (E2w.ad (some A) (some B)):=E2w.ad_on (ir (po h.s0)) (ir (po h.s1))
theorem G0{msg dst:List (BitVec 8)}{A B:W2×W2}(h:Sw2 msg dst A B){Q:Pt W2}(hQ:Q=E2w.times (E2w.ad (some A) (some B)) HEF):E2w.jr (RHf A B) Q:=by
 rw[RHf]
 exact MZ (tp h) (E2w.jr_a (ir (po h.s0)) (ir (po h.s1)) (kP A) (kP B)) hQ.symm
theorem xy_q{p:GP}{X Y:W2}(h:p.P=some (X,Y)):Pure Tryz.prog Gt 20 [PtV p] (.tuple #[EV2 X,EV2 Y,.bool true]):=by
 have e:=Mx p (by rw[h];exact fun e=>by cases e)
 rw[h]at e
 exact e
theorem Hg(w:World)(hw:Gt w):Calls Tryz.prog 23 [].toArray w (fun e w'=> ∃b,e=.returned (.slice (some ⟨b,0,none⟩) 43 43)∧Grow w w'∧w.heap.size≤b∧OwnB w' b (SUs.map U8) 5):=by
 refine Hf func23 rfl hw<|fun hGF=>ae (E:=EE [1000022])<|Asg rfl<|aa<|ae (E:=EE [1000022])<|dX 1 SUs hGF rfl rfl rfl (by decide) (by decide) underlying22 sizeOf5 zeroValue5 rfl rfl<|fun b1=>tg 1 rfl hGF rfl rfl underlying22 underlying5 rfl rfl<|Asg rfl<|aa<|aq<|Rr<|?_
 exact aQ rfl rfl (fun w hw=>⟨b1,rfl,ac hw,(hw.own 1 b1 _ _ rfl).2.elim id False.elim,(hw.own 1 b1 _ _ rfl).1⟩)
theorem Nj:(qe qxX.1).getD 0 0=1#8:=by decide+kernel
theorem LI:(qe qxX.1).getD 1 0=65#8:=by decide+kernel
theorem Nb:(qe qxX.1).getD 2 0=235#8:=by decide+kernel
theorem GO:(qe qxX.1).getD 47 0=138#8:=by decide+kernel
theorem IL: ¬Xm.FBad Xm.qxm Xm.qxd 2:=by
 rintro (h|h|h|h)<;>revert h<;>decide
theorem qx_s{A B:W2×W2}(h:Sw2 Xm.qxm Xm.qxd A B): ∃y,E2w.times (E2w.ad (some A) (some B)) HEF=some (qxX,y):=by
 obtain ⟨⟨x,r,h0,rfl⟩,x',r',h1,rfl⟩:=h
 rw[show U2n Xm.qxm Xm.qxd 0=sk from Xm.qx_0]at h0⊢
 rw[show U2n Xm.qxm Xm.qxd 1=qB from Xm.qx_1]at h1⊢
 exact Om h0 h1
theorem LU(w:World):(zeroValue 60).run Tryz.prog w=.ok (.agg ((List.replicate 48 (0#8)).map U8).toArray) w:=(zeroValue60 w).trans (by rfl)
theorem Hk(w:World):BytesAt w none Xm.qxm:=fun j v hv=>by simp[Xm.qxm]at hv
theorem lK(hH:PHs)(hSu:PSu):Pure Tryz.prog Gt 5 [] (.bool true):=by
 obtain ⟨A,B,h⟩:=yI Xm.qxm Xm.qxd
 obtain ⟨p,hp,hc⟩:=hH.ok _ _ _ _ IL h
 have hin:E2w.times p.P ORD=none:=L7 (tp h) hp
 obtain ⟨y,hy⟩:=qx_s h
 have hq:p.P=some (qxX,y):=hp.trans hy
 clear hp hy
 intro w hw
 refine Hf func5 rfl hw<|fun hGF=>ae (E:=EE [1000022,23,2000023])<|Asg rfl<|aa<|ae (E:=EE [1000022,23,2000023])<|dX 8 Xm.qxd hGF rfl rfl rfl (by decide) (by decide) underlying22 sizeOf5 zeroValue5 rfl rfl<|fun b8=>tg 8 rfl hGF rfl rfl underlying22 underlying5 rfl rfl<|Cc rfl ent6 (fun w' hC hG=>hc none 0 _ _ w' (by decide) (Nat.le_refl _) (by decide) (Nat.le_refl _) hG (Hk w') (BytesAt.range (aU (n:=8) rfl w' hC)))<|Mv rfl<|Ext rfl rfl<|Ext rfl rfl<|Al 1 hGF zv31<|fun b1=>Sa 1 hGF rfl rfl rfl dj<|Asg rfl<|aa<|ae (E:=EE [1000022,23,2000023])<|La 1 rfl rfl dj<|Ca rfl (xy_q hq)<|Mv rfl<|Ext rfl rfl<|Ext rfl rfl<|Ext rfl rfl<|Al 3 hGF zv29<|fun b3=>Al 4 hGF zv29<|fun b4=>Sa 3 hGF rfl rfl rfl a9<|Sa 4 hGF rfl rfl rfl a9<|Asg rfl<|aa<|ae (E:=EE [1000022,23,2000023])<|Fa 0 rfl underlying29 rfl sizeOf27<|db 3 _ rfl rfl isAgg27 sizeOf27 (by simp) AN rfl rfl<|Ca rfl (kV qxX.1)<|Al 6 hGF LU<|fun b6=>aF 6 hGF rfl rfl rfl sizeOf60 (by simp) (by simp) (ca _) rfl<|aa<|ae (E:=EE [1000022,23,2000023])<|Mv rfl<|Bnb true rfl rfl (fun _=>kS _ _ _) (rfl)<|Mv rfl<|Mv rfl<|?_
 refine Pk rfl rfl rfl<|Mv rfl<|Ia (0) rfl rfl underlying60 sizeOf5<|Lm 6 U8 0 rfl rfl isAgg5 (by simp)<|Bnb true rfl rfl (fun _=>dz _ _ _) (beq_iff_eq.2 Nj)<|Pk rfl rfl rfl<|Mv rfl<|Ia (1) rfl rfl underlying60 sizeOf5<|Lm 6 U8 0 rfl rfl isAgg5 (by simp)<|Bnb true rfl rfl (fun _=>dz _ _ _) (beq_iff_eq.2 LI)<|Pk rfl rfl rfl<|Mv rfl<|Ia (2) rfl rfl underlying60 sizeOf5<|Lm 6 U8 0 rfl rfl isAgg5 (by simp)<|Bnb true rfl rfl (fun _=>dz _ _ _) (beq_iff_eq.2 Nb)<|Pk rfl rfl rfl<|Mv rfl<|Ia (47) rfl rfl underlying60 sizeOf5<|Lm 6 U8 0 rfl rfl isAgg5 (by simp)<|Bnb true rfl rfl (fun _=>dz _ _ _) (beq_iff_eq.2 GO)<|Pk rfl rfl rfl<|Mv rfl<|La 1 rfl rfl dj<|Cbl true rfl ent11 (kQ _) (decide_eq_true hin)<|Pk rfl rfl rfl<|Mv rfl<|Ca rfl (hSu)<|?_
 refine bx rfl rfl ent23 rfl rfl (fun w' hw'=>(Hg w' (hGF.g _ _ _ hw')).mono fun e' w'' h=> ?_)
 obtain ⟨c1,rfl,hg,h1,ho⟩:=h
 refine ⟨_,_,rfl,az hGF,hw'.news ao hg [(34,c1,SUs.map U8,5)] ?_ bH,bB ao rfl, ?_⟩
 ·intro n' b' c' t' hl
  rcases aH hl with ⟨_,e⟩|⟨_,hl⟩
  ·cases e;exact ⟨h1,ho⟩
  ·cases hl
 clear hw' hg h1 ho
 refine B9 rfl rfl (fun w' hw'=>AK underlying22 underlying5 underlying9 (BytesAt.range (aU (n:=34) rfl w' hw')) _ _ rfl) rfl rfl<|Bnr (v:=.bool true) rfl rfl (fun w=>tz _ _ w)<|Pk rfl rfl rfl<|Asg rfl<|aa<|aq<|Rr<|?_
 exact aQ rfl rfl (fun w hw=>⟨rfl,ac hw⟩)
end
section
open Go.RowKit
attribute [local simp] bp bQ aI aB bj bc aX aW bv PLl eK eI N1l eP eU eW bJ bV bY bX cH eT cb cw f7
theorem yX(hH:PHs)(hSu:PSu)(a1:Option Addr)(cap1:Nat)(msg:List (BitVec 8))(a2:Option Addr)(cap2:Nat)(dst:List (BitVec 8))(hc1:msg.length≤cap1)(hc2:dst.length≤cap2)(w:World)(hw:Gt w)(hb1:BytesAt w a1 msg)(hb2:BytesAt w a2 dst):Calls Tryz.prog 3 [.slice a1 msg.length cap1,.slice a2 dst.length cap2].toArray w (fun r w'=>r=.returned (.bool true)∧Grow w w'):=by
 have hGF:BOk Gt (pl w):=gt_low.plain hw
 by_cases h1:((msg.length:Nat):Int)>500
 ·refine Hd func3 rfl hGF<|ae (E:=EE [8,2000008])<|Asg rfl<|aa<|ah<|ae (E:=EE [8,2000008])<|Ca rfl (lK hH hSu)<|bT rfl (fun _=>bI _) rfl rfl<|aa<|aV rfl<|au<|ah<|ae (E:=EE [8,2000008])<|Mv rfl<|aZ rfl (fun _=>aC underlying22 _ _ _ _) rfl rfl<|Bnb true rfl rfl (fun _=>aP _ _ _) (decide_eq_true h1)<|Mv rfl<|Sk<|Sk<|Sk<|Pk rfl rfl rfl<|aa<|bf rfl<|ae (E:=EE [8,2000008])<|Asg rfl<|aa<|aq<|Rr<|?_
  exact aQ rfl rfl (fun w hw=>⟨rfl,ac hw⟩)
 by_cases h2:((dst.length:Nat):Int)>400
 ·refine Hd func3 rfl hGF<|ae (E:=EE [8,2000008])<|Asg rfl<|aa<|ah<|ae (E:=EE [8,2000008])<|Ca rfl (lK hH hSu)<|bT rfl (fun _=>bI _) rfl rfl<|aa<|aV rfl<|au<|ah<|ae (E:=EE [8,2000008])<|Mv rfl<|aZ rfl (fun _=>aC underlying22 _ _ _ _) rfl rfl<|Bnb false rfl rfl (fun _=>aP _ _ _) (decide_eq_false h1)<|Mv rfl<|Mv rfl<|aZ rfl (fun _=>aC underlying22 _ _ _ _) rfl rfl<|Bnb true rfl rfl (fun _=>aP _ _ _) (decide_eq_true h2)<|Pk rfl rfl rfl<|aa<|bf rfl<|ae (E:=EE [8,2000008])<|Asg rfl<|aa<|aq<|Rr<|?_
  exact aQ rfl rfl (fun w hw=>⟨rfl,ac hw⟩)
 by_cases hb:Xm.FBad msg dst 2
 ·obtain ⟨p,hp,hc⟩:=hH.bad _ _ hb
  have hin:E2w.times p.P ORD=none:=by rw[hp];exact E2w.times_none ORD
  have hK:E2w.jr (ze2,ze2,ze2) p.P:=by rw[hp];rfl
  refine Hd func3 rfl hGF<|ae (E:=EE [8,2000008])<|Asg rfl<|aa<|ah<|ae (E:=EE [8,2000008])<|Ca rfl (lK hH hSu)<|bT rfl (fun _=>bI _) rfl rfl<|aa<|aV rfl<|au<|ah<|ae (E:=EE [8,2000008])<|Mv rfl<|aZ rfl (fun _=>aC underlying22 _ _ _ _) rfl rfl<|Bnb false rfl rfl (fun _=>aP _ _ _) (decide_eq_false h1)<|Mv rfl<|Mv rfl<|aZ rfl (fun _=>aC underlying22 _ _ _ _) rfl rfl<|Bnb false rfl rfl (fun _=>aP _ _ _) (decide_eq_false h2)<|Pk rfl rfl rfl<|aa<|aV rfl<|au<|ae (E:=EE [8,2000008])<|Mv rfl<|Mv rfl<|Cc rfl ent6 (fun w' hC hG=>hc a1 cap1 a2 cap2 w' (by omega) hc1 (by omega) hc2 hG (hb1.grow (ac hC)) (hb2.grow (ac hC)))<|Mv rfl<|Ext rfl rfl<|Ext rfl rfl<|Al 5 hGF zv31<|fun b5=>Sa 5 hGF rfl rfl rfl dj<|Asg rfl<|aa<|ae (E:=EE [8,2000008])<|?_
  refine bx rfl rfl ent8 rfl rfl (fun w' hw'=>(Sh.nJ w' (hGF.g _ _ _ hw')).mono fun e' w'' h=> ?_)
  obtain ⟨bm,rfl,hg,h1,ho⟩:=h
  refine ⟨_,_,rfl,az hGF,hw'.news ao hg [(34,bm,Sh.MK.map U32,77)] ?_ bH,bB ao rfl, ?_⟩
  ·intro n' b' c' t' hl
   rcases aH hl with ⟨_,e⟩|⟨_,hl⟩
   ·cases e;exact ⟨h1,ho⟩
   ·cases hl
  clear hw' hg h1 ho
  refine Mv rfl<|Mv rfl<|Cc rfl ent7 (fun w' hC hG=>xo bm a1 cap1 msg a2 cap2 dst w' hG (hC.own 34 _ _ _ rfl).1 (hb1.grow (ac hC)) (hb2.grow (ac hC)) hb)<|Mv rfl<|Ext rfl rfl<|Ext rfl rfl<|Al 7 hGF zv41<|fun b7=>Sa 7 hGF rfl rfl rfl gT<|Asg rfl<|aa<|Xd [8,2000008]<|Mv rfl<|Mv rfl<|Bnb true rfl rfl (fun _=>kS _ _ _) (rfl)<|Mv rfl<|La 5 rfl rfl dj<|Ca rfl (BA _)<|La 7 rfl rfl gT<|Ca rfl (M6 p _ hK)<|Pk rfl rfl rfl<|Mv rfl<|La 5 rfl rfl dj<|Cbl true rfl ent11 (kQ _) (decide_eq_true hin)<|Pk rfl rfl rfl<|Asg rfl<|aa<|aq<|Rr<|?_
  exact aQ rfl rfl (fun w hw=>⟨rfl,ac hw⟩)
 ·obtain ⟨A,B,h⟩:=yI msg dst
  obtain ⟨p,hp,hc⟩:=hH.ok _ _ _ _ hb h
  have hin:E2w.times p.P ORD=none:=L7 (tp h) hp
  have hK:E2w.jr (RHf A B) p.P:=G0 h hp
  clear hp
  refine Hd func3 rfl hGF<|ae (E:=EE [8,2000008])<|Asg rfl<|aa<|ah<|ae (E:=EE [8,2000008])<|Ca rfl (lK hH hSu)<|bT rfl (fun _=>bI _) rfl rfl<|aa<|aV rfl<|au<|ah<|ae (E:=EE [8,2000008])<|Mv rfl<|aZ rfl (fun _=>aC underlying22 _ _ _ _) rfl rfl<|Bnb false rfl rfl (fun _=>aP _ _ _) (decide_eq_false h1)<|Mv rfl<|Mv rfl<|aZ rfl (fun _=>aC underlying22 _ _ _ _) rfl rfl<|Bnb false rfl rfl (fun _=>aP _ _ _) (decide_eq_false h2)<|Pk rfl rfl rfl<|aa<|aV rfl<|au<|ae (E:=EE [8,2000008])<|Mv rfl<|Mv rfl<|Cc rfl ent6 (fun w' hC hG=>hc a1 cap1 a2 cap2 w' (by omega) hc1 (by omega) hc2 hG (hb1.grow (ac hC)) (hb2.grow (ac hC)))<|Mv rfl<|Ext rfl rfl<|Ext rfl rfl<|Al 5 hGF zv31<|fun b5=>Sa 5 hGF rfl rfl rfl dj<|Asg rfl<|aa<|ae (E:=EE [8,2000008])<|?_
  refine bx rfl rfl ent8 rfl rfl (fun w' hw'=>(Sh.nJ w' (hGF.g _ _ _ hw')).mono fun e' w'' h=> ?_)
  obtain ⟨bm,rfl,hg,h1,ho⟩:=h
  refine ⟨_,_,rfl,az hGF,hw'.news ao hg [(34,bm,Sh.MK.map U32,77)] ?_ bH,bB ao rfl, ?_⟩
  ·intro n' b' c' t' hl
   rcases aH hl with ⟨_,e⟩|⟨_,hl⟩
   ·cases e;exact ⟨h1,ho⟩
   ·cases hl
  clear hw' hg h1 ho
  refine Mv rfl<|Mv rfl<|Cc rfl ent7 (fun w' hC hG=>yx bm a1 cap1 msg a2 cap2 dst w' hG (hC.own 34 _ _ _ rfl).1 (hb1.grow (ac hC)) (hb2.grow (ac hC)) hb h)<|Mv rfl<|Ext rfl rfl<|Ext rfl rfl<|Al 7 hGF zv41<|fun b7=>Sa 7 hGF rfl rfl rfl gT<|Asg rfl<|aa<|Xd [8,2000008]<|Mv rfl<|Mv rfl<|Bnb true rfl rfl (fun _=>kS _ _ _) (rfl)<|Mv rfl<|La 5 rfl rfl dj<|Ca rfl (BA _)<|La 7 rfl rfl gT<|Ca rfl (M6 p _ hK)<|Pk rfl rfl rfl<|Mv rfl<|La 5 rfl rfl dj<|Cbl true rfl ent11 (kQ _) (decide_eq_true hin)<|Pk rfl rfl rfl<|Asg rfl<|aa<|aq<|Rr<|?_
  exact aQ rfl rfl (fun w hw=>⟨rfl,ac hw⟩)
end
section
open Go.RowKit
attribute [local simp] bp bQ aI aB bj bc aX aW bv PLl eK eI N1l eP eU eW bJ bV bY bX cH eT cb cw f7
theorem ent24:am Tryz.prog 24:=fun _ _=>by kernel_rfl
theorem ent57:am Tryz.prog 57:=fun _ _=>by kernel_rfl
theorem ent25:am Tryz.prog 25:=fun _ _=>by kernel_rfl
theorem IJ  :Pure Tryz.prog Gt 22 [] (.string SUb):=by
 intro w hw
 refine Hf func22 rfl hw<|fun hGF=>Xp<|Asg rfl<|aa<|Xp<|Asg rfl<|aa<|aq<|Rr<|?_
 exact aQ rfl rfl (fun w hw=>⟨rfl,ac hw⟩)
theorem Ks(p q:GP)(hq:DC p HBs=q)(b cap:Nat)(w:World)(hw:Gt w)(h:w.rangeAt b 0 (HBs.map U8)):Calls Tryz.prog 15 [PtV p,.slice (some ⟨b,0,none⟩) HBs.length cap].toArray w (fun r w'=>r=.returned (PtV q)∧Grow w w'):=by
 subst hq
 exact Mn p _ cap HBs (by decide) w hw (BytesAt.range h)
def gCl(p:GP):GP:=DC p HBs
theorem Jd(p:GP)(bs:List (BitVec 8)):(DC p bs).P=E2w.times p.P (BN bs bs.length):=rfl
theorem Ko(p:GP):(gCl p).P=E2w.times p.P HEF:=by rw[gCl,Jd,FR]
theorem Hy(p:GP):Pure Tryz.prog Gt 16 [PtV p] (PtV (gCl p)):=by
 intro w hw
 refine Hf func16 rfl hw<|fun hGF=>ae (E:=EE [1000022])<|Bx 1 hGF rfl<|fun b1=>Al 2 hGF zv31<|fun b2=>aa<|ae (E:=EE [1000022])<|La 1 rfl rfl dj<|dX 4 HBs hGF rfl rfl rfl (by decide) (by decide) underlying22 sizeOf5 zeroValue5 rfl rfl<|fun b4=>tg 4 rfl hGF rfl rfl underlying22 underlying5 rfl rfl<|Cc rfl ent15 (fun w' hC hG=>Ks p (gCl p) rfl _ _ w' hG (aU (n:=4) rfl w' hC))<|Sa 2 hGF rfl rfl rfl dj<|aa<|aq<|Rr<|?_
 exact aw 2 rfl rfl rfl isAgg31 sizeOf31 (by simp) (fun w hw=>⟨rfl,ac hw⟩)
def PE2(f:Nat→W2):List (List Value):=(List.range 2).map fun (k:Nat)=>[EV2 (f k)]
theorem o5(f:Nat→W2):(PE2 f).length=2:=by rw[PE2,List.length_map,List.length_range]
theorem uM(f:Nat→W2)(k:Nat)(h:k<2):(PE2 f)[k]? =some [EV2 (f k)]:=by
 rw[PE2,List.getElem?_map,List.getElem?_range h];rfl
theorem JG(f:Nat→W2)(k:Nat)(v:List Value)(h:(PE2 f)[k]? =some v):k<2∧v=[EV2 (f k)]:=by
 have hk:k<2:=by
  rcases Nat.lt_or_ge k 2 with hk|hk
  ·exact hk
  ·rw[List.getElem?_eq_none (by rw[o5];exact hk)]at h;cases h
 exact ⟨hk,(Option.some.inj ((uM f k hk).symm.trans h)).symm⟩
def RdE(bb b cap:Nat)(f:Nat→W2):Cls:=fun w=>w.cell? ⟨bb,0,none⟩=some (.slice (some ⟨b,0,none⟩) 2 cap)∧w.rangeAt b 0 ((RW 12 (RPr f) 2).map U64)
theorem Ak(bb b cap:Nat)(f:Nat→W2):iI Tryz.prog Gt 57 [.pointer (some ⟨bb,0,none⟩)] (PE2 f) (RdE bb b cap f):=by
 intro l J Jx hJ hJx hRd hGx hY w hj
 have okJ: ∀k,BOk Gt (Bi w (fun Y=>J Y k)):=fun k=>⟨fun _ _ _ h=>(hRd _ _ _ h.rid).1,hJ k⟩
 have okX: ∀k,BOk Gt (Bi w (fun Y=>Jx Y k)):=fun k=>⟨fun _ _ _ h=>hGx _ _ _ h.rid,hJx k⟩
 have c1: ∀k L w',Hp (Bi w (fun Y=>J Y k)) L w'→RdE bb b cap f w':=fun k L w' h=>(hRd _ _ _ h.rid).2
 refine cN (G:=Gt) func57 rfl rfl (Hp (Bi w (fun Y=>J Y 0)) []) (cP (Bi w _) hj (hJ 0)) (az (okJ 0))<|Xp<|bC rfl isAgg101 (fun w h=>(c1 _ _ w h).1) rfl rfl<|aZ rfl (fun _=>aC underlying101 _ _ _ _) rfl rfl<|Mv rfl<|aa<|ai<|jk (ι:={i:Nat // i≤2}) (fun y=>[(0,.func (.yield l) #[] #[]),(1,.pointer (some ⟨bb,0,none⟩)),(5,.slice (some ⟨b,0,none⟩) 2 cap),(6,I ((2:Nat):Int)),(7,I (y.1:Int))]) (fun y=>Bi w (fun Y=>J Y y.1)) (fun y=>[]) (fun y=>2-y.1) ⟨0,Nat.zero_le _⟩ (fun _=>okJ _) rfl ⟨rfl,rfl,rfl,rfl,rfl,trivial⟩ trivial<|?_
 rintro ⟨i,hi⟩
 dsimp only
 refine Xp<|Bnr rfl rfl (fun _=>av _ _ _)<|aa<|ah<|?_
 refine ba rfl (fun hc=> ?_) (fun hc=> ?_)
 ·have hi2:i<2:=by simp at hc;omega
  refine au<|ah<|ai<|Xp<|mW (s:=12) i rfl rfl underlying101 sizeOf29 (by omega) (by omega) rfl rfl<|dB (cs:=(fe (f i).1++fe (f i).2).map U64) rfl isAgg29 sizeOf29 (by simp) (fun w h=>kC (c1 _ _ w h).2 (by omega) (cw _ _)) rfl rfl<|Al 4 (okJ _) zv29<|fun b4=>Sa 4 (okJ _) rfl rfl rfl a9<|aa<|Xp<|Mv rfl<|La 4 rfl rfl a9<|?_
  refine eB (hY.b (k:=i) (uM f i (by omega)) w) (okJ _) (okX _) rfl rfl rfl rfl rfl ?_ ?_
  ·refine bT rfl (fun _=>bI _) rfl rfl<|aa<|aV rfl<|au<|Xq<|Bnr rfl rfl (fun _=>ap _ _ _ (by unfold inI;omega))<|Mv rfl<|aa<|?_
   repeat (refine aJ ?_)
   exact aA<|⟨rfl,⟨i+1,by omega⟩,_,by show 2-(i+1)<2-i;omega,rfl,⟨rfl,rfl,rfl,rfl,rfl,trivial⟩,trivial⟩
  ·refine bT rfl (fun _=>bI _) rfl rfl<|aa<|bf rfl<|aq<|Rr<|?_
   repeat (first|refine eV ?_|refine dw ?_|refine fP rfl ?_|refine ck ?_|refine cn ?_)
   exact fK rfl (fun w hw=>⟨⟨_,rfl⟩,.inr ⟨_,cf (hJx _) hw.rid⟩⟩)
 ·obtain rfl:i=2:=by simp at hc;omega
  refine aM ?_
  repeat (first|refine eV ?_|refine dw ?_|refine fP rfl ?_|refine ck ?_|refine cn ?_)
  refine cT rfl (fun w hw=>⟨⟨_,rfl⟩,.inl ?_⟩)
  have:=cf (hJ _) hw.rid
  rw[o5]
  exact this
theorem GC{u:W2}{A:W2×W2}(h:SwA u A): ∃p:GP,p.P=some A∧Pure Tryz.prog Gt 59 [EV2 u] (PtV p):=by
 obtain ⟨x,r,s,rfl⟩:=h
 exact ⟨_,rfl,pmap s⟩
def gS(p:Nat→GP):Nat→GP
 |0=>rO
 |k+1=>Ow (gS p k) (p k)
theorem gS_P{p:Nat→GP}{A B:W2×W2}(h0:(p 0).P=some A)(h1:(p 1).P=some B):(gS p 2).P=E2w.ad (some A) (some B):=by
 show E2w.ad (E2w.ad none (p 0).P) (p 1).P=_
 rw[h0,h1];rfl
theorem DE(msg dst:List (BitVec 8))(hbad:Xm.FBad msg dst 2)(a1:Option Addr)(cap1:Nat)(a2:Option Addr)(cap2:Nat)(w:World)(hl1:msg.length≤65600)(hc1:msg.length≤cap1)(hl2:dst.length≤1000)(hc2:dst.length≤cap2)(hw:Gt w)(hb1:BytesAt w a1 msg)(hb2:BytesAt w a2 dst):Calls Tryz.prog 24 [.slice a1 msg.length cap1,.slice a2 dst.length cap2].toArray w (fun e w'=>e=.returned (.tuple #[.nilFunc,I 130])∧Grow w w'):=by
 refine Hf func24 rfl hw<|fun hGF=>ae (E:=EE [56,2000056])<|Asg rfl<|Asg rfl<|aa<|ae (E:=EE [56,2000056])<|Mv rfl<|Mv rfl<|?_
 refine bx rfl rfl ent56 rfl rfl (fun w' hw'=>(Xm.pfc a1 cap1 msg a2 cap2 dst 2 w' (by omega) hc1 (by omega) hc2 (hGF.g _ _ _ hw') (hb1.grow (ac hw')) (hb2.grow (ac hw'))).mono fun e w'' h=> ?_)
 obtain ⟨v,rfl,hg,hq⟩:=h
 obtain rfl:=hq.bad hbad
 refine ⟨_,_,rfl,az hGF,hw'.grow ao hg,fun _ h=>h, ?_⟩
 clear hq hg hw'
 refine Mv rfl<|Ext rfl rfl<|Ext rfl rfl<|jE 6 hGF zeroValue101 rfl rfl<|fun b6=>gh 6 hGF rfl rfl rfl sizeOf101 rfl (by decide) rfl<|Asg rfl<|aa<|ah<|ae (E:=EE [56,2000056])<|Mv rfl<|Bnb true rfl rfl (fun _=>bK _ _ _) (rfl)<|aa<|bf rfl<|ae (E:=EE [56,2000056])<|Mv rfl<|Asg rfl<|Asg rfl<|aa<|aq<|Rr<|?_
 exact bL rfl rfl rfl (fun w hw=>⟨rfl,ac hw⟩)
theorem Jo(msg dst:List (BitVec 8))(hbad: ¬Xm.FBad msg dst 2)(a1:Option Addr)(cap1:Nat)(a2:Option Addr)(cap2:Nat)(w:World)(hl1:msg.length≤65600)(hc1:msg.length≤cap1)(hl2:dst.length≤1000)(hc2:dst.length≤cap2)(hw:Gt w)(hb1:BytesAt w a1 msg)(hb2:BytesAt w a2 dst):Calls Tryz.prog 24 [.slice a1 msg.length cap1,.slice a2 dst.length cap2].toArray w (fun e w'=> ∃b cap b1,e=.returned (.tuple #[.func (.func 57) #[] #[.pointer (some ⟨b1,0,none⟩)],I 0])∧Grow w w'∧w.heap.size≤b∧w'.rangeAt b 0 (U2c msg dst)∧w.heap.size≤b1∧w'.rangeAt b1 0 [.slice (some ⟨b,0,none⟩) 2 cap]):=by
 refine Hf func24 rfl hw<|fun hGF=>ae (E:=EE [56,2000056])<|Asg rfl<|Asg rfl<|aa<|ae (E:=EE [56,2000056])<|Mv rfl<|Mv rfl<|?_
 refine bx rfl rfl ent56 rfl rfl (fun w' hw'=>(Xm.pfc a1 cap1 msg a2 cap2 dst 2 w' (by omega) hc1 (by omega) hc2 (hGF.g _ _ _ hw') (hb1.grow (ac hw')) (hb2.grow (ac hw'))).mono fun e w'' h=> ?_)
 obtain ⟨v,rfl,hg,hq⟩:=h
 obtain ⟨b,cap,rfl,hbs,hbr⟩:=n4 hq hbad
 refine ⟨_,_,rfl,az (jI hGF),y1 hw' ao hg hbs (tO hbr) hbr,fun _ h=>gu h, ?_⟩
 have hbs0:w.heap.size≤b:=Nat.le_trans (ac hw').size hbs
 clear hq hg hw' hbs hbr
 refine Mv rfl<|Ext rfl rfl<|Ext rfl rfl<|jE 6 (jI hGF) zeroValue101 rfl rfl<|fun b6=>gh 6 (jI hGF) rfl rfl rfl sizeOf101 rfl (by decide) rfl<|Asg rfl<|aa<|ah<|ae (E:=EE [56,2000056])<|Mv rfl<|Bnb false rfl rfl (fun _=>bK _ _ _) (rfl)<|aa<|aV rfl<|au<|ae (E:=EE [56,2000056])<|iY rfl rfl rfl rfl<|Asg rfl<|Asg rfl<|aa<|aq<|Rr<|?_
 exact bL rfl rfl rfl (fun w hw=>⟨b,cap,b6,rfl,hbl hw,hbs0,sf hw,(hw.own 6 b6 _ _ rfl).2.elim id False.elim,(hw.own 6 b6 _ _ rfl).1.range⟩)
theorem wO(f:Nat→W2)(p:Nat→GP)(hm0: ∀k,k<2→Pure Tryz.prog Gt 59 [EV2 (f k)] (PtV (p k)))(b1 b cap:Nat)(w:World)(hw:Gt w)(hRs: ∀w',Grow w w'→RdE b1 b cap f w'):
 Calls Tryz.prog 25 [.func (.func 57) #[] #[.pointer (some ⟨b1,0,none⟩)]].toArray w (fun r w'=>r=.returned (PtV (gS p 2))∧Grow w w'):=by
 have hGF:BOk Gt (pl w):=gt_low.plain hw
 refine el (G:=Gt) func25 rfl rfl (Hp (pl w) []) (cP (pl w) trivial ao) (az hGF)<|Xp<|Al 2 hGF zv31<|fun b2=>aa<|Xp<|Al 3 hGF zv31<|fun b3=>aa<|ah<|Xp<|Mv rfl<|aa<|ai<|?_
 refine iS (fun _=>pl w) (fun _ _=>pl w) (fun _=>hGF) (fun _ _=>hGF) (fun _=>rfl) (fun _ _=>rfl) rfl rfl ent57 (Ak b1 b cap f) (fun x hx=>by obtain ⟨k,hk,rfl⟩:=List.mem_map.1 hx;rfl) rfl (fun k=>[(2,b2,(GL (rO)).map U64,31),(3,b3,(GL (gS p k)).map U64,31)]) (fun _ _ _=>False) ⟨rfl,rfl,trivial⟩ (fun k _ w' h=>hRs w' (h.below (fun _ h=>h))) ?_ ?_ (fun _ _ _ _ _ h=>h.elim)
 ·intro k v hx R hR
  obtain ⟨hk,rfl⟩:=JG f k v hx
  have hm:=hm0 k hk
  refine Xq<|eM 4 (hR (pl w) rfl hGF).1 zv29 rfl rfl<|fun b4=>aF 4 (hR (pl w) rfl hGF).1 rfl rfl rfl sizeOf29 (by simp) (by simp) (bq _) rfl<|aa<|?_
  refine ⟨rfl,_,rfl, ?_⟩
  refine ai<|Xe []<|La 3 rfl rfl dj<|La 4 rfl rfl a9<|Ca rfl (hm)<|Ca rfl (NT _ _)<|aF 3 (hR (pl w) rfl hGF).2.1 rfl rfl rfl sizeOf31 (by simp) (by simp) (bq _) rfl<|aa<|?_
  repeat (refine aJ ?_)
  exact ⟨_,rfl,⟨rfl,rfl,trivial⟩⟩
 ·intro D hD
  rw[o5]
  refine Xp<|La 3 rfl rfl dj<|Sa 2 hD rfl rfl rfl dj<|aa<|aq<|Rr<|?_
  exact i4 (.inl rfl) ao (aw 2 rfl rfl rfl isAgg31 sizeOf31 (by simp) (fun w hw=>⟨rfl,ac hw⟩))
theorem Jj{B:Bs}{L:Hl}{Y:Nat→Prop}{w w':World}{b d:Nat}{cs ds:List Value}(h:Hq B L Y w)(hr:Rides B.J)(hg:Grow w w')(hb:w.heap.size≤b)(hb':b<w'.heap.size)(hc:w'.rangeAt b 0 cs)(hd:w.heap.size≤d)(hd':d<w'.heap.size)(he:w'.rangeAt d 0 ds):Hq (pj (pj B b cs) d ds) L Y w':=by
 have k:=y1 h hr hg hb hb' hc
 refine ⟨k.os,k.tape,k.output,k.size,k.keep,k.own,k.inj,k.apart,k.high,k.lt,k.rid,fun e=> ?_,hd',he⟩
 rcases e with e|e
 ·have:=h.ownlt e;omega
 ·have:=h.lt _ e;omega
theorem JD{w w':World}{b1 b cap:Nat}{f:Nat→W2}(h1:w.rangeAt b1 0 [.slice (some ⟨b,0,none⟩) 2 cap])(h2:w.rangeAt b 0 ((RW 12 (RPr f) 2).map U64))(hg:Grow w w'):RdE b1 b cap f w':=⟨(jV h1 hg) 0 _ rfl,jV h2 hg⟩
theorem wW(msg dst:List (BitVec 8))(hbad:Xm.FBad msg dst 2)(a1:Option Addr)(cap1:Nat)(a2:Option Addr)(cap2:Nat)(w:World)(hl1:msg.length≤65600)(hc1:msg.length≤cap1)(hl2:dst.length≤1000)(hc2:dst.length≤cap2)(hw:Gt w)(hb1:BytesAt w a1 msg)(hb2:BytesAt w a2 dst):Calls Tryz.prog 6 [.slice a1 msg.length cap1,.slice a2 dst.length cap2].toArray w (fun e w'=>e=.returned (.tuple #[PtV rO,I 130])∧Grow w w'):=by
 refine Hf func6 rfl hw<|fun hGF=>ae (E:=EE [24,2000024])<|Al 4 hGF zv31<|fun b4=>Asg rfl<|aa<|ae (E:=EE [24,2000024])<|Mv rfl<|Mv rfl<|?_
 refine bx rfl rfl ent24 rfl rfl (fun w' hw'=>(DE msg dst hbad a1 cap1 a2 cap2 w' hl1 hc1 hl2 hc2 (hGF.g _ _ _ hw') (hb1.grow (ac hw')) (hb2.grow (ac hw'))).mono fun e w'' h=> ?_)
 obtain ⟨rfl,hg⟩:=h
 refine ⟨_,_,rfl,az hGF,hw'.grow ao hg,fun _ h=>h, ?_⟩
 clear hg hw'
 refine Mv rfl<|Ext rfl rfl<|Ext rfl rfl<|Asg rfl<|Asg rfl<|aa<|ah<|ae (E:=EE [24,2000024])<|Mv rfl<|Bnb true rfl rfl (fun _=>bK _ _ _) (rfl)<|aa<|bf rfl<|ae (E:=EE [24,2000024])<|kR vT rfl rfl<|Mv rfl<|Sa 4 hGF rfl rfl rfl dj<|Asg rfl<|aa<|aq<|Rr<|?_
 exact bG 4 rfl rfl rfl rfl isAgg31 sizeOf31 (by simp) (fun w hw=>⟨rfl,ac hw⟩)
theorem Cf(msg dst:List (BitVec 8))(hbad: ¬Xm.FBad msg dst 2)(p:Nat→GP)(hm0: ∀k,k<2→Pure Tryz.prog Gt 59 [EV2 (U2n msg dst k)] (PtV (p k)))(a1:Option Addr)(cap1:Nat)(a2:Option Addr)(cap2:Nat)(w:World)(hl1:msg.length≤65600)(hc1:msg.length≤cap1)(hl2:dst.length≤1000)(hc2:dst.length≤cap2)(hw:Gt w)(hb1:BytesAt w a1 msg)(hb2:BytesAt w a2 dst):Calls Tryz.prog 6 [.slice a1 msg.length cap1,.slice a2 dst.length cap2].toArray w (fun e w'=>e=.returned (.tuple #[PtV (gCl (gS p 2)),I 0])∧Grow w w'):=by
 refine Hf func6 rfl hw<|fun hGF=>ae (E:=EE [24,2000024])<|Al 4 hGF zv31<|fun b4=>Asg rfl<|aa<|ae (E:=EE [24,2000024])<|Mv rfl<|Mv rfl<|?_
 refine bx rfl rfl ent24 rfl rfl (fun w' hw'=>(Jo msg dst hbad a1 cap1 a2 cap2 w' hl1 hc1 hl2 hc2 (hGF.g _ _ _ hw') (hb1.grow (ac hw')) (hb2.grow (ac hw'))).mono fun e w'' h=> ?_)
 obtain ⟨b,cap,b1,rfl,hg,hbs,hbr,hds,hdr⟩:=h
 refine ⟨_,_,rfl,az (jI (jI hGF)),Jj hw' ao hg hbs (tO hbr) hbr hds (block_lt_of_cell (hdr 0 _ rfl)) hdr,fun _ h=>gu (gu h), ?_⟩
 clear hg hw' hbs hbr hds hdr
 refine Mv rfl<|Ext rfl rfl<|Ext rfl rfl<|Asg rfl<|Asg rfl<|aa<|ah<|ae (E:=EE [24,2000024])<|Mv rfl<|Bnb false rfl rfl (fun _=>bK _ _ _) (rfl)<|aa<|aV rfl<|au<|ae (E:=EE [24,2000024])<|Mv rfl<|Cc rfl ent25 (fun w' hC hG=>wO (U2n msg dst) p hm0 b1 b cap w' hG (fun w'' hg=>JD (sf hC) (sf (gu hC)) hg))<|Ca rfl (Hy _)<|Sa 4 (jI (jI hGF)) rfl rfl rfl dj<|Asg rfl<|aa<|aq<|Rr<|?_
 exact bG 4 rfl rfl rfl rfl isAgg31 sizeOf31 (by simp) (fun w hw=>⟨rfl,hbl hw⟩)
theorem phs:PHs:=by
 refine ⟨fun msg dst hb=>⟨rO,rfl,fun a1 cap1 a2 cap2 w=>wW msg dst hb a1 cap1 a2 cap2 w⟩,fun msg dst A B hb h=> ?_⟩
 obtain ⟨p0,e0,h0⟩:=GC h.s0
 obtain ⟨p1,e1,h1⟩:=GC h.s1
 refine ⟨gCl (gS (fun k=>if k=0 then p0 else p1) 2), ?_,fun a1 cap1 a2 cap2 w=>Cf msg dst hb _ (fun k hk=> ?_) a1 cap1 a2 cap2 w⟩
 ·rw[Ko,gS_P (A:=A) (B:=B) e0 e1]
 ·match k,hk with
  |0,_=>exact h0
  |1,_=>exact h1
end
end Go.Proofs.YtodgbdcjjhmnkaaGreatDoor
