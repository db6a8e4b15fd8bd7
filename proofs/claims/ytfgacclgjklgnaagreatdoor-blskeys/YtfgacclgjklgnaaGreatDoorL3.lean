/- L3 -/
import Derived.Test.YtfgacclgjklgnaaGreatDoorL2
set_option maxRecDepth 100000
set_option maxHeartbeats 1000000
namespace Go.Proofs.YtfgacclgjklgnaaGreatDoor
open Go.Proofs.Tryz
open Go.RowKit
attribute [local simp] a5 be aE aB aP aY aM aJ aH PLl cB cz N1l cD cC cE ba bj aZ a9 bd J1.bk J2.bk bH fh
def X1(bs:L8):Zp:=zp (BN (LO bs 0) 48)
def X2(bs:L8):W2:=(zp (BN (LO bs 48) 48),zp (BN (LO bs 0) 48))
def LB(bs:L8):Bool:=FG bs &&& 32#8 !=0#8
def NY{α:Type}(z:α)(inG:Option (α×α)->Prop)(l:Bool)(x y:α)(c:Int)(P:Option (α×α)):Prop:=
 ((l=true/\y=z)/\c=103/\P=none)\/(¬(l=true/\y=z)/\((¬inG (some (x,y))/\c=104/\P=none)\/(inG (some (x,y))/\c=0/\P=some (x,y))))
def FLG(bs:L8)(n:Nat){α:Type}(c:Int)(P:Option α)(R:Prop):Prop:=
 (¬bs.length=n/\c=100/\P=none)\/(bs.length=n/\((FG bs &&& 128#8=0#8/\c=101/\P=none)\/(¬FG bs &&& 128#8=0#8/\((¬FG bs &&& 64#8=0#8/\c=INF bs n/\P=none)\/(FG bs &&& 64#8=0#8/\R)))))
def D1(bs:L8)(c:Int)(P:Pt Zp):Prop:=FLG bs 48 c P ((¬BN (LO bs 0) 48<PP/\c=102/\P=none)\/(BN (LO bs 0) 48<PP/\
 ((¬J1.LQ (X1 bs)/\c=103/\P=none)\/(J1.LQ (X1 bs)/\NY 0 (λQ=>E1.times Q ORD=none) (LB bs) (X1 bs) (J1.LY (X1 bs) (LB bs)) c P))))
def D2(bs:L8)(c:Int)(P:Pt W2):Prop:=FLG bs 96 c P ((¬(BN (LO bs 48) 48<PP/\BN (LO bs 0) 48<PP)/\c=102/\P=none)\/((BN (LO bs 48) 48<PP/\BN (LO bs 0) 48<PP)/\
 ((¬J2.LQ (X2 bs)/\c=103/\P=none)\/(∃r,ml2 r r=J2.RS4 (X2 bs)/\LG2 r=false/\NY ze2 (λQ=>E2w.times Q ORD=none) (LB bs) (X2 bs) (J2.sgY r (LB bs)) c P))))
theorem Vl{α:Type}(z:α)(inG:Option (α×α)->Prop)(l:Bool)(x y:α): ∃c P,NY z inG l x y c P:=by
 by_cases h:l=true/\y=z
 ·exact ⟨103,none,.inl ⟨h,rfl,rfl⟩⟩
 ·by_cases g:inG (some (x,y))
  ·exact ⟨0,_,.inr ⟨h,.inr ⟨g,rfl,rfl⟩⟩⟩
  ·exact ⟨104,none,.inr ⟨h,.inl ⟨g,rfl,rfl⟩⟩⟩
theorem Rk(bs:L8)(n:Nat){α:Type}(R:Int->Option α->Prop)(hR: ∃c P,R c P): ∃c P,FLG bs n c P (R c P):=by
 by_cases h:bs.length=n
 ·by_cases f:FG bs &&& 128#8=0#8
  ·exact ⟨101,none,.inr ⟨h,.inl ⟨f,rfl,rfl⟩⟩⟩
  ·by_cases s:FG bs &&& 64#8=0#8
   ·obtain ⟨c,P,r⟩:=hR
    exact ⟨c,P,.inr ⟨h,.inr ⟨f,.inr ⟨s,r⟩⟩⟩⟩
   ·exact ⟨_,none,.inr ⟨h,.inr ⟨f,.inl ⟨s,rfl,rfl⟩⟩⟩⟩
 ·exact ⟨100,none,.inl ⟨h,rfl,rfl⟩⟩
theorem Wc(bs:L8): ∃c P,D1 bs c P:=by
 refine Rk bs 48 (λc P=>_) ?_;by_cases h:BN (LO bs 0) 48<PP
 ·by_cases q:J1.LQ (X1 bs)
  ·obtain ⟨c,P,r⟩:=Vl 0 (λQ=>E1.times Q ORD=none) (LB bs) (X1 bs) (J1.LY (X1 bs) (LB bs))
   exact ⟨c,P,.inr ⟨h,.inr ⟨q,r⟩⟩⟩
  ·exact ⟨103,none,.inr ⟨h,.inl ⟨q,rfl,rfl⟩⟩⟩
 ·exact ⟨102,none,.inl ⟨h,rfl,rfl⟩⟩
theorem yz1{y:Zp}:((y,0):W2)=ze2↔y=0:=⟨λh=>congrArg Prod.fst h,λh=>by rw[h];rfl⟩
theorem OP{x y:Zp}(h:E1.onP (some (x,y)))(bs:L8)(n m:Nat)(hm:BN bs n=m):decide ((RMJ ((x,0),(y,0),on2) bs (8*n)).2.2=ze2)=decide (E1.times (some (x,y)) m=none):=J1.wm (P:=some (x,y)) h bs n m hm
theorem Ur{x y:Zp}(h:E1.onP (some (x,y))):decide ((RMJ ((x,0),(y,0),on2) ORB (8*32)).2.2=ze2)=decide (E1.times (some (x,y)) ORD=none):=OP h ORB 32 ORD Yh
def RDC(e:Option Addr)(cap:Nat)(bs:L8)(b:Bool)(x:W6)(c:Int)(w:World):Prop:=CLS 30 [.slice e bs.length cap,.bool b].toArray w (λr w'=>r=.returned (.tuple #[EV6 x,I c])/\Grow w w')
theorem ny4{l:Bool}{Y C D:Prop}(h:((l=true/\Y)/\C)\/(¬(l=true/\Y)/\D)):(l=true/\Y/\C)\/(l=true/\¬Y/\D)\/(l=false/\Y/\D)\/(l=false/\¬Y/\D):=by
 rcases h with ⟨⟨a,y⟩,c⟩|⟨h,d⟩
 ·exact .inl ⟨a,y,c⟩
 ·by_cases y:Y
  ·cases l with
   |true=>exact absurd ⟨rfl,y⟩ h
   |false=>exact .inr (.inr (.inl ⟨rfl,y,d⟩))
  ·cases l with
   |true=>exact .inr (.inl ⟨rfl,y,d⟩)
   |false=>exact .inr (.inr (.inr ⟨rfl,y,d⟩))
theorem GQ(e:Option Addr)(cap:Nat)(bs:L8)(c:Int)(P:Pt Zp)(h:D1 bs c P)(w:World)(hw:Gt w)(hby:BytesAt w e bs):RDC e cap bs false (RJ P) c w:=by
 refine Hf func30 O hw<|λhGF=>Xp<|Al 4 hGF zv43<|λb4=>Asg O<|aa<|Xp<|Asg O<|aa<|ah<|Xp<|Mv O<|aa<|aw O<|aq<|ah<|Xp<|Mv O<|bD O (λ_=>aV underlying22 _ _ _ _) O O<|Mv O<|?_;rcases h with ⟨h48,rfl,rfl⟩|⟨h48,h⟩
 ·refine Bnb true O O (λ_=>bt _ _ _) (bne_iff_ne.2 om)<|aa<|aL O<|Xp<|bY dM O O<|Sa 4 hGF O O O dz<|Asg O<|aa<|ak<|Rr<|?_
  exact aG 4 O O O O isAgg43 sizeOf43 sm (λw hw=>⟨rfl,ac hw⟩)
 ·refine Bnb false O O (λ_=>bt _ _ _) (bne_eq_false_iff_eq.2 om)<|aa<|aw O<|aq<|Xp<|Mv O<|?_
  obtain ⟨ad,rfl,_⟩:=hby 0 _ (gm U8 bs 0 0 om);refine ek 0 O O underlying22 sizeOf5 O om O O<|bp O isAgg5 (λw' h=>by obtain ⟨ad',e,hc⟩:=(hby.grow (ac h)) 0 _ (gm U8 bs 0 0 om);cases e;exact hc) O O<|Bnr (v:=U8 (FG bs)) O O (λ_=>bC _ _ 224#8)<|Asg O<|aa<|Xp<|Mv O<|?_
  refine nQ (xs:=[]) (ys:=bs) 7 hGF O O underlying22 underlying22 ti5 (.inl ⟨rfl,rfl,rfl⟩) (λw' h=>hby.grow (ac h)) (by simp;omega) O O (λh0=>absurd (congrArg List.length h0) (by show¬bs.length=0;omega)) (λb7 c7 k7 q1 q2 q3=> ?_)
  have q0:bs.length<=c7.length:=by rw[q1];exact q2
  refine Asg O<|aa<|Xp<|Mv O<|Mv O<|ek 0 O O underlying22 sizeOf5 O (by show 0<bs.length;omega) O O<|bp (v:=U8 (bs.getD 0 0)) O isAgg5 (λw' h=>cp (n:=7) O (Bc (xs:=bs) q3 0 om) w' h) O O<|Bnr (v:=U8 (bs.getD 0 0 &&& 31#8)) O O (λ_=>bC _ _ 31#8)<|ek 0 O O underlying22 sizeOf5 O (by show 0<bs.length;omega) O O<|da 7 hGF O O O sizeOf5 O (by show 0<c7.length;omega) O<|aa<|ah<|Xp<|Mv O<|Bnr (v:=U8 (FG bs &&& 128#8)) O O (λ_=>bC _ _ 128#8)<|?_
  rcases h with ⟨hf,rfl,rfl⟩|⟨hf,h⟩
  ·refine Bnb true O O (λ_=>cH _ _ 0#8) (beq_iff_eq.2 hf)<|aa<|aL O<|Xp<|bY dM O O<|Sa 4 hGF O O O dz<|Asg O<|aa<|ak<|Rr<|?_
   exact aG 4 O O O O isAgg43 sizeOf43 sm (λw hw=>⟨rfl,ac hw⟩)
  ·refine Bnb false O O (λ_=>cH _ _ 0#8) (beq_eq_false_iff_ne.2 hf)<|aa<|aw O<|aq<|ah<|Xp<|Mv O<|Bnr (v:=U8 (FG bs &&& 64#8)) O O (λ_=>bC _ _ 64#8)<|?_
   rcases h with ⟨h6,rfl,rfl⟩|⟨h6,h⟩
   ·refine Bnb true O O (λ_=>bI _ _ 0#8) (bne_iff_ne.2 h6)<|aa<|aL O<|ah<|Xp<|Asg O<|aa<|am<|cb (ι:={i:Nat // i<=48/\∀j,j<i->(MK bs).getD j 0=0#8/\FG bs &&& 32#8=0#8}) (λy=>[(4,pnt b4),(6,I 48),(7,U8 (FG bs)),(8,.slice (spt b7) ([]++bs).length k7),(9,I (y.1:Int))]) (λy=>[(4,b4,((fe 0++fe 0)++((fe 0++fe 0)++(fe 0++fe 0))).map U64,43),(7,b7,c7.set 0 (U8 (bs.getD 0 0 &&& 31#8)),5)]) (λy=>48-y.1) ⟨0,Nat.zero_le _,λ_ h=>absurd h (Nat.not_lt_zero _)⟩ hGF trv trv<|?_
    rintro ⟨i,hi,hall⟩;dsimp only;by_cases hz:(MK bs).getD i 0=0#8
    ·by_cases h2:FG bs &&& 32#8=0#8
     ·refine ah<|Xp<|Mv O<|Mv O<|Bnr O O (λ_=>aC _ _ _)<|aa<|?_
      refine bE O (λhc=> ?_) (λhc=> ?_)
      ·have hi2:i<48:=by simp at hc;omega
       refine aq<|ah<|am<|Xp<|Mv O<|Mv O<|ek i O O underlying22 sizeOf5 O (by show i<bs.length;omega) O O<|bp (v:=U8 ((MK bs).getD i 0)) O isAgg5 (λw' h=>by rw[Addr.add_mid,Nat.zero_add];exact cp (n:=7) O (Bc (xs:=MK bs) (tK q3) i (by rw[bH];omega)) w' h) O O<|Bnb false O O (λ_=>bI _ _ 0#8) (bne_eq_false_iff_eq.2 hz)<|Mv O<|Mv O<|Bnr (v:=U8 (FG bs &&& 32#8)) O O (λ_=>bC _ _ 32#8)<|Bnb false O O (λ_=>bI _ _ 0#8) (bne_eq_false_iff_eq.2 h2)<|Pk O O O<|aa<|aw O<|aq<|Xq<|Mv O<|Bnr O O (λ_=>az _ _ _ oi)<|Asg O<|aa<|?_
       repeat (refine aW ?_)
       refine aQ ?_;have hall': ∀j,j<i+1->(MK bs).getD j 0=0#8/\FG bs &&& 32#8=0#8:=λj hj=>by
        rcases Nat.lt_or_ge j i with h|h
        ·exact hall j h
        ·obtain rfl:j=i:=om
         exact ⟨hz,h2⟩
       exact ⟨rfl,⟨i+1,om,hall'⟩,_,by show 48-(i+1)<48-i;omega,rfl,trv,trv⟩
      ·obtain rfl:i=48:=by simp at hc;omega
       refine a6<|Xp<|bY dM O O<|Sa 4 hGF O O O dz<|Asg O<|aa<|ak<|Rr<|?_;exact aG 4 O O O O isAgg43 sizeOf43 sm (λw hw=>⟨by rw[show INF bs 48=0 from if_pos ⟨λj hj=>(hall j hj).1,(hall 0 dc).2⟩];rfl,ac hw⟩)
     ·refine ah<|Xp<|Mv O<|Mv O<|Bnr O O (λ_=>aC _ _ _)<|aa<|?_
      refine bE O (λhc=> ?_) (λhc=> ?_)
      ·have hi2:i<48:=by simp at hc;omega
       refine aq<|ah<|am<|Xp<|Mv O<|Mv O<|ek i O O underlying22 sizeOf5 O (by show i<bs.length;omega) O O<|bp (v:=U8 ((MK bs).getD i 0)) O isAgg5 (λw' h=>by rw[Addr.add_mid,Nat.zero_add];exact cp (n:=7) O (Bc (xs:=MK bs) (tK q3) i (by rw[bH];omega)) w' h) O O<|Bnb false O O (λ_=>bI _ _ 0#8) (bne_eq_false_iff_eq.2 hz)<|Mv O<|Mv O<|Bnr (v:=U8 (FG bs &&& 32#8)) O O (λ_=>bC _ _ 32#8)<|Bnb true O O (λ_=>bI _ _ 0#8) (bne_iff_ne.2 h2)<|Pk O O O<|aa<|aL O<|Xp<|bY dM O O<|Sa 4 hGF O O O dz<|Asg O<|aa<|ak<|Rr<|?_
       exact aG 4 O O O O isAgg43 sizeOf43 sm (λw hw=>⟨by rw[show INF bs 48=101 from if_neg (λh=>h2 h.2)];rfl,ac hw⟩)
      ·obtain rfl:i=48:=by simp at hc;omega
       refine a6<|Xp<|bY dM O O<|Sa 4 hGF O O O dz<|Asg O<|aa<|ak<|Rr<|?_;exact aG 4 O O O O isAgg43 sizeOf43 sm (λw hw=>⟨by rw[show INF bs 48=0 from if_pos ⟨λj hj=>(hall j hj).1,(hall 0 dc).2⟩];rfl,ac hw⟩)
    ·refine ah<|Xp<|Mv O<|Mv O<|Bnr O O (λ_=>aC _ _ _)<|aa<|?_
     refine bE O (λhc=> ?_) (λhc=> ?_)
     ·have hi2:i<48:=by simp at hc;omega
      refine aq<|ah<|am<|Xp<|Mv O<|Mv O<|ek i O O underlying22 sizeOf5 O (by show i<bs.length;omega) O O<|bp (v:=U8 ((MK bs).getD i 0)) O isAgg5 (λw' h=>by rw[Addr.add_mid,Nat.zero_add];exact cp (n:=7) O (Bc (xs:=MK bs) (tK q3) i (by rw[bH];omega)) w' h) O O<|Bnb true O O (λ_=>bI _ _ 0#8) (bne_iff_ne.2 hz)<|Mv O<|Sk<|Sk<|Sk<|Pk O O O<|aa<|aL O<|Xp<|bY dM O O<|Sa 4 hGF O O O dz<|Asg O<|aa<|ak<|Rr<|?_
      exact aG 4 O O O O isAgg43 sizeOf43 sm (λw hw=>⟨by rw[show INF bs 48=101 from if_neg (λh=>hz (h.1 i hi2))];rfl,ac hw⟩)
     ·obtain rfl:i=48:=by simp at hc;omega
      refine a6<|Xp<|bY dM O O<|Sa 4 hGF O O O dz<|Asg O<|aa<|ak<|Rr<|?_;exact aG 4 O O O O isAgg43 sizeOf43 sm (λw hw=>⟨by rw[show INF bs 48=0 from if_pos ⟨λj hj=>(hall j hj).1,(hall 0 dc).2⟩];rfl,ac hw⟩)
   ·refine Bnb false O O (λ_=>bI _ _ 0#8) (bne_eq_false_iff_eq.2 h6)<|aa<|aw O<|aq<|Xp<|Mv O<|Mv O<|Bnr (v:=I 0) O O (λ_=>bf _ _ _ oi)<|mF (l:=0) (h':=bs.length) O underlying22 sizeOf5 O O ⟨om,q2⟩ O O<|Cc O ent54 (λw' hC hG=>Dq b7 k7 _ _ 0 bs c7 q3 om om q2 w' hG (aX (n:=7) O w' hC))<|Mv O<|Ext O O<|Ext O O<|Al 10 hGF zv37<|λb10=>Sa 10 hGF O O O cg<|Asg O<|aa<|Xp<|fC zv37 underlying37 sizeOf24 O O<|Al 12 hGF zv37<|λb12=>Sw 12 hGF O O O cg List.length_replicate<|aa<|ah<|Xp<|Mv O<|aa<|aw O<|aq<|ah<|Xd []<|La 10 O O cg<|Ca O (gy)<|?_
    rcases h with ⟨hp,rfl,rfl⟩|⟨hp,h⟩
    ·refine Cbl false O ent65 (jO _ _ sm sm) (OO (gb (l:=0) om) hp)<|aU O (λ_=>aF _) O O<|Mv O<|Sk<|Sk<|Sk<|Sk<|Pk O O O<|aa<|aL O<|Xp<|bY dM O O<|Sa 4 hGF O O O dz<|Asg O<|aa<|ak<|Rr<|?_
     exact aG 4 O O O O isAgg43 sizeOf43 sm (λw hw=>⟨rfl,ac hw⟩)
    ·refine Cbl true O ent65 (jO _ _ sm sm) (QA (gb (l:=0) om) hp)<|aU O (λ_=>aF _) O O<|Mv O<|La 12 O O cg<|Ca O (gy)<|Cbl true O ent65 (jO _ _ sm sm) (TT)<|aU O (λ_=>aF _) O O<|Pk O O O<|aa<|aw O<|aq<|Xp<|La 10 O O cg<|La 12 O O cg<|?_
     rcases h with ⟨hq,rfl,rfl⟩|⟨hq,h⟩
     ·refine Ca O (NF (gb (l:=0) om) hp (x:=X1 bs) O)<|Mv O<|Bnr (v:=U8 (FG bs &&& 32#8)) O O (λ_=>bC _ _ 32#8)<|Bnr (v:=.bool (LB bs)) O O (λ_=>bI _ _ 0#8)<|Mv O<|Ca O (J1.wi (X1 bs) (LB bs) hq)<|Mv O<|Ext O O<|Ext O O<|Al 13 hGF zv43<|λb13=>Sa 13 hGF O O O dz<|Asg O<|aa<|ah<|Xp<|Mv O<|aU O (λ_=>aF _) O O<|Mv O<|Sk<|Sk<|Sk<|Sk<|Sk<|Sk<|Sk<|Sk<|Pk O O O<|aa<|aL O<|Xp<|bY dM O O<|Sa 4 hGF O O O dz<|Asg O<|aa<|ak<|Rr<|?_
      exact aG 4 O O O O isAgg43 sizeOf43 sm (λw hw=>⟨rfl,ac hw⟩)
     ·have hL:=J1.wM (X1 bs) (LB bs) hq
      have hg:=Ur (J1.HU hq (LB bs));generalize J1.LY (X1 bs) (LB bs)=y at h hL hg;refine Ca O (NF (gb (l:=0) om) hp (x:=X1 bs) O)<|Mv O<|Bnr (v:=U8 (FG bs &&& 32#8)) O O (λ_=>bC _ _ 32#8)<|Bnr (v:=.bool (LB bs)) O O (λ_=>bI _ _ 0#8)<|Mv O<|Ca O (hL)<|Mv O<|Ext O O<|Ext O O<|Al 13 hGF zv43<|λb13=>Sa 13 hGF O O O dz<|Asg O<|aa<|ah<|Xp<|Mv O<|aU O (λ_=>aF _) O O<|Mv O<|Fa 12 O underlying43 O sizeOf41<|av 13 _ O O isAgg41 sizeOf41 sm (kN sm) O O<|?_;rcases ny4 h with ⟨hb,hz,rfl,rfl⟩|⟨hb,hz,h⟩|⟨hb,hz,h⟩|⟨hb,hz,h⟩
      ·refine Cbl true O ent68 (kK _) (decide_eq_true (yz1.2 hz))<|Mv O<|Mv O<|Bnr (v:=U8 (FG bs &&& 32#8)) O O (λ_=>bC _ _ 32#8)<|Bnb true O O (λ_=>bI _ _ 0#8) (hb)<|Pk O O O<|Pk O O O<|aa<|aL O<|Xp<|bY dM O O<|Sa 4 hGF O O O dz<|Asg O<|aa<|ak<|Rr<|?_
       exact aG 4 O O O O isAgg43 sizeOf43 sm (λw hw=>⟨rfl,ac hw⟩)
      ·refine Cbl false O ent68 (kK _) (decide_eq_false (λk=>hz (yz1.1 k)))<|Mv O<|Sk<|Sk<|Sk<|Pk O O O<|Pk O O O<|aa<|aw O<|aq<|ah<|Xp<|La 13 O O dz<|?_
       rcases h with ⟨hq2,rfl,rfl⟩|⟨hq2,rfl,rfl⟩
       ·refine Cbl false O ent69 (ii _) (hg.trans (decide_eq_false hq2))<|aU O (λ_=>aF _) O O<|aa<|aL O<|Xp<|bY dM O O<|Sa 4 hGF O O O dz<|Asg O<|aa<|ak<|Rr<|?_
        exact aG 4 O O O O isAgg43 sizeOf43 sm (λw hw=>⟨rfl,ac hw⟩)
       ·refine Cbl true O ent69 (ii _) (hg.trans (decide_eq_true hq2))<|aU O (λ_=>aF _) O O<|aa<|aw O<|aq<|Xp<|La 13 O O dz<|Sa 4 hGF O O O dz<|Asg O<|aa<|ak<|Rr<|?_
        exact aG 4 O O O O isAgg43 sizeOf43 sm (λw hw=>⟨rfl,ac hw⟩)
      ·refine Cbl true O ent68 (kK _) (decide_eq_true (yz1.2 hz))<|Mv O<|Mv O<|Bnr (v:=U8 (FG bs &&& 32#8)) O O (λ_=>bC _ _ 32#8)<|Bnb false O O (λ_=>bI _ _ 0#8) (hb)<|Pk O O O<|Pk O O O<|aa<|aw O<|aq<|ah<|Xp<|La 13 O O dz<|?_
       rcases h with ⟨hq2,rfl,rfl⟩|⟨hq2,rfl,rfl⟩
       ·refine Cbl false O ent69 (ii _) (hg.trans (decide_eq_false hq2))<|aU O (λ_=>aF _) O O<|aa<|aL O<|Xp<|bY dM O O<|Sa 4 hGF O O O dz<|Asg O<|aa<|ak<|Rr<|?_
        exact aG 4 O O O O isAgg43 sizeOf43 sm (λw hw=>⟨rfl,ac hw⟩)
       ·refine Cbl true O ent69 (ii _) (hg.trans (decide_eq_true hq2))<|aU O (λ_=>aF _) O O<|aa<|aw O<|aq<|Xp<|La 13 O O dz<|Sa 4 hGF O O O dz<|Asg O<|aa<|ak<|Rr<|?_
        exact aG 4 O O O O isAgg43 sizeOf43 sm (λw hw=>⟨rfl,ac hw⟩)
      ·refine Cbl false O ent68 (kK _) (decide_eq_false (λk=>hz (yz1.1 k)))<|Mv O<|Sk<|Sk<|Sk<|Pk O O O<|Pk O O O<|aa<|aw O<|aq<|ah<|Xp<|La 13 O O dz<|?_
       rcases h with ⟨hq2,rfl,rfl⟩|⟨hq2,rfl,rfl⟩
       ·refine Cbl false O ent69 (ii _) (hg.trans (decide_eq_false hq2))<|aU O (λ_=>aF _) O O<|aa<|aL O<|Xp<|bY dM O O<|Sa 4 hGF O O O dz<|Asg O<|aa<|ak<|Rr<|?_
        exact aG 4 O O O O isAgg43 sizeOf43 sm (λw hw=>⟨rfl,ac hw⟩)
       ·refine Cbl true O ent69 (ii _) (hg.trans (decide_eq_true hq2))<|aU O (λ_=>aF _) O O<|aa<|aw O<|aq<|Xp<|La 13 O O dz<|Sa 4 hGF O O O dz<|Asg O<|aa<|ak<|Rr<|?_
        exact aG 4 O O O O isAgg43 sizeOf43 sm (λw hw=>⟨rfl,ac hw⟩)
theorem bv_a: ∀b:BitVec 8,b &&& 224#8=0#8->(b|||128#8) &&& 31#8=b/\((b|||128#8)|||32#8) &&& 31#8=b/\¬((b|||128#8) &&& 224#8) &&& 128#8=0#8/\¬(((b|||128#8)|||32#8) &&& 224#8) &&& 128#8=0#8/\((b|||128#8) &&& 224#8) &&& 64#8=0#8/\(((b|||128#8)|||32#8) &&& 224#8) &&& 64#8=0#8/\((b|||128#8) &&& 224#8) &&& 32#8=0#8/\¬(((b|||128#8)|||32#8) &&& 224#8) &&& 32#8=0#8:=by decide+kernel
def ENF(B:L8)(l:Bool):L8:=if l=true then OR0 (OR0 B 128#8) 32#8 else OR0 B 128#8
theorem UK(b:BitVec 8)(r:L8):MK (b::r)=(b &&& 31#8)::r:=rfl
theorem CU(b:BitVec 8)(r:L8):FG (b::r)=b &&& 224#8:=rfl
theorem A5(b:BitVec 8)(r:L8):ENF (b::r) true=((b|||128#8)|||32#8)::r:=rfl
theorem zM(b:BitVec 8)(r:L8):ENF (b::r) false=(b|||128#8)::r:=rfl
theorem o0(B:L8)(l:Bool):(ENF B l).length=B.length:=by
 cases l<;>simp[ENF,fh]
structure Top(B:L8):Prop where
 ne:0<B.length
 lt:B.getD 0 0 &&& 224#8=0#8
theorem BA{B:L8}(h:Top B)(l:Bool):MK (ENF B l)=B/\¬FG (ENF B l) &&& 128#8=0#8/\FG (ENF B l) &&& 64#8=0#8/\LB (ENF B l)=l:=by
 cases B with
 |nil=>exact absurd h.ne dc
 |cons b r=>
  obtain ⟨h1,h2,h3,h4,h5,h6,h7,h8⟩:=bv_a b h.lt
  cases l with
  |true=>exact ⟨by rw[A5,UK,h2],by rw[A5,CU];exact h4,by rw[A5,CU];exact h6,by rw[LB,A5,CU];exact bne_iff_ne.2 h8⟩
  |false=>exact ⟨by rw[zM,UK,h1],by rw[zM,CU];exact h3,by rw[zM,CU];exact h5,by rw[LB,zM,CU];exact bne_eq_false_iff_eq.2 h7⟩
theorem IN(bs:L8): ∀n,(bs.getD 0 0).toNat*256^n<=BN bs (n+1)
 |0=>by rw[BN,BN];omega
 |n+1=>by
  have:=IN bs n;rw[BN,Nat.pow_succ];generalize 256^n=p at*;generalize BN bs (n+1)=q at*;generalize (bs.getD 0 0).toNat=t at*;have:t*(p*256)=t*p*256:=by rw[Nat.mul_assoc]
  omega
theorem RY:PP<32*256^47:=by decide+kernel
theorem bv_t: ∀b:BitVec 8,b.toNat<32->b &&& 224#8=0#8:=by decide+kernel
theorem SB{bs:L8}(h:bs.length=48)(hl:BN bs 48<PP):Top bs:=by
 refine ⟨om,bv_t _ ?_⟩;have h1:=IN bs 47;have h2:=RY;generalize (bs.getD 0 0).toNat=t at*;have h3:t*256^47<32*256^47:=Nat.lt_of_le_of_lt h1 (Nat.lt_trans hl h2);exact Nat.lt_of_mul_lt_mul_right h3
theorem pF(x:Zp):BN (cM x) 48<PP:=by rw[AM];exact x.isLt
theorem vX(x:Zp):Top (cM x):=SB (aH x) (pF x)
theorem uL(x:Zp):zp (BN (cM x) 48)=x:=by
 rw[AM];exact Aw x
def EN1:Pt Zp->L8
 |none=>(List.replicate 48 0#8).set 0 192#8
 |some p=>ENF (cM p.1) (LG2 (p.2,0))
def EN2:Pt W2->L8
 |none=>(List.replicate 96 0#8).set 0 192#8
 |some p=>ENF (cM p.1.2++cM p.1.1) (LG2 p.2)
theorem Wq(y:Zp):ng2 (y,0)=(-y,0):=bz O (by show-(0:Zp)=0;exact z_n0')
theorem JK{y:Zp}(h:y≠0):LG2 (-y,0)= !LG2 (y,0):=by
 rw[<-Wq];exact po (λe=>h (yz1.1 e))
theorem Mt{x y:Zp}(h:y*y=J1.RS4 x):J1.LQ x:=by
 show SQr (J1.RS4 x)*SQr (J1.RS4 x)=J1.RS4 x;rw[<-h];exact xA y
theorem WX{x y:Zp}(h:y*y=J1.RS4 x):J1.LY x (LG2 (y,0))=y:=by
 have hq:=Mt h;have s:=Uj y;have sm:LG2 (SQ (J1.RS4 x),0)=false:=FA (jk hq);rw[h]at s
 cases hl:LG2 (y,0)with
 |false=>
  rw[J1.Ps hq];generalize SQ (J1.RS4 x)=t at*;rcases s with e|e
  ·exact e
  ·by_cases h0:y=0
   ·rw[e,h0];exact z_n0'
   ·rw[e,JK h0,hl]at sm;cases sm
 |true=>
  rw[J1.T3 hq];generalize SQ (J1.RS4 x)=t at*;rcases s with e|e
  ·rw[e,hl]at sm;cases sm
  ·rw[e];exact J1.FR y
theorem Yk{x y:W2}(h:ml2 y y=J2.RS4 x): ∃r,ml2 r r=J2.RS4 x/\LG2 r=false/\J2.sgY r (LG2 y)=y:=by
 cases hl:LG2 y with
 |false=>exact ⟨y,h,hl,rfl⟩
 |true=>
  have h0:y≠ze2:=λe=>by rw[e,uV]at hl;cases hl
  exact ⟨ng2 y,(J2.N8 y).trans h,by rw[po h0,hl];rfl,R2.neg_neg y⟩
theorem LP{bs:L8}(h:bs.length=48):LO bs 0=MK bs:=by
 rw[LO,List.drop_zero];exact List.take_of_length_le (by rw[bH];omega)
theorem Q7{x y:Zp}(on:E1.on (x,y)){c:Int}{Q:Pt Zp}(h:NY 0 (λQ=>E1.times Q ORD=none) (LG2 (y,0)) x y c Q):D1 (EN1 (some (x,y))) c Q:=by
 have hy:=J1.mw.1 on;obtain ⟨m,f,s,l⟩:=BA (vX x) (LG2 (y,0));have hlen:(EN1 (some (x,y))).length=48:=(o0 _ _).trans (aH x);have lo:LO (EN1 (some (x,y))) 0=cM x:=(LP hlen).trans m;have ex:X1 (EN1 (some (x,y)))=x:=by rw[X1,lo,uL]
 refine .inr ⟨hlen,.inr ⟨f,.inr ⟨s,.inr ⟨by rw[lo];exact pF x,.inr ?_⟩⟩⟩⟩
 rw[ex,show LB (EN1 (some (x,y)))=LG2 (y,0)from l,WX hy];exact ⟨Mt hy,h⟩
theorem LO_2{a b:L8}{bs:L8}(ha:a.length=48)(hb:b.length=48)(h:MK bs=a++b):LO bs 0=a/\LO bs 48=b:=by
 rw[LO,LO,h,List.drop_zero];exact ⟨List.take_left' ha,by rw[List.drop_left' ha];exact List.take_of_length_le om⟩
theorem Ln{a b:L8}(h:Top a):Top (a++b):=by
 cases a with
 |nil=>exact absurd h.ne dc
 |cons x r=>exact ⟨sm,h.lt⟩
theorem P4{x y:W2}(on:E2w.on (x,y)){c:Int}{Q:Pt W2}(h:NY ze2 (λQ=>E2w.times Q ORD=none) (LG2 y) x y c Q):D2 (EN2 (some (x,y))) c Q:=by
 have hy:=J2.mw.1 on;obtain ⟨m,f,s,l⟩:=BA (Ln (b:=cM x.1) (vX x.2)) (LG2 y);have hlen:(EN2 (some (x,y))).length=96:=(o0 _ _).trans (by rw[List.length_append,aH,aH])
 obtain ⟨l0,l48⟩:=LO_2 (bs:=EN2 (some (x,y))) (aH x.2) (aH x.1) m;have ex:X2 (EN2 (some (x,y)))=x:=by rw[X2,l0,l48,uL,uL]
 obtain ⟨r,hr,hs,e⟩:=Yk hy;refine .inr ⟨hlen,.inr ⟨f,.inr ⟨s,.inr ⟨by rw[l0,l48];exact ⟨pF _,pF _⟩,.inr ⟨r, ?_⟩⟩⟩⟩⟩
 rw[ex,show LB (EN2 (some (x,y)))=LG2 y from l,e];exact ⟨hr,hs,h⟩
theorem I7:D1 (EN1 none) 0 none:=.inr ⟨dc,.inr ⟨dc,.inl ⟨dc,by decide+kernel,rfl⟩⟩⟩
theorem Jb:D2 (EN2 none) 0 none:=.inr ⟨dc,.inr ⟨dc,.inl ⟨dc,by decide+kernel,rfl⟩⟩⟩
theorem Og{α:Type}{z:α}{inG:Option (α×α)->Prop}{l:Bool}{x y:α}(h: ¬(l=true/\y=z))(g:inG (some (x,y))):NY z inG l x y 0 (some (x,y)):=.inr ⟨h,.inr ⟨g,rfl,rfl⟩⟩
theorem Rf{y:Zp}: ¬(LG2 (y,0)=true/\y=0):=λ⟨h,e⟩=>by
 rw[e,show ((0,0):W2)=ze2 from O,uV]at h;cases h
theorem QD{y:W2}: ¬(LG2 y=true/\y=ze2):=λ⟨h,e⟩=>by
 rw[e,uV]at h;cases h
theorem wd{P:Pt Zp}(on:E1.onP P)(g:E1.times P ORD=none):D1 (EN1 P) 0 P:=by
 cases P with
 |none=>exact I7
 |some p=>exact Q7 (x:=p.1) (y:=p.2) on (Og Rf g)
theorem M9{P:Pt W2}(on:E2w.onP P)(g:E2w.times P ORD=none):D2 (EN2 P) 0 P:=by
 cases P with
 |none=>exact Jb
 |some p=>exact P4 (x:=p.1) (y:=p.2) on (Og QD g)
theorem ent109:ai prog 109:=λ_ _=>kr
theorem ent170:ai prog 170:=λ_ _=>kr
theorem ent108:ai prog 108:=λ_ _=>kr
theorem ent55:ai prog 55:=λ_ _=>kr
theorem ent128:ai prog 128:=λ_ _=>kr
theorem N9(h:Bool):PUR 88 [.bool false,.bool h] (U8 192#8):=by
 intro w hw;refine Hf func88 O hw<|λhGF=>Xp<|Asg O<|aa<|ah<|am<|Xp<|Mv O<|aU O (λ_=>aF _) O O<|Asg O<|aa<|aL O<|Xp<|Asg O<|aa<|ak<|Rr<|?_;exact aO O O (λw hw=>⟨rfl,ac hw⟩)
theorem My  :PUR 88 [.bool true,.bool true] (U8 160#8):=by
 intro w hw;refine Hf func88 O hw<|λhGF=>Xp<|Asg O<|aa<|ah<|am<|Xp<|Mv O<|aU O (λ_=>aF _) O O<|Asg O<|aa<|aw O<|Xp<|Mv O<|Asg O<|aa<|aL O<|Xp<|Asg O<|aa<|ak<|Rr<|?_;exact aO O O (λw hw=>⟨rfl,ac hw⟩)
theorem Od  :PUR 88 [.bool true,.bool false] (U8 128#8):=by
 intro w hw;refine Hf func88 O hw<|λhGF=>Xp<|Asg O<|aa<|ah<|am<|Xp<|Mv O<|aU O (λ_=>aF _) O O<|Asg O<|aa<|aw O<|Xp<|Mv O<|Asg O<|aa<|aw O<|aq<|Xp<|Asg O<|aa<|ak<|Rr<|?_;exact aO O O (λw hw=>⟨rfl,ac hw⟩)
theorem ND{bs:L8}(h:0<bs.length):[bs.getD 0 0 &&& 31#8]++bs.drop 1=MK bs:=by
 cases bs with
 |nil=>cases h
 |cons a r=>rfl
theorem BytesAt.cut3{w:World}{a:Option Addr}{rs:L8}(h:BytesAt w a rs)(l k m:Nat)(hm: ¬m=l):BytesAt w (if m=l then a else a.map (·.add (l*1))) ((rs.drop l).take k):=by
 have e:=h.cut (cap:=rs.length+l+1) l k om;rw[if_neg om]at e;rw[if_neg hm];exact e
theorem BytesAt.tail{w:World}{a:Option Addr}{rs:L8}(h:BytesAt w a rs):BytesAt w (if rs.length=1 then a else a.map (·.add (1*1))) (rs.drop 1):=by
 have e:=h.cut (cap:=rs.length) 1 rs.length (Nat.le_refl _);rw[List.take_of_length_le (by rw[List.length_drop];omega)]at e
 exact e
theorem yN(e:Option Addr)(cap:Nat)(bs:L8)(h0:0<bs.length)(hl:bs.length<=1000)(hcap:bs.length<=cap)(w:World)(hw:Gt w)(hby:BytesAt w e bs):CLS 109 [.slice e bs.length cap].toArray w (λr w'=> ∃b7 c7 k7,r=.returned (.slice (spt b7) bs.length k7)/\Grow w w'/\w.heap.size<=b7/\OwnB w' b7 c7 5/\c7.take bs.length=(MK bs).map U8/\bs.length<=k7):=by
 refine Hf func109 O hw<|λhGF=>Xp<|Asg O<|aa<|ER (E:=EE []) [0,1,2,3,5,6,7,8,9,10,4,11,12] dU O kr kr kr<|Mv O<|?_;obtain ⟨ad,rfl,_⟩:=hby 0 _ (gm U8 bs 0 0 om);refine ek 0 O O underlying22 sizeOf5 O om O O<|bp O isAgg5 (λw' h=>by obtain ⟨ad',e,hc⟩:=(hby.grow (ac h)) 0 _ (gm U8 bs 0 0 om);cases e;exact hc) O O<|Bnr (v:=U8 (bs.getD 0 0 &&& 31#8)) O O (λ_=>rL _ _ 224#8)<|Mv O<|Mv O<|bD O (λ_=>aV underlying22 _ _ _ _) O O<|Mv O<|bD O (λ_=>aV underlying22 _ _ _ _) O O<|fR (l:=1) (h':=bs.length) (m:=bs.length) O underlying22 sizeOf5 O O O ⟨om,Nat.le_refl _,hcap⟩ O O<|iX 7 [bs.getD 0 0 &&& 31#8] hGF O O O dc dc underlying22 sizeOf5 zeroValue5 O O<|?_
 intro b7;refine nQ (xs:=[bs.getD 0 0 &&& 31#8]) (ys:=bs.drop 1) 7 hGF O (by rw[List.length_drop];rfl) underlying22 underlying22 ti5 (.inr ⟨b7,_,rfl,rfl,rfl,Nat.le_refl _,rfl⟩) (λw' h=>(hby.grow (ac h)).tail) (by simp;omega) O O (λh0=>absurd h0 (List.cons_ne_nil _ _)) (λb8 c8 k8 q1 q2 q3=> ?_)
 rw[ND h0]at q2 q3;rw[bH]at q2 q3;refine Asg O<|aa<|ak<|Rr<|?_;exact aO O O (λw hw=>⟨b8,c8,k8,by rw[ND h0,bH],ac hw,(hw.own 7 b8 _ _ O).2.elim id False.elim,(hw.own 7 b8 _ _ O).1,q3,q2⟩)
def NQ(bs:L8):Bool:=decide (∀j,j<bs.length->bs.getD j 0=0#8)
theorem UO{bs:L8}(h: ∀j,j<bs.length->bs.getD j 0=0#8):NQ bs=true:=decide_eq_true h
theorem NQ_f{bs:L8}{i:Nat}(hi:i<bs.length)(h: ¬bs.getD i 0=0#8):NQ bs=false:=decide_eq_false (λk=>h (k i hi))
theorem EH(e:Option Addr)(cap:Nat)(bs:L8)(hL:bs.length<=1000)(w:World)(hw:Gt w)(hby:BytesAt w e bs):CLS 170 [.slice e bs.length cap].toArray w (λr w'=>r=.returned (.bool (NQ bs))/\Grow w w'):=by
 refine Hf func170 O hw<|λhGF=>Xp<|Asg O<|aa<|ah<|Xp<|Mv O<|bD O (λ_=>aV underlying22 _ _ _ _) O O<|Mv O<|aa<|am<|cb (ι:={i:Nat // i<=bs.length/\∀j,j<i->bs.getD j 0=0#8}) (λy=>[(5,.slice e bs.length cap),(6,I (bs.length:Int)),(7,I (y.1:Int))]) (λy=>[]) (λy=>bs.length-y.1) ⟨0,Nat.zero_le _,λ_ h=>absurd h (Nat.not_lt_zero _)⟩ hGF trv trivial<|?_;rintro ⟨i,hi,hall⟩;dsimp only;by_cases hz:bs.getD i 0=0#8
 ·refine Xp<|Bnr O O (λ_=>aC _ _ _)<|aa<|ah<|?_
  refine bE O (λhc=> ?_) (λhc=> ?_)
  ·have hi2:i<bs.length:=by simp at hc;omega
   refine aq<|ah<|am<|Xp<|?_;obtain ⟨ad,rfl,_⟩:=hby i _ (gm U8 bs 0 i om);refine ek i O O underlying22 sizeOf5 O om O O<|bp (v:=U8 (bs.getD i 0)) O isAgg5 (λw' h=>by obtain ⟨ad',e,hc⟩:=(hby.grow (ac h)) i _ (gm U8 bs 0 i om);cases e;exact hc) O O<|Asg O<|aa<|Xp<|Mv O<|Bnb false O O (λ_=>bI _ _ 0#8) (bne_eq_false_iff_eq.2 hz)<|aa<|aw O<|aq<|Xq<|Bnr O O (λ_=>az _ _ _ oi)<|Mv O<|aa<|?_
   repeat (refine aW ?_)
   refine aQ ?_;have hall': ∀j,j<i+1->bs.getD j 0=0#8:=λj hj=>by
    rcases Nat.lt_or_ge j i with h|h
    ·exact hall j h
    ·obtain rfl:j=i:=om
     exact hz
   exact ⟨rfl,⟨i+1,om,hall'⟩,_,by show bs.length-(i+1)<bs.length-i;omega,rfl,trv,trivial⟩
  ·obtain rfl:i=bs.length:=by simp at hc;omega
   refine a6<|Xp<|Asg O<|aa<|ak<|Rr<|?_;exact aO O O (λw hw=>⟨by rw[UO hall];rfl,ac hw⟩)
 ·refine Xp<|Bnr O O (λ_=>aC _ _ _)<|aa<|ah<|?_
  refine bE O (λhc=> ?_) (λhc=> ?_)
  ·have hi2:i<bs.length:=by simp at hc;omega
   refine aq<|ah<|am<|Xp<|?_;obtain ⟨ad,rfl,_⟩:=hby i _ (gm U8 bs 0 i om);refine ek i O O underlying22 sizeOf5 O om O O<|bp (v:=U8 (bs.getD i 0)) O isAgg5 (λw' h=>by obtain ⟨ad',e,hc⟩:=(hby.grow (ac h)) i _ (gm U8 bs 0 i om);cases e;exact hc) O O<|Asg O<|aa<|Xp<|Mv O<|Bnb true O O (λ_=>bI _ _ 0#8) (bne_iff_ne.2 hz)<|aa<|aL O<|Xp<|Asg O<|aa<|ak<|Rr<|?_
   exact aO O O (λw hw=>⟨by rw[NQ_f hi2 hz];rfl,ac hw⟩)
  ·obtain rfl:i=bs.length:=by simp at hc;omega
   refine a6<|Xp<|Asg O<|aa<|ak<|Rr<|?_;exact aO O O (λw hw=>⟨by rw[UO hall];rfl,ac hw⟩)
theorem ww(b k len:Nat)(c:List Value)(bs:L8)(hn:bs.length=len)(hL:len<=1000)(q:Bool)(hq:NQ bs=q)(w:World)(hw:Gt w)(h:w.rangeAt b 0 c)(ht:c.take bs.length=bs.map U8):CLS 170 [.slice (spt b) len k].toArray w (λr w'=>r=.returned (.bool q)/\Grow w w'):=by
 subst hn;subst hq;exact EH _ k bs hL w hw (cx h ht)
def RdV(bs:L8)(N:Nat)(f:BitVec 8)(c:Int):Prop:=(¬bs.length=N/\f=0#8/\c=100)\/(bs.length=N/\((FG bs=128#8/\f=FG bs/\c=0)\/(¬FG bs=128#8/\((FG bs=160#8/\f=FG bs/\c=0)\/(¬FG bs=160#8/\((FG bs=192#8/\((NQ (MK bs)=true/\f=FG bs/\c=0)\/(NQ (MK bs)=false/\f=0#8/\c=101)))\/(¬FG bs=192#8/\f=0#8/\c=101)))))))
theorem nN(e:Option Addr)(cap N:Nat)(bs:L8)(h0:0<N)(hL:N<=1000)(hcap:bs.length<=cap)(f:BitVec 8)(c:Int)(h:RdV bs N f c)(w:World)(hw:Gt w)(hby:BytesAt w e bs):
 CLS 108 [.slice e bs.length cap,I (N:Int)].toArray w (λr w'=>r=.returned (.tuple #[U8 f,I c])/\Grow w w'):=by
 refine Hf func108 O hw<|λhGF=>ae (E:=EE [109,2000109])<|Asg O<|Asg O<|aa<|ah<|ae (E:=EE [109,2000109])<|Mv O<|bD O (λ_=>aV underlying22 _ _ _ _) O O<|Mv O<|?_;rcases h with ⟨hN,rfl,rfl⟩|⟨hN,h⟩
 ·refine Bnb true O O (λ_=>bt _ _ _) (bne_iff_ne.2 om)<|aa<|aL O<|ae (E:=EE [109,2000109])<|Asg O<|Asg O<|aa<|ak<|Rr<|?_
  exact db O O O (λw hw=>⟨rfl,ac hw⟩)
 ·refine Bnb false O O (λ_=>bt _ _ _) (bne_eq_false_iff_eq.2 om)<|aa<|aw O<|aq<|ah<|ae (E:=EE [109,2000109])<|Mv O<|?_
  obtain ⟨ad,he,_⟩:=hby 0 _ (gm U8 bs 0 0 om);refine ek (ad:=ad) 0 (by rw[<-he];rfl) O underlying22 sizeOf5 O om O O<|bp (v:=U8 (bs.getD 0 0)) O isAgg5 (λw' h=>by obtain ⟨ad',e',hc⟩:=(hby.grow (ac h)) 0 _ (gm U8 bs 0 0 om);rw[he]at e';cases e';exact hc) O O<|Bnr (v:=U8 (FG bs)) O O (λ_=>bC _ _ 224#8)<|Asg O<|aa<|ae (E:=EE [109,2000109])<|Mv O<|aa<|am<|ah<|ae (E:=EE [109,2000109])<|?_
  rcases h with ⟨hf,rfl,rfl⟩|⟨hf,h⟩
  ·refine Bnb true O O (λ_=>cH _ _ 128#8) (beq_iff_eq.2 hf)<|Asg O<|aa<|aL O<|aq<|aL O<|ae (E:=EE [109,2000109])<|Mv O<|Asg O<|Asg O<|aa<|ak<|Rr<|?_
   exact db O O O (λw hw=>⟨rfl,ac hw⟩)
  ·refine Bnb false O O (λ_=>cH _ _ 128#8) (beq_eq_false_iff_ne.2 hf)<|Asg O<|aa<|aw O<|bQ (E:=EE [109,2000109])<|?_
   rcases h with ⟨hf,rfl,rfl⟩|⟨hf,h⟩
   ·refine Bnb true O O (λ_=>cH _ _ 160#8) (beq_iff_eq.2 hf)<|Asg O<|aa<|aL O<|ae (E:=EE [109,2000109])<|Mv O<|Asg O<|Asg O<|aa<|ak<|Rr<|?_
    exact db O O O (λw hw=>⟨rfl,ac hw⟩)
   ·refine Bnb false O O (λ_=>cH _ _ 160#8) (beq_eq_false_iff_ne.2 hf)<|Asg O<|aa<|aw O<|ae (E:=EE [109,2000109])<|?_
    rcases h with ⟨hf,h⟩|⟨hf,rfl,rfl⟩
    ·refine Bnb true O O (λ_=>cH _ _ 192#8) (beq_iff_eq.2 hf)<|Asg O<|aa<|aL O<|ae (E:=EE [109,2000109])<|Mv O<|?_
     refine bM O O ent109 O O (λw' hw'=>(yN e cap bs om om hcap w' (hGF.g _ _ _ hw') (hby.grow (ac hw'))).mono λe' w'' h=> ?_);obtain ⟨b7,c7,k7,rfl,hg,hb7,hob,q3,q2⟩:=h;refine ⟨_,_,rfl,ay hGF,hw'.news ap hg [(33,b7,c7,5)] ?_ bR,bN ap O, ?_⟩
     ·intro n' b' c' t' hl
      rcases aK hl with ⟨_,e⟩|⟨_,hl⟩
      ·cases e;exact ⟨hb7,hob⟩
      ·cases hl
     clear hw' hg hb7 hob;rcases h with ⟨hq,rfl,rfl⟩|⟨hq,rfl,rfl⟩
     ·refine Cc O ent170 (λw' hC hG=>ww b7 k7 bs.length c7 (MK bs) (bH bs) om true hq w' hG (aX (n:=33) O w' hC) (by rw[bH];exact q3))<|aa<|aL O<|ae (E:=EE [109,2000109])<|Mv O<|Asg O<|Asg O<|aa<|ak<|Rr<|?_
      exact db O O O (λw hw=>⟨rfl,ac hw⟩)
     ·refine Cc O ent170 (λw' hC hG=>ww b7 k7 bs.length c7 (MK bs) (bH bs) om false hq w' hG (aX (n:=33) O w' hC) (by rw[bH];exact q3))<|aa<|aw O<|aq<|ae (E:=EE [109,2000109])<|Asg O<|Asg O<|aa<|ak<|Rr<|?_
      exact db O O O (λw hw=>⟨rfl,ac hw⟩)
    ·refine Bnb false O O (λ_=>cH _ _ 192#8) (beq_eq_false_iff_ne.2 hf)<|Asg O<|aa<|aw O<|aq<|ae (E:=EE [109,2000109])<|Asg O<|Asg O<|aa<|ak<|Rr<|?_
     exact db O O O (λw hw=>⟨rfl,ac hw⟩)
theorem y8:lZ prog 54 "Neg" 119:=λ_ _=>kr
theorem nc:lZ prog 54 "Equal" 326:=λ_ _=>kr
theorem fK:lZ prog 54 "InGroup" 327:=λ_ _=>kr
theorem yQ(p t:J1.GP)(f:BitVec 8)(c:Int)(h:(¬f &&& 32#8=0#8/\((p.P=(J1.ju p).P/\t=J1.dX/\c=103)\/(¬p.P=(J1.ju p).P/\((¬E1.times p.P ORD=none/\t=J1.dX/\c=104)\/(E1.times p.P ORD=none/\p=t/\c=0)))))\/(f &&& 32#8=0#8/\((¬E1.times p.P ORD=none/\t=J1.dX/\c=104)\/(E1.times p.P ORD=none/\p=t/\c=0)))):PUR 111 [J1.PtV p,.bool true,U8 f] (.tuple #[J1.PtV t,I c]):=by
 intro w hw;refine Hf func111 O hw<|λhGF=>Xp<|Bx 3 hGF O<|λb3=>Al 6 hGF J1.zv54<|λb6=>Asg O<|aa<|Xp<|Al 8 hGF J1.zv54<|λb8=>aa<|ah<|am<|Xp<|Mv O<|aU O (λ_=>aF _) O O<|Asg O<|aa<|aw O<|Xd []<|Mv O<|Bnr (v:=U8 (f &&& 32#8)) O O (λ_=>bC _ _ 32#8)<|?_;rcases h with ⟨hf,h⟩|⟨hf,h⟩
 ·refine Bnb true O O (λ_=>bI _ _ 0#8) (bne_iff_ne.2 hf)<|Mv O<|La 3 O O bV<|ia O underlying54 O O<|La 3 O O bV<|ia O underlying54 O O<|uc O O y8 O ent119 (J1.vd p) O O<|?_
  rcases h with ⟨he,rfl,rfl⟩|⟨he,h⟩
  ·refine fg true O O nc O ent326 (J1.mX p (J1.ju p)) (decide_eq_true he) O O<|Pk O O O<|Asg O<|aa<|aL O<|Xp<|La 8 O O bV<|Sa 6 hGF O O O bV<|Asg O<|aa<|ak<|Rr<|?_
   exact aG 6 O O O O isAgg54 sizeOf54 sm (λw hw=>⟨rfl,ac hw⟩)
  ·refine fg false O O nc O ent326 (J1.mX p (J1.ju p)) (decide_eq_false he) O O<|Pk O O O<|Asg O<|aa<|aw O<|Xp<|La 3 O O bV<|ia O underlying54 O O<|?_
   rcases h with ⟨hg,rfl,rfl⟩|⟨hg,rfl,rfl⟩
   ·refine fg false O O fK O ent327 (J1.eO p) (decide_eq_false hg) O O<|aU O (λ_=>aF _) O O<|Asg O<|aa<|aL O<|Xp<|La 8 O O bV<|Sa 6 hGF O O O bV<|Asg O<|aa<|ak<|Rr<|?_
    exact aG 6 O O O O isAgg54 sizeOf54 sm (λw hw=>⟨rfl,ac hw⟩)
   ·refine fg true O O fK O ent327 (J1.eO p) (decide_eq_true hg) O O<|aU O (λ_=>aF _) O O<|Asg O<|aa<|aw O<|aq<|Xp<|La 3 O O bV<|Sa 6 hGF O O O bV<|Asg O<|aa<|ak<|Rr<|?_
    exact aG 6 O O O O isAgg54 sizeOf54 sm (λw hw=>⟨rfl,ac hw⟩)
 ·refine Bnb false O O (λ_=>bI _ _ 0#8) (bne_eq_false_iff_eq.2 hf)<|Mv O<|Sk<|Sk<|Sk<|Sk<|Sk<|Sk<|Pk O O O<|Asg O<|aa<|aw O<|Xp<|La 3 O O bV<|ia O underlying54 O O<|?_
  rcases h with ⟨hg,rfl,rfl⟩|⟨hg,rfl,rfl⟩
  ·refine fg false O O fK O ent327 (J1.eO p) (decide_eq_false hg) O O<|aU O (λ_=>aF _) O O<|Asg O<|aa<|aL O<|Xp<|La 8 O O bV<|Sa 6 hGF O O O bV<|Asg O<|aa<|ak<|Rr<|?_
   exact aG 6 O O O O isAgg54 sizeOf54 sm (λw hw=>⟨rfl,ac hw⟩)
  ·refine fg true O O fK O ent327 (J1.eO p) (decide_eq_true hg) O O<|aU O (λ_=>aF _) O O<|Asg O<|aa<|aw O<|aq<|Xp<|La 3 O O bV<|Sa 6 hGF O O O bV<|Asg O<|aa<|ak<|Rr<|?_
   exact aG 6 O O O O isAgg54 sizeOf54 sm (λw hw=>⟨rfl,ac hw⟩)
theorem T6(p:J1.GP)(f:BitVec 8):PUR 111 [J1.PtV p,.bool false,U8 f] (.tuple #[J1.PtV J1.dX,I 103]):=by
 intro w hw;refine Hf func111 O hw<|λhGF=>Xp<|Bx 3 hGF O<|λb3=>Al 6 hGF J1.zv54<|λb6=>Asg O<|aa<|Xp<|Al 8 hGF J1.zv54<|λb8=>aa<|ah<|am<|Xp<|Mv O<|aU O (λ_=>aF _) O O<|Asg O<|aa<|aL O<|Xp<|La 8 O O bV<|Sa 6 hGF O O O bV<|Asg O<|aa<|ak<|Rr<|?_;exact aG 6 O O O O isAgg54 sizeOf54 sm (λw hw=>⟨rfl,ac hw⟩)
theorem yV:lZ prog 94 "Neg" 334:=λ_ _=>kr
theorem mN:lZ prog 94 "Equal" 332:=λ_ _=>kr
theorem fJ:lZ prog 94 "InGroup" 333:=λ_ _=>kr
theorem xT(p t:J2.GP)(f:BitVec 8)(c:Int)(h:(¬f &&& 32#8=0#8/\((p.P=(J2.ju p).P/\t=J2.dX/\c=103)\/(¬p.P=(J2.ju p).P/\((¬E2w.times p.P ORD=none/\t=J2.dX/\c=104)\/(E2w.times p.P ORD=none/\p=t/\c=0)))))\/(f &&& 32#8=0#8/\((¬E2w.times p.P ORD=none/\t=J2.dX/\c=104)\/(E2w.times p.P ORD=none/\p=t/\c=0)))):PUR 187 [J2.PtV p,.bool true,U8 f] (.tuple #[J2.PtV t,I c]):=by
 intro w hw;refine Hf func187 O hw<|λhGF=>Xp<|Bx 3 hGF O<|λb3=>Al 6 hGF J2.zv94<|λb6=>Asg O<|aa<|Xp<|Al 8 hGF J2.zv94<|λb8=>aa<|ah<|am<|Xp<|Mv O<|aU O (λ_=>aF _) O O<|Asg O<|aa<|aw O<|Xd []<|Mv O<|Bnr (v:=U8 (f &&& 32#8)) O O (λ_=>bC _ _ 32#8)<|?_;rcases h with ⟨hf,h⟩|⟨hf,h⟩
 ·refine Bnb true O O (λ_=>bI _ _ 0#8) (bne_iff_ne.2 hf)<|Mv O<|La 3 O O cf<|ia O underlying94 O O<|La 3 O O cf<|ia O underlying94 O O<|uc O O yV O ent334 (J2.vd p) O O<|?_
  rcases h with ⟨he,rfl,rfl⟩|⟨he,h⟩
  ·refine fg true O O mN O ent332 (J2.mX p (J2.ju p)) (decide_eq_true he) O O<|Pk O O O<|Asg O<|aa<|aL O<|Xp<|La 8 O O cf<|Sa 6 hGF O O O cf<|Asg O<|aa<|ak<|Rr<|?_
   exact aG 6 O O O O isAgg94 sizeOf94 sm (λw hw=>⟨rfl,ac hw⟩)
  ·refine fg false O O mN O ent332 (J2.mX p (J2.ju p)) (decide_eq_false he) O O<|Pk O O O<|Asg O<|aa<|aw O<|Xp<|La 3 O O cf<|ia O underlying94 O O<|?_
   rcases h with ⟨hg,rfl,rfl⟩|⟨hg,rfl,rfl⟩
   ·refine fg false O O fJ O ent333 (J2.eO p) (decide_eq_false hg) O O<|aU O (λ_=>aF _) O O<|Asg O<|aa<|aL O<|Xp<|La 8 O O cf<|Sa 6 hGF O O O cf<|Asg O<|aa<|ak<|Rr<|?_
    exact aG 6 O O O O isAgg94 sizeOf94 sm (λw hw=>⟨rfl,ac hw⟩)
   ·refine fg true O O fJ O ent333 (J2.eO p) (decide_eq_true hg) O O<|aU O (λ_=>aF _) O O<|Asg O<|aa<|aw O<|aq<|Xp<|La 3 O O cf<|Sa 6 hGF O O O cf<|Asg O<|aa<|ak<|Rr<|?_
    exact aG 6 O O O O isAgg94 sizeOf94 sm (λw hw=>⟨rfl,ac hw⟩)
 ·refine Bnb false O O (λ_=>bI _ _ 0#8) (bne_eq_false_iff_eq.2 hf)<|Mv O<|Sk<|Sk<|Sk<|Sk<|Sk<|Sk<|Pk O O O<|Asg O<|aa<|aw O<|Xp<|La 3 O O cf<|ia O underlying94 O O<|?_
  rcases h with ⟨hg,rfl,rfl⟩|⟨hg,rfl,rfl⟩
  ·refine fg false O O fJ O ent333 (J2.eO p) (decide_eq_false hg) O O<|aU O (λ_=>aF _) O O<|Asg O<|aa<|aL O<|Xp<|La 8 O O cf<|Sa 6 hGF O O O cf<|Asg O<|aa<|ak<|Rr<|?_
   exact aG 6 O O O O isAgg94 sizeOf94 sm (λw hw=>⟨rfl,ac hw⟩)
  ·refine fg true O O fJ O ent333 (J2.eO p) (decide_eq_true hg) O O<|aU O (λ_=>aF _) O O<|Asg O<|aa<|aw O<|aq<|Xp<|La 3 O O cf<|Sa 6 hGF O O O cf<|Asg O<|aa<|ak<|Rr<|?_
   exact aG 6 O O O O isAgg94 sizeOf94 sm (λw hw=>⟨rfl,ac hw⟩)
theorem R7(p:J2.GP)(f:BitVec 8):PUR 187 [J2.PtV p,.bool false,U8 f] (.tuple #[J2.PtV J2.dX,I 103]):=by
 intro w hw;refine Hf func187 O hw<|λhGF=>Xp<|Bx 3 hGF O<|λb3=>Al 6 hGF J2.zv94<|λb6=>Asg O<|aa<|Xp<|Al 8 hGF J2.zv94<|λb8=>aa<|ah<|am<|Xp<|Mv O<|aU O (λ_=>aF _) O O<|Asg O<|aa<|aL O<|Xp<|La 8 O O cf<|Sa 6 hGF O O O cf<|Asg O<|aa<|ak<|Rr<|?_;exact aG 6 O O O O isAgg94 sizeOf94 sm (λw hw=>⟨rfl,ac hw⟩)
theorem EY:cM 0=List.replicate 48 0#8:=by decide+kernel
theorem BD(bs:L8):OR0 bs 160#8=OR0 (OR0 bs 128#8) 32#8:=by
 cases bs with
 |nil=>rfl
 |cons a r=>show (a|||160#8)::r=((a|||128#8)|||32#8)::r;rw[BitVec.or_assoc];rfl
theorem zv32(w:World):(zeroValue 32).run prog w=.ok (.agg ((List.replicate 96 (0#8)).map U8).toArray) w:=(zeroValue32 w).trans rr
theorem Sz(p:J1.GP)(h:p.P=none):PUR 41 [J1.PtV p] (.agg ((OR0 (cM 0) 192#8).map U8).toArray):=by
 intro w hw;refine Hf func41 O hw<|λhGF=>Xp<|Bx 1 hGF O<|λb1=>Al 2 hGF zv29<|λb2=>aa<|Xp<|La 1 O O bV<|Ca O (J1.IG p h)<|Mv O<|Ext O O<|Ext O O<|Ext O O<|Al 3 hGF zv52<|λb3=>Al 4 hGF zv52<|λb4=>Sa 3 hGF O O O bq<|Sa 4 hGF O O O bq<|Asg O<|aa<|Xp<|La 3 O O bq<|Ca O (dO _)<|Al 6 hGF zv29<|λb6=>aA 6 hGF O O O sizeOf29 sm sm (bL _) O<|aa<|Xd []<|gj 0 O O underlying29 sizeOf5 dc dc O O<|Lm 6 U8 0 O O isAgg5 sm<|Mv O<|La 4 O O bq<|Ca O (gK _)<|Ca O (N9 _)<|Bnr (v:=U8 ((cM 0).getD 0 0|||192#8)) O O (λ_=>ie _ _ 192#8)<|gj 0 O O underlying29 sizeOf5 dc dc O O<|bc 6 U8 hGF O O O sizeOf5 O sm O<|aa<|Xp<|La 6 O O rM<|aA 2 hGF O O O sizeOf29 sm sm (bL _) O<|aa<|ak<|?_;refine Rr ?_;exact au 2 O O O isAgg29 sizeOf29 sm (λw hw=>⟨rfl,ac hw⟩)
theorem Su(p:J1.GP)(h: ¬p.P=none)(hl:decide (hf<(J1.PY p.P).val)=true):PUR 41 [J1.PtV p] (.agg ((OR0 (cM (J1.PX p.P)) 160#8).map U8).toArray):=by
 intro w hw;refine Hf func41 O hw<|λhGF=>Xp<|Bx 1 hGF O<|λb1=>Al 2 hGF zv29<|λb2=>aa<|Xp<|La 1 O O bV<|Ca O (J1.wa p h)<|Mv O<|Ext O O<|Ext O O<|Ext O O<|Al 3 hGF zv52<|λb3=>Al 4 hGF zv52<|λb4=>Sa 3 hGF O O O bq<|Sa 4 hGF O O O bq<|Asg O<|aa<|Xp<|La 3 O O bq<|Ca O (dO _)<|Al 6 hGF zv29<|λb6=>aA 6 hGF O O O sizeOf29 sm sm (bL _) O<|aa<|Xd []<|gj 0 O O underlying29 sizeOf5 dc dc O O<|Lm 6 U8 0 O O isAgg5 sm<|Mv O<|La 4 O O bq<|Cbl true O ent89 (gK _) (hl)<|Ca O (My)<|Bnr (v:=U8 ((cM (J1.PX p.P)).getD 0 0|||160#8)) O O (λ_=>ie _ _ 160#8)<|gj 0 O O underlying29 sizeOf5 dc dc O O<|bc 6 U8 hGF O O O sizeOf5 O sm O<|aa<|Xp<|La 6 O O rM<|aA 2 hGF O O O sizeOf29 sm sm (bL _) O<|aa<|ak<|?_;refine Rr ?_;exact au 2 O O O isAgg29 sizeOf29 sm (λw hw=>⟨rfl,ac hw⟩)
theorem PE(p:J1.GP)(h: ¬p.P=none)(hl:decide (hf<(J1.PY p.P).val)=false):PUR 41 [J1.PtV p] (.agg ((OR0 (cM (J1.PX p.P)) 128#8).map U8).toArray):=by
 intro w hw;refine Hf func41 O hw<|λhGF=>Xp<|Bx 1 hGF O<|λb1=>Al 2 hGF zv29<|λb2=>aa<|Xp<|La 1 O O bV<|Ca O (J1.wa p h)<|Mv O<|Ext O O<|Ext O O<|Ext O O<|Al 3 hGF zv52<|λb3=>Al 4 hGF zv52<|λb4=>Sa 3 hGF O O O bq<|Sa 4 hGF O O O bq<|Asg O<|aa<|Xp<|La 3 O O bq<|Ca O (dO _)<|Al 6 hGF zv29<|λb6=>aA 6 hGF O O O sizeOf29 sm sm (bL _) O<|aa<|Xd []<|gj 0 O O underlying29 sizeOf5 dc dc O O<|Lm 6 U8 0 O O isAgg5 sm<|Mv O<|La 4 O O bq<|Cbl false O ent89 (gK _) (hl)<|Ca O (Od)<|Bnr (v:=U8 ((cM (J1.PX p.P)).getD 0 0|||128#8)) O O (λ_=>ie _ _ 128#8)<|gj 0 O O underlying29 sizeOf5 dc dc O O<|bc 6 U8 hGF O O O sizeOf5 O sm O<|aa<|Xp<|La 6 O O rM<|aA 2 hGF O O O sizeOf29 sm sm (bL _) O<|aa<|ak<|?_;refine Rr ?_;exact au 2 O O O isAgg29 sizeOf29 sm (λw hw=>⟨rfl,ac hw⟩)
theorem RK(p:J2.GP)(h:p.P=none):PUR 45 [J2.PtV p] (.agg ((OR0 (cM 0++cM 0) 192#8).map U8).toArray):=by
 intro w hw;refine Hf func45 O hw<|λhGF=>Xp<|Bx 1 hGF O<|λb1=>Al 2 hGF zv32<|λb2=>aa<|Xp<|La 1 O O cf<|Ca O (J2.IG p h)<|Mv O<|Ext O O<|Ext O O<|Ext O O<|Al 3 hGF zv92<|λb3=>Al 4 hGF zv92<|λb4=>Sa 3 hGF O O O aR<|Sa 4 hGF O O O aR<|Asg O<|aa<|fb (E:=EE [2999999]) [0,1,2,3,4,5] [⟨6,6,29,(List.replicate 48 (0#8)).map U8⟩,⟨7,7,29,(List.replicate 48 (0#8)).map U8⟩] [8,9] dU O kr kr kr kr kr kr dc (by intro x hx;simp only[List.mem_cons,List.not_mem_nil,or_false]at hx;rcases hx with rfl|rfl<;>exact bg O zv29 O)<|Fa 6 O underlying92 O sizeOf52<|av 3 _ O O isAgg52 sizeOf52 sm (gP sm) O O<|Ca O (dO _)<|Fa 0 O underlying92 O sizeOf52<|av 3 _ O O isAgg52 sizeOf52 sm eu O O<|Ca O (dO _)<|aa<|?_
 refine ⟨_,_,rfl,hGF,by intro x hx;simp only[List.mem_cons,List.not_mem_nil,or_false]at hx;rcases hx with rfl|rfl<;>rfl,by intro x hx;simp only[List.mem_cons,List.not_mem_nil,or_false]at hx;rcases hx with rfl|rfl<;>rfl,λadr=> ?_⟩
 refine aA 6 hGF O O O sizeOf29 sm sm (bL _) O<|aA 7 hGF O O O sizeOf29 sm sm (bL _) O<|aa<|Xp<|Al 8 hGF zv32<|λb8=>aa<|Xd []<|ic (l:=0) (h':=48) (m:=48) O underlying32 sizeOf5 O O O dc dc O O<|bB (l:=0) (h':=48) O underlying29 sizeOf5 O O dc dc O O<|dY 8 (o:=0) (cs:=cM 0) hGF O O O underlying22 sz5 sm (λw' h=>BytesAt.range (aX (n:=6) O w' h)) sm O O<|?_;rw[yD];refine aa<|Xd []<|ic (l:=48) (h':=96) (m:=96) O underlying32 sizeOf5 O O O dc dc O O<|bB (l:=0) (h':=48) O underlying29 sizeOf5 O O dc dc O O<|dY 8 (o:=48) (cs:=cM 0) hGF O O O underlying22 sz5 sm (λw' h=>BytesAt.range (aX (n:=7) O w' h)) sm O O<|?_;rw[xE];refine aa<|Xd []<|gj 0 O O underlying32 sizeOf5 dc dc O O<|Lm 8 U8 0 O O isAgg5 sm<|Mv O<|La 4 O O aR<|Ca O (pJ _)<|Ca O (N9 _)<|Bnr (v:=U8 ((cM 0++cM 0).getD 0 0|||192#8)) O O (λ_=>ie _ _ 192#8)<|gj 0 O O underlying32 sizeOf5 dc dc O O<|bc 8 U8 hGF O O O sizeOf5 O sm O<|aa<|Xp<|La 8 O O TS<|aA 2 hGF O O O sizeOf32 sm sm (bL _) O<|aa<|ak<|Rr<|?_;exact au 2 O O O isAgg32 sizeOf32 sm (λw hw=>⟨rfl,ac hw⟩)
theorem Tp(p:J2.GP)(h: ¬p.P=none)(hl:LG2 (J2.PY p.P)=true):PUR 45 [J2.PtV p] (.agg ((OR0 (cM (J2.PX p.P).2++cM (J2.PX p.P).1) 160#8).map U8).toArray):=by
 intro w hw;refine Hf func45 O hw<|λhGF=>Xp<|Bx 1 hGF O<|λb1=>Al 2 hGF zv32<|λb2=>aa<|Xp<|La 1 O O cf<|Ca O (J2.wa p h)<|Mv O<|Ext O O<|Ext O O<|Ext O O<|Al 3 hGF zv92<|λb3=>Al 4 hGF zv92<|λb4=>Sa 3 hGF O O O aR<|Sa 4 hGF O O O aR<|Asg O<|aa<|fb (E:=EE [2999999]) [0,1,2,3,4,5] [⟨6,6,29,(List.replicate 48 (0#8)).map U8⟩,⟨7,7,29,(List.replicate 48 (0#8)).map U8⟩] [8,9] dU O kr kr kr kr kr kr dc (by intro x hx;simp only[List.mem_cons,List.not_mem_nil,or_false]at hx;rcases hx with rfl|rfl<;>exact bg O zv29 O)<|Fa 6 O underlying92 O sizeOf52<|av 3 _ O O isAgg52 sizeOf52 sm (gP sm) O O<|Ca O (dO _)<|Fa 0 O underlying92 O sizeOf52<|av 3 _ O O isAgg52 sizeOf52 sm eu O O<|Ca O (dO _)<|aa<|?_
 refine ⟨_,_,rfl,hGF,by intro x hx;simp only[List.mem_cons,List.not_mem_nil,or_false]at hx;rcases hx with rfl|rfl<;>rfl,by intro x hx;simp only[List.mem_cons,List.not_mem_nil,or_false]at hx;rcases hx with rfl|rfl<;>rfl,λadr=> ?_⟩
 refine aA 6 hGF O O O sizeOf29 sm sm (bL _) O<|aA 7 hGF O O O sizeOf29 sm sm (bL _) O<|aa<|Xp<|Al 8 hGF zv32<|λb8=>aa<|Xd []<|ic (l:=0) (h':=48) (m:=48) O underlying32 sizeOf5 O O O dc dc O O<|bB (l:=0) (h':=48) O underlying29 sizeOf5 O O dc dc O O<|dY 8 (o:=0) (cs:=cM (J2.PX p.P).2) hGF O O O underlying22 sz5 sm (λw' h=>BytesAt.range (aX (n:=6) O w' h)) sm O O<|?_;rw[yD];refine aa<|Xd []<|ic (l:=48) (h':=96) (m:=96) O underlying32 sizeOf5 O O O dc dc O O<|bB (l:=0) (h':=48) O underlying29 sizeOf5 O O dc dc O O<|dY 8 (o:=48) (cs:=cM (J2.PX p.P).1) hGF O O O underlying22 sz5 sm (λw' h=>BytesAt.range (aX (n:=7) O w' h)) sm O O<|?_;rw[xE];refine aa<|Xd []<|gj 0 O O underlying32 sizeOf5 dc dc O O<|Lm 8 U8 0 O O isAgg5 sm<|Mv O<|La 4 O O aR<|Cbl true O ent97 (pJ _) (hl)<|Ca O (My)<|Bnr (v:=U8 ((cM (J2.PX p.P).2++cM (J2.PX p.P).1).getD 0 0|||160#8)) O O (λ_=>ie _ _ 160#8)<|gj 0 O O underlying32 sizeOf5 dc dc O O<|bc 8 U8 hGF O O O sizeOf5 O sm O<|aa<|Xp<|La 8 O O TS<|aA 2 hGF O O O sizeOf32 sm sm (bL _) O<|aa<|ak<|Rr<|?_;exact au 2 O O O isAgg32 sizeOf32 sm (λw hw=>⟨rfl,ac hw⟩)
theorem RU(p:J2.GP)(h: ¬p.P=none)(hl:LG2 (J2.PY p.P)=false):PUR 45 [J2.PtV p] (.agg ((OR0 (cM (J2.PX p.P).2++cM (J2.PX p.P).1) 128#8).map U8).toArray):=by
 intro w hw;refine Hf func45 O hw<|λhGF=>Xp<|Bx 1 hGF O<|λb1=>Al 2 hGF zv32<|λb2=>aa<|Xp<|La 1 O O cf<|Ca O (J2.wa p h)<|Mv O<|Ext O O<|Ext O O<|Ext O O<|Al 3 hGF zv92<|λb3=>Al 4 hGF zv92<|λb4=>Sa 3 hGF O O O aR<|Sa 4 hGF O O O aR<|Asg O<|aa<|fb (E:=EE [2999999]) [0,1,2,3,4,5] [⟨6,6,29,(List.replicate 48 (0#8)).map U8⟩,⟨7,7,29,(List.replicate 48 (0#8)).map U8⟩] [8,9] dU O kr kr kr kr kr kr dc (by intro x hx;simp only[List.mem_cons,List.not_mem_nil,or_false]at hx;rcases hx with rfl|rfl<;>exact bg O zv29 O)<|Fa 6 O underlying92 O sizeOf52<|av 3 _ O O isAgg52 sizeOf52 sm (gP sm) O O<|Ca O (dO _)<|Fa 0 O underlying92 O sizeOf52<|av 3 _ O O isAgg52 sizeOf52 sm eu O O<|Ca O (dO _)<|aa<|?_
 refine ⟨_,_,rfl,hGF,by intro x hx;simp only[List.mem_cons,List.not_mem_nil,or_false]at hx;rcases hx with rfl|rfl<;>rfl,by intro x hx;simp only[List.mem_cons,List.not_mem_nil,or_false]at hx;rcases hx with rfl|rfl<;>rfl,λadr=> ?_⟩
 refine aA 6 hGF O O O sizeOf29 sm sm (bL _) O<|aA 7 hGF O O O sizeOf29 sm sm (bL _) O<|aa<|Xp<|Al 8 hGF zv32<|λb8=>aa<|Xd []<|ic (l:=0) (h':=48) (m:=48) O underlying32 sizeOf5 O O O dc dc O O<|bB (l:=0) (h':=48) O underlying29 sizeOf5 O O dc dc O O<|dY 8 (o:=0) (cs:=cM (J2.PX p.P).2) hGF O O O underlying22 sz5 sm (λw' h=>BytesAt.range (aX (n:=6) O w' h)) sm O O<|?_;rw[yD];refine aa<|Xd []<|ic (l:=48) (h':=96) (m:=96) O underlying32 sizeOf5 O O O dc dc O O<|bB (l:=0) (h':=48) O underlying29 sizeOf5 O O dc dc O O<|dY 8 (o:=48) (cs:=cM (J2.PX p.P).1) hGF O O O underlying22 sz5 sm (λw' h=>BytesAt.range (aX (n:=7) O w' h)) sm O O<|?_;rw[xE];refine aa<|Xd []<|gj 0 O O underlying32 sizeOf5 dc dc O O<|Lm 8 U8 0 O O isAgg5 sm<|Mv O<|La 4 O O aR<|Cbl false O ent97 (pJ _) (hl)<|Ca O (Od)<|Bnr (v:=U8 ((cM (J2.PX p.P).2++cM (J2.PX p.P).1).getD 0 0|||128#8)) O O (λ_=>ie _ _ 128#8)<|gj 0 O O underlying32 sizeOf5 dc dc O O<|bc 8 U8 hGF O O O sizeOf5 O sm O<|aa<|Xp<|La 8 O O TS<|aA 2 hGF O O O sizeOf32 sm sm (bL _) O<|aa<|ak<|Rr<|?_;exact au 2 O O O isAgg32 sizeOf32 sm (λw hw=>⟨rfl,ac hw⟩)
theorem XG:OR0 (cM 0) 192#8=EN1 none:=by rw[EY];rfl
theorem Uz:OR0 (cM 0++cM 0) 192#8=EN2 none:=by rw[EY];rfl
theorem Uc(p:J1.GP):PUR 41 [J1.PtV p] (.agg ((EN1 p.P).map U8).toArray):=by
 by_cases h:p.P=none
 ·have k:=Sz p h
  rw[XG]at k;rw[h];exact k
 ·obtain ⟨v,hv⟩: ∃v,p.P=some v:=by
   cases e:p.P with
   |none=>exact absurd e h
   |some v=>exact ⟨v,rfl⟩
  have ex:J1.PX p.P=v.1:=by rw[hv];rfl
  have ey:J1.PY p.P=v.2:=by rw[hv];rfl
  have e1:EN1 p.P=ENF (cM v.1) (LG2 (v.2,0)):=by rw[hv];rfl
  have lg:decide (hf<v.2.val)=LG2 (v.2,0):=Gn (x:=(v.2,0)) O
  cases hl:LG2 (v.2,0)with
  |true=>
   have k:=Su p h (by rw[ey,lg,hl])
   rw[ex,BD]at k;rw[e1,hl];exact k
  |false=>
   have k:=PE p h (by rw[ey,lg,hl])
   rw[ex]at k;rw[e1,hl];exact k
theorem Si(p:J2.GP):PUR 45 [J2.PtV p] (.agg ((EN2 p.P).map U8).toArray):=by
 by_cases h:p.P=none
 ·have k:=RK p h
  rw[Uz]at k;rw[h];exact k
 ·obtain ⟨v,hv⟩: ∃v,p.P=some v:=by
   cases e:p.P with
   |none=>exact absurd e h
   |some v=>exact ⟨v,rfl⟩
  have ex:J2.PX p.P=v.1:=by rw[hv];rfl
  have ey:J2.PY p.P=v.2:=by rw[hv];rfl
  have e1:EN2 p.P=ENF (cM v.1.2++cM v.1.1) (LG2 v.2):=by rw[hv];rfl
  cases hl:LG2 v.2 with
  |true=>
   have k:=Tp p h (by rw[ey,hl])
   rw[ex,BD]at k;rw[e1,hl];exact k
  |false=>
   have k:=RU p h (by rw[ey,hl])
   rw[ex]at k;rw[e1,hl];exact k
theorem sF{bs:L8}{c:Int}{P:Pt Zp}(h:D1 bs c P):E1.onP P:=by
 rcases h with ⟨_,_,rfl⟩|⟨_,⟨_,_,rfl⟩|⟨_,⟨_,_,rfl⟩|⟨_,⟨_,_,rfl⟩|⟨_,⟨_,_,rfl⟩|⟨q,h⟩⟩⟩⟩⟩
 ·exact True.intro
 ·exact True.intro
 ·exact True.intro
 ·exact True.intro
 ·exact True.intro
 ·rcases h with ⟨_,_,rfl⟩|⟨_,⟨_,_,rfl⟩|⟨_,_,rfl⟩⟩
  ·exact True.intro
  ·exact True.intro
  ·exact J1.HU q _
theorem kY{bs:L8}{c:Int}{P:Pt W2}(h:D2 bs c P):E2w.onP P:=by
 rcases h with ⟨_,_,rfl⟩|⟨_,⟨_,_,rfl⟩|⟨_,⟨_,_,rfl⟩|⟨_,⟨_,_,rfl⟩|⟨_,⟨_,_,rfl⟩|⟨r,hr,_,h⟩⟩⟩⟩⟩
 ·exact True.intro
 ·exact True.intro
 ·exact True.intro
 ·exact True.intro
 ·exact True.intro
 ·rcases h with ⟨_,_,rfl⟩|⟨_,⟨_,_,rfl⟩|⟨_,_,rfl⟩⟩
  ·exact True.intro
  ·exact True.intro
  ·exact J2.fL (J2.mw.2 (J2.GO hr _))
def cA1(P:Pt Zp)(on:E1.onP P):J1.GP:=⟨match P with|none=>(0,0,0)|some p=>(p.1,p.2,1),P,on,by
 cases P with
 |none=>rfl
 |some p=>exact E1.jr_at p kd⟩
def cA2(P:Pt W2)(on:E2w.onP P):J2.GP:=⟨match P with|none=>(ze2,ze2,ze2)|some p=>(p.1,p.2,on2),P,on,by
 cases P with
 |none=>rfl
 |some p=>exact l9 p⟩
theorem qy(a:Option Addr)(len k:Nat)(xs:L8)(h48:xs.length=48)(hn:len=48)(hl:BN xs 48<PP)(x:Zp)(hx:zp (BN xs 48)=x)(w:World)(hw:Gt w)(hby:BytesAt w a xs):CLS 90 [.slice a len k].toArray w (λr w'=>r=.returned (.tuple #[EV x,.bool true])/\Grow w w'):=by
 have h:=dR a k xs w hw hby;rw[h48,show FV xs=x from (if_pos ⟨h48,hl⟩).trans hx,show FO xs=true from decide_eq_true ⟨h48,hl⟩]at h;subst hn;exact h
theorem qL(a:Option Addr)(len k:Nat)(xs:L8)(h48:xs.length=48)(hn:len=48)(hl: ¬BN xs 48<PP)(w:World)(hw:Gt w)(hby:BytesAt w a xs):CLS 90 [.slice a len k].toArray w (λr w'=>r=.returned (.tuple #[EV 0,.bool false])/\Grow w w'):=by
 have h:=dR a k xs w hw hby;rw[h48,show FV xs=0 from if_neg (λe=>hl e.2),show FO xs=false from decide_eq_false (λe=>hl e.2)]at h;subst hn;exact h
theorem Ec.ne_iff{α:Type}(C:Ec α){x y:α}:(some (x,y):Pt α)=C.ne (some (x,y))↔y=C.R.zero:=by
 constructor
 ·intro h
  have e:y=C.R.neg y:=congrArg Prod.snd (Option.some.inj h);have k:=C.R.add_neg y;rw[<-e]at k;exact C.dbl0 k
 ·intro h
  show some (x,y)=some (x,C.R.neg y);rw[h,C.R.neg_zero]
theorem J1.ptv_eq{p r:J1.GP}(h:p.J=r.J):J1.PtV p=J1.PtV r:=by rw[J1.PtV,J1.PtV,J1.GL,J1.GL,h]
theorem J2.ptv_eq{p r:J2.GP}(h:p.J=r.J):J2.PtV p=J2.PtV r:=by rw[J2.PtV,J2.PtV,J2.GL,J2.GL,h]
theorem l_t{f:BitVec 8}(h:(f &&& 32#8 !=0#8)=true): ¬f &&& 32#8=0#8:=bne_iff_ne.1 h
theorem l_f{f:BitVec 8}(h:(f &&& 32#8 !=0#8)=false):f &&& 32#8=0#8:=bne_eq_false_iff_eq.1 h
theorem YA: ∀b:BitVec 8,(b &&& 224#8) &&& 128#8=0#8->¬b &&& 224#8=128#8/\¬b &&& 224#8=160#8/\¬b &&& 224#8=192#8:=by decide+kernel
theorem U0: ∀b:BitVec 8,¬(b &&& 224#8) &&& 128#8=0#8->¬(b &&& 224#8) &&& 64#8=0#8->¬b &&& 224#8=128#8/\¬b &&& 224#8=160#8/\(b &&& 224#8=192#8↔(b &&& 224#8) &&& 32#8=0#8):=by decide+kernel
theorem Vn: ∀b:BitVec 8,¬(b &&& 224#8) &&& 128#8=0#8->(b &&& 224#8) &&& 64#8=0#8->b &&& 224#8=128#8\/b &&& 224#8=160#8:=by decide+kernel
theorem f160{f:BitVec 8}(h:f=160#8): ¬f=128#8:=by rw[h];decide
theorem rd3{bs:L8}{N:Nat}{α:Type}{c:Int}{P:Option α}{R:Prop}(h:FLG bs N c P R):(¬c=0/\P=none/\RdV bs N 0#8 c)\/(c=0/\P=none/\RdV bs N (FG bs) 0/\¬FG bs &&& 64#8=0#8)\/(bs.length=N/\FG bs &&& 64#8=0#8/\RdV bs N (FG bs) 0/\R):=by
 rcases h with ⟨h48,rfl,rfl⟩|⟨h48,⟨f,rfl,rfl⟩|⟨f,⟨s,rfl,rfl⟩|⟨s,r⟩⟩⟩
 ·exact .inl ⟨dc,rfl,.inl ⟨h48,rfl,rfl⟩⟩
 ·obtain ⟨h1,h2,h3⟩:=YA (bs.getD 0 0) f
  exact .inl ⟨dc,rfl,.inr ⟨h48,.inr ⟨h1,.inr ⟨h2,.inr ⟨h3,rfl,rfl⟩⟩⟩⟩⟩
 ·obtain ⟨h1,h2,h3⟩:=U0 (bs.getD 0 0) f s
  by_cases k:FG bs &&& 32#8=0#8
  ·have h4:FG bs=192#8:=h3.2 k
   cases q:NQ (MK bs)with
   |true=>exact .inr (.inl ⟨if_pos ⟨λj hj=>of_decide_eq_true q j (by rw[bH];omega),k⟩,rfl,.inr ⟨h48,.inr ⟨h1,.inr ⟨h2,.inl ⟨h4,.inl ⟨q,rfl,rfl⟩⟩⟩⟩⟩,s⟩)
   |false=>
    have e:INF bs N=101:=if_neg (λz=>of_decide_eq_false q (λj hj=>z.1 j (by rw[bH]at hj;omega)))
    rw[e];exact .inl ⟨dc,rfl,.inr ⟨h48,.inr ⟨h1,.inr ⟨h2,.inl ⟨h4,.inr ⟨q,rfl,rfl⟩⟩⟩⟩⟩⟩
  ·have e:INF bs N=101:=if_neg (λz=>k z.2)
   rw[e];exact .inl ⟨dc,rfl,.inr ⟨h48,.inr ⟨h1,.inr ⟨h2,.inr ⟨λh=>k (h3.1 h),rfl,rfl⟩⟩⟩⟩⟩
 ·refine .inr (.inr ⟨h48,s, ?_,r⟩)
  rcases Vn (bs.getD 0 0) f s with h|h
  ·exact .inr ⟨h48,.inl ⟨h,rfl,rfl⟩⟩
  ·exact .inr ⟨h48,.inr ⟨f160 h,.inl ⟨h,rfl,rfl⟩⟩⟩
theorem r4w{A B C D:Prop}(h:(¬(A/\B)/\C)\/((A/\B)/\D)):(¬B/\A/\C)\/(B/\¬A/\C)\/(¬B/\¬A/\C)\/(B/\A/\D):=by
 rcases h with ⟨h,c⟩|⟨⟨a,b⟩,d⟩
 ·by_cases a:A
  ·exact .inl ⟨λb=>h ⟨a,b⟩,a,c⟩
  ·by_cases b:B
   ·exact .inr (.inl ⟨b,a,c⟩)
   ·exact .inr (.inr (.inl ⟨b,a,c⟩))
 ·exact .inr (.inr (.inr ⟨b,a,d⟩))
theorem Ll(p:J1.GP)(x y:Zp)(hP:p.P=some (x,y))(hJ:p.J=(x,y,1))(f:BitVec 8)(l:Bool)(hl:(f &&& 32#8 !=0#8)=l)(c:Int)(P:Pt Zp)(h:NY 0 (λQ=>E1.times Q ORD=none) l x y c P)(on:E1.onP P):PUR 111 [J1.PtV p,.bool true,U8 f] (.tuple #[J1.PtV (cA1 P on),I c]):=by
 have hne:p.P=(J1.ju p).P↔y=0:=by
  show p.P=E1.ne p.P↔y=0;rw[hP];exact Ec.ne_iff E1
 have lf:(¬f &&& 32#8=0#8/\l=true)\/(f &&& 32#8=0#8/\l=false):=by
  cases l with
  |true=>exact .inl ⟨l_t hl,rfl⟩
  |false=>exact .inr ⟨l_f hl,rfl⟩
 have gp: ∀{t:J1.GP} {k:Int},((¬E1.times (some (x,y)) ORD=none/\t=J1.dX/\k=104)\/(E1.times (some (x,y)) ORD=none/\p=t/\k=0))->¬(l=true/\y=0)->PUR 111 [J1.PtV p,.bool true,U8 f] (.tuple #[J1.PtV t,I k]):=λg hn=>by
  rw[<-hP]at g;rcases lf with ⟨h1,h2⟩|⟨h1,_⟩
  ·exact yQ p _ f _ (.inl ⟨h1,.inr ⟨λk=>hn ⟨h2,hne.1 k⟩,g⟩⟩)
  ·exact yQ p _ f _ (.inr ⟨h1,g⟩)
 rcases h with ⟨⟨rfl,hy⟩,rfl,rfl⟩|⟨hn,⟨g,rfl,rfl⟩|⟨g,rfl,rfl⟩⟩
 ·exact yQ p _ f _ (.inl ⟨l_t hl,.inl ⟨hne.2 hy,rfl,rfl⟩⟩)
 ·exact gp (.inl ⟨g,rfl,rfl⟩) hn
 ·have e:J1.PtV (cA1 (some (x,y)) on)=J1.PtV p:=J1.ptv_eq hJ.symm
  rw[e];exact gp (.inr ⟨g,rfl,rfl⟩) hn
theorem Ru(e:Option Addr)(cap:Nat)(bs:L8)(c:Int)(P:Pt Zp)(h:D1 bs c P)(on:E1.onP P)(hc:bs.length<=cap)(w:World)(hw:Gt w)(hby:BytesAt w e bs):CLS 55 [.slice e bs.length cap].toArray w (λr w'=>r=.returned (.tuple #[J1.PtV (cA1 P on),I c])/\Grow w w'):=by
 refine Hf func55 O hw<|λhGF=>ae (E:=EE [109,2000109])<|Al 2 hGF J1.zv54<|λb2=>Asg O<|aa<|ae (E:=EE [109,2000109])<|Mv O<|?_;rcases rd3 h with ⟨h0,rfl,hR⟩|⟨rfl,rfl,hR,h6⟩|⟨h48,h6,hR,h⟩
 ·refine Cc O ent108 (λw' hC hG=>nN e cap 48 bs dc dc hc _ _ hR w' hG (hby.grow (ac hC)))<|Mv O<|Ext O O<|Ext O O<|Asg O<|Asg O<|aa<|ah<|ae (E:=EE [109,2000109])<|Mv O<|Bnb true O O (λ_=>bt _ _ _) (bne_iff_ne.2 h0)<|Mv O<|Sk<|Sk<|Sk<|Pk O O O<|aa<|aL O<|ae (E:=EE [109,2000109])<|Ca O (J1.ld)<|Mv O<|Sa 2 hGF O O O bV<|Asg O<|aa<|ak<|Rr<|?_
  exact aG 2 O O O O isAgg54 sizeOf54 sm (λw hw=>⟨rfl,ac hw⟩)
 ·refine Cc O ent108 (λw' hC hG=>nN e cap 48 bs dc dc hc _ _ hR w' hG (hby.grow (ac hC)))<|Mv O<|Ext O O<|Ext O O<|Asg O<|Asg O<|aa<|ah<|ae (E:=EE [109,2000109])<|Mv O<|Bnb false O O (λ_=>bt _ _ _) (rfl)<|Mv O<|Mv O<|Bnr (v:=U8 (FG bs &&& 64#8)) O O (λ_=>bC _ _ 64#8)<|Bnb true O O (λ_=>bI _ _ 0#8) (bne_iff_ne.2 h6)<|Pk O O O<|aa<|aL O<|ae (E:=EE [109,2000109])<|Ca O (J1.ld)<|Mv O<|Sa 2 hGF O O O bV<|Asg O<|aa<|ak<|Rr<|?_
  exact aG 2 O O O O isAgg54 sizeOf54 sm (λw hw=>⟨rfl,ac hw⟩)
 ·refine Cc O ent108 (λw' hC hG=>nN e cap 48 bs dc dc hc _ _ hR w' hG (hby.grow (ac hC)))<|Mv O<|Ext O O<|Ext O O<|Asg O<|Asg O<|aa<|ah<|ae (E:=EE [109,2000109])<|Mv O<|Bnb false O O (λ_=>bt _ _ _) (rfl)<|Mv O<|Mv O<|Bnr (v:=U8 (FG bs &&& 64#8)) O O (λ_=>bC _ _ 64#8)<|Bnb false O O (λ_=>bI _ _ 0#8) (bne_eq_false_iff_eq.2 h6)<|Pk O O O<|aa<|aw O<|aq<|ae (E:=EE [109,2000109])<|Mv O<|?_
  refine bM O O ent109 O O (λw' hw'=>(yN e cap bs om om hc w' (hGF.g _ _ _ hw') (hby.grow (ac hw'))).mono λe' w'' h=> ?_);obtain ⟨b7,c7,k7,rfl,hg,hb7,hob,q3,q2⟩:=h;refine ⟨_,_,rfl,ay hGF,hw'.news ap hg [(33,b7,c7,5)] ?_ bR,bN ap O, ?_⟩
  ·intro n' b' c' t' hl
   rcases aK hl with ⟨_,e⟩|⟨_,hl⟩
   ·cases e;exact ⟨hb7,hob⟩
   ·cases hl
  clear hw' hg hb7 hob;rcases h with ⟨hp,rfl,rfl⟩|⟨hp,h⟩
  ·refine Cc O ent90 (λw' hC hG=>qL _ _ _ (MK bs) (by rw[bH];exact h48) h48 (LP h48▸hp) w' hG (cx (aX (n:=33) O w' hC) (by rw[bH];exact q3)))<|Mv O<|Ext O O<|Ext O O<|Al 6 hGF zv52<|λb6=>Sa 6 hGF O O O bq<|Asg O<|aa<|ah<|ae (E:=EE [109,2000109])<|Mv O<|aU O (λ_=>aF _) O O<|aa<|aL O<|ae (E:=EE [109,2000109])<|Ca O (J1.ld)<|Sa 2 hGF O O O bV<|Asg O<|aa<|ak<|Rr<|?_
   exact aG 2 O O O O isAgg54 sizeOf54 sm (λw hw=>⟨rfl,ac hw⟩)
  ·refine Cc O ent90 (λw' hC hG=>qy _ _ _ (MK bs) (by rw[bH];exact h48) h48 (LP h48▸hp) (X1 bs) (by rw[<-LP h48];rfl) w' hG (cx (aX (n:=33) O w' hC) (by rw[bH];exact q3)))<|Mv O<|Ext O O<|Ext O O<|Al 6 hGF zv52<|λb6=>Sa 6 hGF O O O bq<|Asg O<|aa<|ah<|ae (E:=EE [109,2000109])<|Mv O<|aU O (λ_=>aF _) O O<|aa<|aw O<|aq<|ae (E:=EE [109,2000109])<|La 6 O O bq<|Mv O<|Bnr (v:=U8 (FG bs &&& 32#8)) O O (λ_=>bC _ _ 32#8)<|Bnr (v:=.bool (LB bs)) O O (λ_=>bI _ _ 0#8)<|?_
   rcases h with ⟨hq,rfl,rfl⟩|⟨hq,h⟩
   ·refine Ca O (J1.yr (X1 bs) (LB bs) hq)<|Mv O<|Ext O O<|Ext O O<|Al 8 hGF J1.zv54<|λb8=>Sa 8 hGF O O O bV<|Asg O<|aa<|ae (E:=EE [109,2000109])<|La 8 O O bV<|Mv O<|Mv O<|Ca O (T6 _ _)<|Ext O O<|Ext O O<|Sa 2 hGF O O O bV<|Asg O<|aa<|ak<|Rr<|?_
    exact aG 2 O O O O isAgg54 sizeOf54 sm (λw hw=>⟨rfl,ac hw⟩)
   ·refine Ca O (J1.yA (X1 bs) (LB bs) hq)<|Mv O<|Ext O O<|Ext O O<|Al 8 hGF J1.zv54<|λb8=>Sa 8 hGF O O O bV<|Asg O<|aa<|ae (E:=EE [109,2000109])<|La 8 O O bV<|Mv O<|Mv O<|Ca O (Ll (J1.HW (X1 bs) (LB bs) hq) _ _ O O _ _ O c P h on)<|Ext O O<|Ext O O<|Sa 2 hGF O O O bV<|Asg O<|aa<|ak<|Rr<|?_
    exact aG 2 O O O O isAgg54 sizeOf54 sm (λw hw=>⟨rfl,ac hw⟩)
theorem ye(e:Option Addr)(cap len:Nat)(bs:L8)(hn:bs.length=len)(c:Int)(P:Pt Zp)(h:D1 bs c P)(hc:len<=cap)(w:World)(hw:Gt w)(hby:BytesAt w e bs):CLS 55 [.slice e len cap].toArray w (λr w'=>r=.returned (.tuple #[J1.PtV (cA1 P (sF h)),I c])/\Grow w w'):=by
 subst hn;exact Ru e cap bs c P h (sF h) hc w hw hby
theorem JW(p:J2.GP)(x y:W2)(hP:p.P=some (x,y))(hJ:p.J=(x,y,on2))(f:BitVec 8)(l:Bool)(hl:(f &&& 32#8 !=0#8)=l)(c:Int)(P:Pt W2)(h:NY ze2 (λQ=>E2w.times Q ORD=none) l x y c P)(on:E2w.onP P):PUR 187 [J2.PtV p,.bool true,U8 f] (.tuple #[J2.PtV (cA2 P on),I c]):=by
 have hne:p.P=(J2.ju p).P↔y=ze2:=by
  show p.P=E2w.ne p.P↔y=ze2;rw[hP];exact Ec.ne_iff E2w
 have lf:(¬f &&& 32#8=0#8/\l=true)\/(f &&& 32#8=0#8/\l=false):=by
  cases l with
  |true=>exact .inl ⟨l_t hl,rfl⟩
  |false=>exact .inr ⟨l_f hl,rfl⟩
 have gp: ∀{t:J2.GP} {k:Int},((¬E2w.times (some (x,y)) ORD=none/\t=J2.dX/\k=104)\/(E2w.times (some (x,y)) ORD=none/\p=t/\k=0))->¬(l=true/\y=ze2)->PUR 187 [J2.PtV p,.bool true,U8 f] (.tuple #[J2.PtV t,I k]):=λg hn=>by
  rw[<-hP]at g;rcases lf with ⟨h1,h2⟩|⟨h1,_⟩
  ·exact xT p _ f _ (.inl ⟨h1,.inr ⟨λk=>hn ⟨h2,hne.1 k⟩,g⟩⟩)
  ·exact xT p _ f _ (.inr ⟨h1,g⟩)
 rcases h with ⟨⟨rfl,hy⟩,rfl,rfl⟩|⟨hn,⟨g,rfl,rfl⟩|⟨g,rfl,rfl⟩⟩
 ·exact xT p _ f _ (.inl ⟨l_t hl,.inl ⟨hne.2 hy,rfl,rfl⟩⟩)
 ·exact gp (.inl ⟨g,rfl,rfl⟩) hn
 ·have e:J2.PtV (cA2 (some (x,y)) on)=J2.PtV p:=J2.ptv_eq hJ.symm
  rw[e];exact gp (.inr ⟨g,rfl,rfl⟩) hn
theorem QV(e:Option Addr)(cap:Nat)(bs:L8)(c:Int)(P:Pt W2)(h:D2 bs c P)(on:E2w.onP P)(hc:bs.length<=cap)(w:World)(hw:Gt w)(hby:BytesAt w e bs):CLS 128 [.slice e bs.length cap].toArray w (λr w'=>r=.returned (.tuple #[J2.PtV (cA2 P on),I c])/\Grow w w'):=by
 refine Hf func128 O hw<|λhGF=>ae (E:=EE [109,2000109])<|Al 2 hGF J2.zv94<|λb2=>Asg O<|aa<|ae (E:=EE [109,2000109])<|Mv O<|?_;rcases rd3 h with ⟨h0,rfl,hR⟩|⟨rfl,rfl,hR,h6⟩|⟨h48,h6,hR,h⟩
 ·refine Cc O ent108 (λw' hC hG=>nN e cap 96 bs dc dc hc _ _ hR w' hG (hby.grow (ac hC)))<|Mv O<|Ext O O<|Ext O O<|Asg O<|Asg O<|aa<|ah<|ae (E:=EE [109,2000109])<|Mv O<|Bnb true O O (λ_=>bt _ _ _) (bne_iff_ne.2 h0)<|Mv O<|Sk<|Sk<|Sk<|Pk O O O<|aa<|aL O<|ae (E:=EE [109,2000109])<|Ca O (J2.ld)<|Mv O<|Sa 2 hGF O O O cf<|Asg O<|aa<|ak<|Rr<|?_
  exact aG 2 O O O O isAgg94 sizeOf94 sm (λw hw=>⟨rfl,ac hw⟩)
 ·refine Cc O ent108 (λw' hC hG=>nN e cap 96 bs dc dc hc _ _ hR w' hG (hby.grow (ac hC)))<|Mv O<|Ext O O<|Ext O O<|Asg O<|Asg O<|aa<|ah<|ae (E:=EE [109,2000109])<|Mv O<|Bnb false O O (λ_=>bt _ _ _) (rfl)<|Mv O<|Mv O<|Bnr (v:=U8 (FG bs &&& 64#8)) O O (λ_=>bC _ _ 64#8)<|Bnb true O O (λ_=>bI _ _ 0#8) (bne_iff_ne.2 h6)<|Pk O O O<|aa<|aL O<|ae (E:=EE [109,2000109])<|Ca O (J2.ld)<|Mv O<|Sa 2 hGF O O O cf<|Asg O<|aa<|ak<|Rr<|?_
  exact aG 2 O O O O isAgg94 sizeOf94 sm (λw hw=>⟨rfl,ac hw⟩)
 ·refine Cc O ent108 (λw' hC hG=>nN e cap 96 bs dc dc hc _ _ hR w' hG (hby.grow (ac hC)))<|Mv O<|Ext O O<|Ext O O<|Asg O<|Asg O<|aa<|ah<|ae (E:=EE [109,2000109])<|Mv O<|Bnb false O O (λ_=>bt _ _ _) (rfl)<|Mv O<|Mv O<|Bnr (v:=U8 (FG bs &&& 64#8)) O O (λ_=>bC _ _ 64#8)<|Bnb false O O (λ_=>bI _ _ 0#8) (bne_eq_false_iff_eq.2 h6)<|Pk O O O<|aa<|aw O<|aq<|ae (E:=EE [109,2000109])<|Mv O<|?_
  refine bM O O ent109 O O (λw' hw'=>(yN e cap bs om om hc w' (hGF.g _ _ _ hw') (hby.grow (ac hw'))).mono λe' w'' h=> ?_);obtain ⟨b7,c7,k7,rfl,hg,hb7,hob,q3,q2⟩:=h;refine ⟨_,_,rfl,ay hGF,hw'.news ap hg [(33,b7,c7,5)] ?_ bR,bN ap O, ?_⟩
  ·intro n' b' c' t' hl
   rcases aK hl with ⟨_,e⟩|⟨_,hl⟩
   ·cases e;exact ⟨hb7,hob⟩
   ·cases hl
  clear hw' hg hb7 hob;refine Asg O<|aa<|ae (E:=EE [109,2000109])<|Mv O<|fR (l:=0) (h':=48) (m:=48) O underlying22 sizeOf5 O O O ⟨dc,Nat.le_refl _,om⟩ O O<|?_;rcases r4w h with ⟨hp2,hp,rfl,rfl⟩|⟨hp2,hp,rfl,rfl⟩|⟨hp2,hp,rfl,rfl⟩|⟨hp2,hp,h⟩
  ·refine Cc O ent90 (λw' hC hG=>qL _ _ _ (LO bs 0) (gb om) O hp2 w' hG (BytesAt.cut3 (cx (aX (n:=33) O w' hC) (by rw[bH];exact q3)) 0 48 48 dc))<|Mv O<|Ext O O<|Ext O O<|Al 7 hGF zv52<|λb7=>Sa 7 hGF O O O bq<|Asg O<|aa<|ae (E:=EE [109,2000109])<|Mv O<|fR (l:=48) (h':=96) (m:=96) O underlying22 sizeOf5 O O O ⟨dc,Nat.le_refl _,om⟩ O O<|Cc O ent90 (λw' hC hG=>qy _ _ _ (LO bs 48) (gb om) O hp (X2 bs).1 O w' hG (BytesAt.cut3 (cx (aX (n:=33) O w' hC) (by rw[bH];exact q3)) 48 48 96 dc))<|Mv O<|Ext O O<|Ext O O<|Al 9 hGF zv52<|λb9=>Sa 9 hGF O O O bq<|Asg O<|aa<|ah<|ae (E:=EE [109,2000109])<|Mv O<|aU O (λ_=>aF _) O O<|Mv O<|Sk<|Sk<|Pk O O O<|aa<|aL O<|ae (E:=EE [109,2000109])<|Ca O (J2.ld)<|Sa 2 hGF O O O cf<|Asg O<|aa<|ak<|Rr<|?_
   exact aG 2 O O O O isAgg94 sizeOf94 sm (λw hw=>⟨rfl,ac hw⟩)
  ·refine Cc O ent90 (λw' hC hG=>qy _ _ _ (LO bs 0) (gb om) O hp2 (X2 bs).2 O w' hG (BytesAt.cut3 (cx (aX (n:=33) O w' hC) (by rw[bH];exact q3)) 0 48 48 dc))<|Mv O<|Ext O O<|Ext O O<|Al 7 hGF zv52<|λb7=>Sa 7 hGF O O O bq<|Asg O<|aa<|ae (E:=EE [109,2000109])<|Mv O<|fR (l:=48) (h':=96) (m:=96) O underlying22 sizeOf5 O O O ⟨dc,Nat.le_refl _,om⟩ O O<|Cc O ent90 (λw' hC hG=>qL _ _ _ (LO bs 48) (gb om) O hp w' hG (BytesAt.cut3 (cx (aX (n:=33) O w' hC) (by rw[bH];exact q3)) 48 48 96 dc))<|Mv O<|Ext O O<|Ext O O<|Al 9 hGF zv52<|λb9=>Sa 9 hGF O O O bq<|Asg O<|aa<|ah<|ae (E:=EE [109,2000109])<|Mv O<|aU O (λ_=>aF _) O O<|Mv O<|Mv O<|aU O (λ_=>aF _) O O<|Pk O O O<|aa<|aL O<|ae (E:=EE [109,2000109])<|Ca O (J2.ld)<|Sa 2 hGF O O O cf<|Asg O<|aa<|ak<|Rr<|?_
   exact aG 2 O O O O isAgg94 sizeOf94 sm (λw hw=>⟨rfl,ac hw⟩)
  ·refine Cc O ent90 (λw' hC hG=>qL _ _ _ (LO bs 0) (gb om) O hp2 w' hG (BytesAt.cut3 (cx (aX (n:=33) O w' hC) (by rw[bH];exact q3)) 0 48 48 dc))<|Mv O<|Ext O O<|Ext O O<|Al 7 hGF zv52<|λb7=>Sa 7 hGF O O O bq<|Asg O<|aa<|ae (E:=EE [109,2000109])<|Mv O<|fR (l:=48) (h':=96) (m:=96) O underlying22 sizeOf5 O O O ⟨dc,Nat.le_refl _,om⟩ O O<|Cc O ent90 (λw' hC hG=>qL _ _ _ (LO bs 48) (gb om) O hp w' hG (BytesAt.cut3 (cx (aX (n:=33) O w' hC) (by rw[bH];exact q3)) 48 48 96 dc))<|Mv O<|Ext O O<|Ext O O<|Al 9 hGF zv52<|λb9=>Sa 9 hGF O O O bq<|Asg O<|aa<|ah<|ae (E:=EE [109,2000109])<|Mv O<|aU O (λ_=>aF _) O O<|Mv O<|Sk<|Sk<|Pk O O O<|aa<|aL O<|ae (E:=EE [109,2000109])<|Ca O (J2.ld)<|Sa 2 hGF O O O cf<|Asg O<|aa<|ak<|Rr<|?_
   exact aG 2 O O O O isAgg94 sizeOf94 sm (λw hw=>⟨rfl,ac hw⟩)
  ·refine Cc O ent90 (λw' hC hG=>qy _ _ _ (LO bs 0) (gb om) O hp2 (X2 bs).2 O w' hG (BytesAt.cut3 (cx (aX (n:=33) O w' hC) (by rw[bH];exact q3)) 0 48 48 dc))<|Mv O<|Ext O O<|Ext O O<|Al 7 hGF zv52<|λb7=>Sa 7 hGF O O O bq<|Asg O<|aa<|ae (E:=EE [109,2000109])<|Mv O<|fR (l:=48) (h':=96) (m:=96) O underlying22 sizeOf5 O O O ⟨dc,Nat.le_refl _,om⟩ O O<|Cc O ent90 (λw' hC hG=>qy _ _ _ (LO bs 48) (gb om) O hp (X2 bs).1 O w' hG (BytesAt.cut3 (cx (aX (n:=33) O w' hC) (by rw[bH];exact q3)) 48 48 96 dc))<|Mv O<|Ext O O<|Ext O O<|Al 9 hGF zv52<|λb9=>Sa 9 hGF O O O bq<|Asg O<|aa<|ah<|ae (E:=EE [109,2000109])<|Mv O<|aU O (λ_=>aF _) O O<|Mv O<|Mv O<|aU O (λ_=>aF _) O O<|Pk O O O<|aa<|aw O<|aq<|ae (E:=EE [109,2000109])<|La 9 O O bq<|La 7 O O bq<|cF fx O O sm sm O O<|Mv O<|Bnr (v:=U8 (FG bs &&& 32#8)) O O (λ_=>bC _ _ 32#8)<|Bnr (v:=.bool (LB bs)) O O (λ_=>bI _ _ 0#8)<|?_
   rcases h with ⟨hq,rfl,rfl⟩|⟨r,hr,hlr,h⟩
   ·refine Ca O (J2.yr (X2 bs) (LB bs) hq)<|Mv O<|Ext O O<|Ext O O<|Al 11 hGF J2.zv94<|λb11=>Sa 11 hGF O O O cf<|Asg O<|aa<|ae (E:=EE [109,2000109])<|La 11 O O cf<|Mv O<|Mv O<|Ca O (R7 _ _)<|Ext O O<|Ext O O<|Sa 2 hGF O O O cf<|Asg O<|aa<|ak<|Rr<|?_
    exact aG 2 O O O O isAgg94 sizeOf94 sm (λw hw=>⟨rfl,ac hw⟩)
   ·refine Ca O (J2.yA (X2 bs) r hr hlr (LB bs))<|Mv O<|Ext O O<|Ext O O<|Al 11 hGF J2.zv94<|λb11=>Sa 11 hGF O O O cf<|Asg O<|aa<|ae (E:=EE [109,2000109])<|La 11 O O cf<|Mv O<|Mv O<|Ca O (JW (J2.gRt (X2 bs) r hr (LB bs)) _ _ O O _ _ O c P h on)<|Ext O O<|Ext O O<|Sa 2 hGF O O O cf<|Asg O<|aa<|ak<|Rr<|?_
    exact aG 2 O O O O isAgg94 sizeOf94 sm (λw hw=>⟨rfl,ac hw⟩)
theorem TK(e:Option Addr)(cap len:Nat)(bs:L8)(hn:bs.length=len)(c:Int)(P:Pt W2)(h:D2 bs c P)(hc:len<=cap)(w:World)(hw:Gt w)(hby:BytesAt w e bs):CLS 128 [.slice e len cap].toArray w (λr w'=>r=.returned (.tuple #[J2.PtV (cA2 P (kY h)),I c])/\Grow w w'):=by
 subst hn;exact QV e cap bs c P h (kY h) hc w hw hby
namespace Q6
def FF(f:Nat->W2)(i:Nat):L6:=fe2 (f i)
theorem gA(f:Nat->W2)(v:W2)(n k o:Nat)(hk:k<n)(ho:o=12*k)(hv:f k=v): ∀j u,((fe v.1++fe v.2).map U64)[j]? =some u->((FM (FF f) n).map U64)[o+j]? =some u:=by
 subst hv;exact BZ (FF f) n k hk (aZ _) o ho
theorem uk(f g:Nat->W2)(v:W2)(n k o:Nat)(hk:k<n)(ho:o=12*k)(hg: ∀i,i<n->g i=if i=k then v else f i):lay o ((fe v.1++fe v.2).map U64) ((FM (FF f) n).map U64)=(FM (FF g) n).map U64:=by
 have h:=um (FF f) n k (fe2 v) hk (aZ _) o ho;refine h.trans (congrArg (List.map U64) (nj λi hi=> ?_));show (if i=k then fe2 v else fe2 (f i))=fe2 (g i)
 rw[hg i hi];split<;>rfl
theorem wz{f g:Nat->W2}{n:Nat}(h: ∀i,i<n->f i=g i):FM (FF f) n=FM (FF g) n:=nj λi hi=>congrArg fe2 (h i hi)
theorem eX(f:Nat->W2)(n:Nat):(FM (FF f) n).length=12*n:=bd _ _
theorem zg(A B:Nat->W2)(i j:Nat):(if j<i+1 then A j else B j)=if j=i then A i else (if j<i then A j else B j):=by
 by_cases h:j=i
 ·subst h;rw[if_pos (Nat.lt_succ_self _),if_pos O]
 ·rw[if_neg h]
  by_cases h':j<i
  ·rw[if_pos h',if_pos (Nat.lt_succ_of_lt h')]
  ·rw[if_neg h',if_neg (λe=>h' (Nat.lt_of_le_of_ne (Nat.le_of_lt_succ e) h))]
theorem vk(n:Nat):FM (FF λ_=>ze2) n=FM (λ_=>List.replicate 12 0#64) n:=nj λi _=>by
 show fe2 ze2=_;rw[show fe2 ze2=fe 0++fe 0 from O,iZ];rfl
attribute [local simp] eX
end Q6
namespace Q6
attribute [local simp] eX
end Q6
namespace Q6
attribute [local simp] eX
end Q6
theorem ent245:ai prog 245:=λ_ _=>kr
theorem ent292:ai prog 292:=λ_ _=>kr
theorem ent244:ai prog 244:=λ_ _=>kr
theorem ent277:ai prog 277:=λ_ _=>kr
theorem ent221:ai prog 221:=λ_ _=>kr
theorem ent276:ai prog 276:=λ_ _=>kr
theorem ent250:ai prog 250:=λ_ _=>kr
theorem ent243:ai prog 243:=λ_ _=>kr
theorem ent242:ai prog 242:=λ_ _=>kr
theorem ent252:ai prog 252:=λ_ _=>kr
theorem ent220:ai prog 220:=λ_ _=>kr
theorem ent249:ai prog 249:=λ_ _=>kr
namespace Q6
attribute [local simp] eX
abbrev EV6(x:W6):Value:=aI ((fe (x.1).1++fe (x.1).2)++((fe (x.2.1).1++fe (x.2.1).2)++(fe (x.2.2).1++fe (x.2.2).2)))
theorem zv231(w:World):(zeroValue 231).run prog w=.ok (aI ((fe 0++fe 0)++((fe 0++fe 0)++(fe 0++fe 0)))) w:=by rw[iZ];exact (zeroValue231 w).trans rr
theorem kS:Three prog 231 ⟨ "C0",92,0,false, "", "",0⟩ ⟨ "C1",92,12,false, "", "",96⟩ ⟨ "C2",92,24,false, "", "",192⟩ 12 (fe 0++fe 0) (fe 0++fe 0) (fe 0++fe 0):=⟨underlying231,rfl,rfl,rfl,sizeOf92,sizeOf92,sizeOf92,zv231,sm,sm,sm⟩
theorem e6{a b c a' b' c':W2}(h1:a=a')(h2:b=b')(h3:c=c'):Ending.returned (aI ((fe (a).1++fe (a).2)++((fe (b).1++fe (b).2)++(fe (c).1++fe (c).2))))=.returned (aI ((fe (a').1++fe (a').2)++((fe (b').1++fe (b').2)++(fe (c').1++fe (c').2)))):=by rw[h1,h2,h3]
def q6:Sh W6:=q2.two (q2.two q2 2) 2
theorem V6(x:W6):EV6 x=dn rid (.inl [x.1.1,x.1.2,x.2.1.1,x.2.1.2,x.2.2.1,x.2.2.2]):=by
 show Value.agg _=Value.agg _;rw[clv,show cel [x.1.1,x.1.2,x.2.1.1,x.2.1.2,x.2.2.1,x.2.2.2]=fe x.1.1++(fe x.1.2++(fe x.2.1.1++(fe x.2.1.2++(fe x.2.2.1++fe x.2.2.2))))from O];rw[List.append_assoc,List.append_assoc]
theorem bF{f:Nat}{a a':List Value}{v v':Value}(ha:a=a')(hv:v=v')(h:PUR f a' v'):PUR f a v:=by rw[ha,hv];exact h
theorem l1{a b:Value}(h:a=b):[a]=[b]:=by rw[h]
theorem l2{a b c d:Value}(h:a=b)(k:c=d):[a,c]=[b,d]:=by rw[h,k]
theorem l3{a b c d e f:Value}(h:a=b)(k:c=d)(l:e=f):[a,c,e]=[b,d,f]:=by rw[h,k,l]
theorem t2{a b c:Value}(h:a=b):Value.tuple #[a,c]=.tuple #[b,c]:=by rw[h]
end Q6
theorem ent280:ai prog 280:=λ_ _=>kr
namespace Q6
attribute [local simp] eX
def p3(x:W6):Nat->W2
 |0=>x.1
 |1=>x.2.1
 |_=>x.2.2
theorem zv288(w:World):(zeroValue 288).run prog w=.ok (aI (FM (FF λ_=>ze2) 3)) w:=by
 rw[vk];exact (zeroValue288 w).trans rr
abbrev TV3(f:Nat->W2):Value:=aI (FM (FF f) 3)
theorem p7(f:Nat->W2)(i:Nat):(FF f i).length=12:=aZ _
attribute [local simp] p7
theorem Re{x y:W6}(h: ∀j,j<3->p3 x j=p3 y j):x=y:=Prod.ext (h 0 dc) (Prod.ext (h 1 dc) (h 2 dc))
theorem lt_s{Q:Nat->Prop}{k:Nat}(h: ∀j,j<k->Q j)(hk:Q k): ∀j,j<k+1->Q j:=λj hj=>by
 rcases Nat.lt_or_ge j k with h1|h1
 ·exact h j h1
 ·obtain rfl:j=k:=om
  exact hk
theorem Fi(x:W6):PUR 251 [EV6 x] (TV3 (p3 x)):=by
 intro w hw;refine Hf func251 O hw<|λhGF=>Xp<|Bx 1 hGF O<|λb1=>Al 2 hGF zv288<|λb2=>aa<|Xp<|Fa 0 O underlying231 O sizeOf92<|av 1 _ O O isAgg92 sizeOf92 sm eu O O<|Fa 12 O underlying231 O sizeOf92<|av 1 _ O O isAgg92 sizeOf92 sm (kN sm) O O<|Fa 24 O underlying231 O sizeOf92<|av 1 _ O O isAgg92 sizeOf92 sm (gV (m:=12) (n:=12) sm sm O) O O<|Jh (FF (p3 x)) O O O underlying288 sizeOf92 zv288 (aZ _) (aZ _) (aZ _) O O<|Sa 2 hGF O O O GT<|aa<|ak<|Rr<|?_;exact au 2 O O O isAgg288 sizeOf288 sm (λw hw=>⟨rfl,ac hw⟩)
theorem k6of(f:Nat->W2):PUR 279 [TV3 f] (EV6 (f 0,f 1,f 2)):=by
 intro w hw;refine Hf func279 O hw<|λhGF=>Xp<|Bx 1 hGF O<|λb1=>Al 2 hGF zv231<|λb2=>aa<|Xp<|eY (0) (12*(0)) O O underlying288 sizeOf92 om om om O O<|av 1 ((fe (f 0).1++fe (f 0).2).map U64) O O isAgg92 sizeOf92 sm (gA _ (f 0) 3 (0) _ om O (rfl)) O O<|eY (1) (12*(1)) O O underlying288 sizeOf92 om om om O O<|av 1 ((fe (f 1).1++fe (f 1).2).map U64) O O isAgg92 sizeOf92 sm (gA _ (f 1) 3 (1) _ om O (rfl)) O O<|eY (2) (12*(2)) O O underlying288 sizeOf92 om om om O O<|av 1 ((fe (f 2).1++fe (f 2).2).map U64) O O isAgg92 sizeOf92 sm (gA _ (f 2) 3 (2) _ om O (rfl)) O O<|ez kS O O O sm sm sm O O<|Sa 2 hGF O O O dk<|aa<|ak<|Rr<|?_;exact au 2 O O O isAgg231 sizeOf231 sm (λw hw=>⟨rfl,ac hw⟩)
theorem lR(x:W6)(w:World)(hw:Gt w):CLS 252 [EV6 x].toArray w (λe w'=> ∃b1,e=.returned (.func (.func 280) #[] #[pnt b1])/\Grow w w'/\w.heap.size<=b1/\OwnB w' b1 (((fe (x.1).1++fe (x.1).2)++((fe (x.2.1).1++fe (x.2.1).2)++(fe (x.2.2).1++fe (x.2.2).2))).map U64) 231):=by
 refine Hf func252 O hw<|λhGF=>Xp<|Bx 1 hGF O<|λb1=>Asg O<|aa<|Xp<|fP O O O O<|Asg O<|aa<|ak<|Rr<|?_;exact aO O O (λw hw=>⟨b1,rfl,ac hw,(hw.own 1 b1 _ _ O).2.elim id False.elim,(hw.own 1 b1 _ _ O).1⟩)
def PS(x:W6):List (List Value):=(List.range 3).map λ(k:Nat)=>[I (k:Int),EV2 (p3 x k)]
theorem uq(x:W6):(PS x).length=3:=by rw[PS,List.length_map,List.length_range]
theorem Dy(x:W6)(k:Nat)(h:k<3):(PS x)[k]? =some [I (k:Int),EV2 (p3 x k)]:=by
 rw[PS,List.getElem?_map,List.getElem?_range h];rfl
theorem Oj(x:W6)(k:Nat)(v:List Value)(h:(PS x)[k]? =some v):k<3/\v=[I (k:Int),EV2 (p3 x k)]:=by
 have hk:k<3:=by
  rcases Nat.lt_or_ge k 3 with hk|hk
  ·exact hk
  ·rw[List.getElem?_eq_none (by rw[uq];exact hk)]at h;cases h
 exact ⟨hk,(Option.some.inj ((Dy x k hk).symm.trans h)).symm⟩
def RdP(bb:Nat)(x:W6):Cls:=λw=>w.rangeAt bb 0 (((fe (x.1).1++fe (x.1).2)++((fe (x.2.1).1++fe (x.2.1).2)++(fe (x.2.2).1++fe (x.2.2).2))).map U64)
theorem Me(bb:Nat)(x:W6):eS prog Gt 280 [pnt bb] (PS x) (RdP bb x):=by
 intro l J Jx hJ hJx hRd hGx hY w hj;have okJ: ∀k,BOk Gt (Bi w (λY=>J Y k)):=λk=>⟨λ_ _ _ h=>(hRd _ _ _ h.rid).1,hJ k⟩;have okX: ∀k,BOk Gt (Bi w (λY=>Jx Y k)):=λk=>⟨λ_ _ _ h=>hGx _ _ _ h.rid,hJx k⟩;have c1: ∀k L w',Hp (Bi w (λY=>J Y k)) L w'->RdP bb x w':=λk L w' h=>(hRd _ _ _ h.rid).2;refine ch (G:=Gt) func280 O O (Hp (Bi w (λY=>J Y 0)) []) (bZ (Bi w _) hj (hJ 0)) (ay (okJ 0))<|Xp<|dK O isAgg231 sizeOf231 sm (λw h=>c1 _ _ w h) O O<|Ca O (Fi _)<|Mv O<|aa<|am<|fV (ι:={i:Nat // i<=3}) (λy=>[(0,.func (.yield l) #[] #[]),(1,pnt bb),(6,TV3 (p3 x)),(7,I (y.1:Int))]) (λy=>Bi w (λY=>J Y y.1)) (λy=>[]) (λy=>3-y.1) ⟨0,Nat.zero_le _⟩ (λ_=>okJ _) O trv trivial<|?_;rintro ⟨i,hi⟩;dsimp only;refine Xp<|Bnr O O (λ_=>aC _ _ _)<|aa<|ah<|?_;refine bE O (λhc=> ?_) (λhc=> ?_)
 ·have hi2:i<3:=by simp at hc;omega
  refine aq<|ah<|am<|Xp<|Mv O<|BB (FF (p3 x)) (i) O O underlying288 sizeOf92 isAgg92 om om (aZ _) O O<|Al 4 (okJ _) zv92<|λb4=>Asg O<|Sa 4 (okJ _) O O O aR<|aa<|Xp<|Mv O<|Mv O<|La 4 O O aR<|?_;refine c9 (hY.b (k:=i) (Dy x i om) w) (okJ _) (okX _) O O O O O ?_ ?_
  ·refine aU O (λ_=>aF _) O O<|aa<|aw O<|aq<|Xq<|Bnr O O (λ_=>az _ _ _ oi)<|Mv O<|aa<|?_
   repeat (refine aW ?_)
   exact aQ<|⟨rfl,⟨i+1,om⟩,_,by show 3-(i+1)<3-i;omega,rfl,trv,trivial⟩
  ·refine aU O (λ_=>aF _) O O<|aa<|aL O<|ak<|Rr<|?_
   repeat (first|refine df ?_|refine ce ?_|refine dd O ?_|refine bx ?_|refine bv ?_)
   exact cX O (λw hw=>⟨⟨_,rfl⟩,.inr ⟨_,bG (hJx _) hw.rid⟩⟩)
 ·obtain rfl:i=3:=by simp at hc;omega
  refine a6 ?_
  repeat (first|refine df ?_|refine ce ?_|refine dd O ?_|refine bx ?_|refine bv ?_)
  refine cy O (λw hw=>⟨⟨_,rfl⟩,.inl ?_⟩);have:=bG (hJ _) hw.rid;rw[uq];exact this
theorem Mk  :PUR 221 [] (EV6 K6.one):=(bF O (V6 _) (pE TO52 func221 [] (.inl (.inl [K6.one.1.1,K6.one.1.2,K6.one.2.1.1,K6.one.2.1.2,K6.one.2.2.1,K6.one.2.2.2])) (let t0:=on2;(.inl (.inl [t0.1,t0.2,0,0,0,0]),[])) [] kr aD O))
theorem zS{f:Nat}{g:W6}(en:ai prog f)(h:PUR f [] (EV6 g)):Snd prog Gt f (c0 q6.rd g):=vS q6.rd en (bF O (V6 _).symm h)
def TO53:Tb prog Gt:=TO52.add (zS (g:=K6.one) ent221 Mk)
theorem pz(x y:W6):PUR 220 [EV6 x,EV6 y] (.bool (decide (x=y))):=by
 intro w hw;have hGF:BOk Gt (pl w):=gt_low.plain hw;refine ck (G:=Gt) func220 O O (Hp (pl w) []) (bZ (pl w) trivial ap) (ay hGF)<|ae (E:=EE [252])<|Bx 2 hGF O<|λb2=>Bx 3 hGF O<|λb3=>fT 4 hGF zeroValue4 O O<|λb4=>aa<|ae (E:=EE [252])<|La 3 O O dk<|Ca O (Fi _)<|Al 5 hGF zv288<|λb5=>Sa 5 hGF O O O GT<|aa<|ah<|ae (E:=EE [252])<|La 2 O O dk<|?_;refine dp O O ent252 O O (λw' hw'=>(lR x w' (hGF.g _ _ _ hw')).mono λe' w'' h=> ?_);obtain ⟨c1,rfl,hg,h1,ho⟩:=h;refine ⟨_,_,rfl,ay hGF,hw'.news ap hg [(33,c1,((fe (x.1).1++fe (x.1).2)++((fe (x.2.1).1++fe (x.2.1).2)++(fe (x.2.2).1++fe (x.2.2).2))).map U64,231)] ?_ bR, ?_⟩
 ·intro n' b' c' t' hl
  rcases aK hl with ⟨_,e⟩|⟨_,hl⟩
  ·cases e;exact ⟨h1,ho⟩
  ·cases hl
 clear hw' hg h1 ho;refine aa<|am<|?_;refine vU (λk=> ∀j,j<k->p3 x j=p3 y j) (λ_=>pl w) (λ_ _=>pl w) (λ_=>hGF) (λ_ _=>hGF) (λ_=>rfl) (λ_ _=>rfl) O O ent280 (Me c1 x) (λv hv=>by obtain ⟨k,hk,rfl⟩:=List.mem_map.1 hv;rfl) O (λk=>[(2,b2,((fe (x.1).1++fe (x.1).2)++((fe (x.2.1).1++fe (x.2.1).2)++(fe (x.2.2).1++fe (x.2.2).2))).map U64,231),(3,b3,((fe (y.1).1++fe (y.1).2)++((fe (y.2.1).1++fe (y.2.1).2)++(fe (y.2.2).1++fe (y.2.2).2))).map U64,231),(4,b4,[.bool false],4),(5,b5,(FM (FF (p3 y)) 3).map U64,288),(33,c1,((fe (x.1).1++fe (x.1).2)++((fe (x.2.1).1++fe (x.2.1).2)++(fe (x.2.2).1++fe (x.2.2).2))).map U64,231)]) (λc _ L'=>c=.ret/\lkB L' 4=some (b4,[.bool false],4)/\¬x=y) (λj h=>absurd h (Nat.not_lt_zero j)) trv (λk _ w' h=>aX (n:=33) O w' h) ?_ ?_ ?_ (λD c k L' hD h=>by obtain ⟨rfl,hl,hne⟩:=h;refine E7 ?_;refine bv ?_;refine bx ?_;exact (dr (.inl O) ap (sL 4 O O hl isAgg4 (λw hw=>⟨congrArg (λb=>Ending.returned (.bool b)) (decide_eq_false hne).symm,ac hw⟩))))
 ·intro k v hx hQ R hR
  obtain ⟨hk,rfl⟩:=Oj x k v hx;refine ae (E:=EE [252])<|Asg O<|aa<|bQ (E:=EE [252])<|dJ 7 (hR (pl w) O hGF).1 zv92 O O<|λb7=>aA 7 (hR (pl w) O hGF).1 O O O sizeOf92 sm sm (bi _) O<|aa<|?_;refine ⟨rfl,_,rfl, ?_⟩;refine am<|Xd [252]<|La 7 O O aR<|Mv O<|eY (k) (12*(k)) O O underlying288 sizeOf92 om om om O O<|av 5 ((fe (p3 y k).1++fe (p3 y k).2).map U64) O O isAgg92 sizeOf92 sm (gA _ (p3 y k) 3 (k) _ om O (rfl)) O O<|Ca O (tO _ _)<|aU O (λ_=>aF _) O O<|aa<|?_;refine bE O (λhc=> ?_) (λhc=> ?_)
  ·have hc: ¬p3 x k=p3 y k:=by simpa using hc
   refine ae (E:=EE [252])<|da 4 (hR (pl w) O hGF).2.1 O O O sizeOf4 O (by simp[*]) O<|aa<|ak<|Rr<|?_
   refine Rr ?_;exact ⟨_,rfl,rfl,rfl,λe=>hc (by rw[e])⟩
  ·have hc:p3 x k=p3 y k:=by simpa using hc
   refine aq ?_
   repeat (refine aW ?_)
   exact ⟨_,rfl,Q9 (lt_s hQ hc) trv⟩
 ·intro hQ D hD
  rw[uq]at*;have hxy:=Re hQ;refine ae (E:=EE [252])<|da 4 hD O O O sizeOf4 O (by simp[*]) O<|aa<|ak<|Rr<|?_
  exact dr (.inl O) ap (sL 4 O O O isAgg4 (λw hw=>⟨congrArg (λb=>Ending.returned (.bool b)) (decide_eq_true hxy).symm,ac hw⟩))
 ·intro D hb
  exact aW<|aQ<|pT hb
theorem oG(x y:W6):PUR 243 [EV6 x,EV6 y] (EV6 (K6.add x y)):=(bF (l2 (V6 _) (V6 _)) (V6 _) (pE TO53 func243 [.inl [x.1.1,x.1.2,x.2.1.1,x.2.1.2,x.2.2.1,x.2.2.2],.inl [y.1.1,y.1.2,y.2.1.1,y.2.1.2,y.2.2.1,y.2.2.2]] (.inl (.inl [(K6.add x y).1.1,(K6.add x y).1.2,(K6.add x y).2.1.1,(K6.add x y).2.1.2,(K6.add x y).2.2.1,(K6.add x y).2.2.2])) (let t0:=ad2 (x.1.1,x.1.2) (y.1.1,y.1.2);let t1:=ad2 (x.2.1.1,x.2.1.2) (y.2.1.1,y.2.1.2);let t2:=ad2 (x.2.2.1,x.2.2.2) (y.2.2.1,y.2.2.2);(.inl (.inl [t0.1,t0.2,t1.1,t1.2,t2.1,t2.2]),[])) [] kr aD O))
theorem cw{f:Nat}{g:W6->W6->W6}(en:ai prog f)(h: ∀a b,PUR f [EV6 a,EV6 b] (EV6 (g a b))):Snd prog Gt f (c2 q6.ag q6.ag q6.rd g):=f9 q6.ag q6.ag q6.rd en (λa b=>bF (l2 (V6 _).symm (V6 _).symm) (V6 _).symm (h a b))
def TO54:Tb prog Gt:=TO53.add (cw (g:=K6.add) ent243 oG)
theorem qm(x y:W6):PUR 245 [EV6 x,EV6 y] (EV6 (sb6 x y)):=(bF (l2 (V6 _) (V6 _)) (V6 _) (pE TO54 func245 [.inl [x.1.1,x.1.2,x.2.1.1,x.2.1.2,x.2.2.1,x.2.2.2],.inl [y.1.1,y.1.2,y.2.1.1,y.2.1.2,y.2.2.1,y.2.2.2]] (.inl (.inl [(sb6 x y).1.1,(sb6 x y).1.2,(sb6 x y).2.1.1,(sb6 x y).2.1.2,(sb6 x y).2.2.1,(sb6 x y).2.2.2])) (let t0:=sb2 (x.1.1,x.1.2) (y.1.1,y.1.2);let t1:=sb2 (x.2.1.1,x.2.1.2) (y.2.1.1,y.2.1.2);let t2:=sb2 (x.2.2.1,x.2.2.2) (y.2.2.1,y.2.2.2);(.inl (.inl [t0.1,t0.2,t1.1,t1.2,t2.1,t2.2]),[])) [] kr aD O))
def TO55:Tb prog Gt:=TO54.add (cw (g:=sb6) ent245 qm)
theorem IA(x:W6):PUR 250 [EV6 x] (EV6 (K6.neg x)):=(bF (l1 (V6 _)) (V6 _) (pE TO55 func250 [.inl [x.1.1,x.1.2,x.2.1.1,x.2.1.2,x.2.2.1,x.2.2.2]] (.inl (.inl [(K6.neg x).1.1,(K6.neg x).1.2,(K6.neg x).2.1.1,(K6.neg x).2.1.2,(K6.neg x).2.2.1,(K6.neg x).2.2.2])) (let t0:=ng2 (x.1.1,x.1.2);let t1:=ng2 (x.2.1.1,x.2.1.2);let t2:=ng2 (x.2.2.1,x.2.2.2);(.inl (.inl [t0.1,t0.2,t1.1,t1.2,t2.1,t2.2]),[])) [] kr aD O))
theorem cI{f:Nat}{g:W6->W6}(en:ai prog f)(h: ∀a,PUR f [EV6 a] (EV6 (g a))):Snd prog Gt f (c1 q6.ag q6.rd g):=ga q6.ag q6.rd en (λa=>bF (l1 (V6 _).symm) (V6 _).symm (h a))
def TO56:Tb prog Gt:=TO55.add (cI (g:=K6.neg) ent250 IA)
theorem mt(x y:W6):PUR 242 [EV6 x,EV6 y] (EV6 (K6.mul x y)):=by
 intro w hw;refine Hf func242 O hw<|λhGF=>Xp<|Bx 2 hGF O<|λb2=>Bx 3 hGF O<|λb3=>Al 4 hGF zv231<|λb4=>aa<|fb (E:=EE [2999999]) [0,1,2,3,4,5,6,7,8,9,10,11,12,13,14] [⟨15,5,92,(fe 0++fe 0).map U64⟩,⟨16,6,92,(fe 0++fe 0).map U64⟩,⟨17,7,92,(fe 0++fe 0).map U64⟩] [18,19,20] dU O kr kr kr kr kr kr dc (by intro x hx;simp only[List.mem_cons,List.not_mem_nil,or_false]at hx;rcases hx with rfl|rfl|rfl<;>exact bg O zv92 O)<|Fa 0 O underlying231 O sizeOf92<|av 2 _ O O isAgg92 sizeOf92 sm eu O O<|Fa 0 O underlying231 O sizeOf92<|av 3 _ O O isAgg92 sizeOf92 sm eu O O<|Ca O (dv _ _)<|Fa 12 O underlying231 O sizeOf92<|av 2 _ O O isAgg92 sizeOf92 sm (kN sm) O O<|Fa 12 O underlying231 O sizeOf92<|av 3 _ O O isAgg92 sizeOf92 sm (kN sm) O O<|Ca O (dv _ _)<|Fa 24 O underlying231 O sizeOf92<|av 2 _ O O isAgg92 sizeOf92 sm (gV (m:=12) (n:=12) sm sm O) O O<|Fa 24 O underlying231 O sizeOf92<|av 3 _ O O isAgg92 sizeOf92 sm (gV (m:=12) (n:=12) sm sm O) O O<|Ca O (dv _ _)<|aa<|?_
 refine ⟨_,_,rfl,hGF,by intro x hx;simp only[List.mem_cons,List.not_mem_nil,or_false]at hx;rcases hx with rfl|rfl|rfl<;>rfl,by intro x hx;simp only[List.mem_cons,List.not_mem_nil,or_false]at hx;rcases hx with rfl|rfl|rfl<;>rfl,λadr=> ?_⟩
 refine Sa 5 hGF O O O aR<|Sa 6 hGF O O O aR<|Sa 7 hGF O O O aR<|aa<|Xa [0,1,2,3,4,5,6,7,8,9,10,11,12,13,14] ⟨15,8,92,(fe 0++fe 0).map U64⟩ [16] (bg O zv92 O)<|Fa 0 O underlying231 O sizeOf92<|av 2 _ O O isAgg92 sizeOf92 sm eu O O<|Fa 12 O underlying231 O sizeOf92<|av 2 _ O O isAgg92 sizeOf92 sm (kN sm) O O<|Ca O (eQ _ _)<|Fa 0 O underlying231 O sizeOf92<|av 3 _ O O isAgg92 sizeOf92 sm eu O O<|Fa 12 O underlying231 O sizeOf92<|av 3 _ O O isAgg92 sizeOf92 sm (kN sm) O O<|Ca O (eQ _ _)<|Ca O (dv _ _)<|La 5 O O aR<|Ca O (kO _ _)<|La 6 O O aR<|Ca O (kO _ _)<|aa<|?_;refine ⟨_,_,rfl,hGF,by intro x hx;simp only[List.mem_cons,List.not_mem_nil,or_false]at hx;subst hx;rfl,by intro x hx;simp only[List.mem_cons,List.not_mem_nil,or_false]at hx;subst hx;rfl,λadr=> ?_⟩
 refine Sa 8 hGF O O O aR<|aa<|Xa [0,1,2,3,4,5,6,7,8,9,10,11,12,13,14] ⟨15,9,92,(fe 0++fe 0).map U64⟩ [16] (bg O zv92 O)<|Fa 0 O underlying231 O sizeOf92<|av 2 _ O O isAgg92 sizeOf92 sm eu O O<|Fa 24 O underlying231 O sizeOf92<|av 2 _ O O isAgg92 sizeOf92 sm (gV (m:=12) (n:=12) sm sm O) O O<|Ca O (eQ _ _)<|Fa 0 O underlying231 O sizeOf92<|av 3 _ O O isAgg92 sizeOf92 sm eu O O<|Fa 24 O underlying231 O sizeOf92<|av 3 _ O O isAgg92 sizeOf92 sm (gV (m:=12) (n:=12) sm sm O) O O<|Ca O (eQ _ _)<|Ca O (dv _ _)<|La 5 O O aR<|Ca O (kO _ _)<|La 7 O O aR<|Ca O (kO _ _)<|aa<|?_;refine ⟨_,_,rfl,hGF,by intro x hx;simp only[List.mem_cons,List.not_mem_nil,or_false]at hx;subst hx;rfl,by intro x hx;simp only[List.mem_cons,List.not_mem_nil,or_false]at hx;subst hx;rfl,λadr=> ?_⟩
 refine Sa 9 hGF O O O aR<|aa<|Xa [0,1,2,3,4,5,6,7,8,9,10,11,12,13,14] ⟨15,10,92,(fe 0++fe 0).map U64⟩ [16] (bg O zv92 O)<|Fa 12 O underlying231 O sizeOf92<|av 2 _ O O isAgg92 sizeOf92 sm (kN sm) O O<|Fa 24 O underlying231 O sizeOf92<|av 2 _ O O isAgg92 sizeOf92 sm (gV (m:=12) (n:=12) sm sm O) O O<|Ca O (eQ _ _)<|Fa 12 O underlying231 O sizeOf92<|av 3 _ O O isAgg92 sizeOf92 sm (kN sm) O O<|Fa 24 O underlying231 O sizeOf92<|av 3 _ O O isAgg92 sizeOf92 sm (gV (m:=12) (n:=12) sm sm O) O O<|Ca O (eQ _ _)<|Ca O (dv _ _)<|La 6 O O aR<|Ca O (kO _ _)<|La 7 O O aR<|Ca O (kO _ _)<|aa<|?_;refine ⟨_,_,rfl,hGF,by intro x hx;simp only[List.mem_cons,List.not_mem_nil,or_false]at hx;subst hx;rfl,by intro x hx;simp only[List.mem_cons,List.not_mem_nil,or_false]at hx;subst hx;rfl,λadr=> ?_⟩
 refine Sa 10 hGF O O O aR<|aa<|Xd []<|La 5 O O aR<|La 10 O O aR<|Ca O (CN _)<|Ca O (eQ _ _)<|La 8 O O aR<|La 7 O O aR<|Ca O (CN _)<|Ca O (eQ _ _)<|La 9 O O aR<|La 6 O O aR<|Ca O (eQ _ _)<|ez kS O O O sm sm sm O O<|Sa 4 hGF O O O dk<|aa<|ak<|Rr<|?_;exact au 4 O O O isAgg231 sizeOf231 sm (λw hw=>⟨e6 (zq R2 [x.1,x.2.1,x.2.2,y.1,y.2.1,y.2.2,XI] (ta (tm j0 j3) (txi 6 (tsb (tsb (tm (ta j1 j2) (ta j4 j5)) (tm j1 j4)) (tm j2 j5)) O)) (ta (tm j0 j3) (tm j6 (ta (tm j1 j5) (tm j2 j4))))) (zq R2 [x.1,x.2.1,x.2.2,y.1,y.2.1,y.2.2,XI] (ta (tsb (tsb (tm (ta j0 j1) (ta j3 j4)) (tm j0 j3)) (tm j1 j4)) (txi 6 (tm j2 j5) O)) (ta (ta (tm j0 j4) (tm j1 j3)) (tm j6 (tm j2 j5)))) (zq R2 [x.1,x.2.1,x.2.2,y.1,y.2.1,y.2.2,XI] (ta (tsb (tsb (tm (ta j0 j2) (ta j3 j5)) (tm j0 j3)) (tm j2 j5)) (tm j1 j4)) (ta (ta (tm j0 j5) (tm j1 j4)) (tm j2 j3))),ac hw⟩)
def TO57:Tb prog Gt:=TO56.add (cw (g:=K6.mul) ent242 mt)
theorem mq(x:W6):PUR 276 [EV6 x] (EV6 (K6.mul x x)):=by
 intro w hw;refine Hf func276 O hw<|λhGF=>Xp<|Bx 1 hGF O<|λb1=>Al 2 hGF zv231<|λb2=>aa<|fb (E:=EE [2999999]) [0,1,2,3,4,5] [⟨6,3,92,(fe 0++fe 0).map U64⟩,⟨7,4,92,(fe 0++fe 0).map U64⟩] [8,9] dU O kr kr kr kr kr kr dc (by intro x hx;simp only[List.mem_cons,List.not_mem_nil,or_false]at hx;rcases hx with rfl|rfl<;>exact bg O zv92 O)<|Fa 0 O underlying231 O sizeOf92<|av 1 _ O O isAgg92 sizeOf92 sm eu O O<|Ca O (iI _)<|Fa 24 O underlying231 O sizeOf92<|av 1 _ O O isAgg92 sizeOf92 sm (gV (m:=12) (n:=12) sm sm O) O O<|Ca O (iI _)<|aa<|?_
 refine ⟨_,_,rfl,hGF,by intro x hx;simp only[List.mem_cons,List.not_mem_nil,or_false]at hx;rcases hx with rfl|rfl<;>rfl,by intro x hx;simp only[List.mem_cons,List.not_mem_nil,or_false]at hx;rcases hx with rfl|rfl<;>rfl,λadr=> ?_⟩
 refine Sa 3 hGF O O O aR<|Sa 4 hGF O O O aR<|aa<|fb (E:=EE [2999999]) [0,1,2,3,4,5,6,7,8,9] [⟨10,5,92,(fe 0++fe 0).map U64⟩,⟨11,6,92,(fe 0++fe 0).map U64⟩] [12,13] dU O kr kr kr kr kr kr dc (by intro x hx;simp only[List.mem_cons,List.not_mem_nil,or_false]at hx;rcases hx with rfl|rfl<;>exact bg O zv92 O)<|Fa 0 O underlying231 O sizeOf92<|av 1 _ O O isAgg92 sizeOf92 sm eu O O<|Fa 12 O underlying231 O sizeOf92<|av 1 _ O O isAgg92 sizeOf92 sm (kN sm) O O<|Ca O (dv _ _)<|Fa 12 O underlying231 O sizeOf92<|av 1 _ O O isAgg92 sizeOf92 sm (kN sm) O O<|Fa 24 O underlying231 O sizeOf92<|av 1 _ O O isAgg92 sizeOf92 sm (gV (m:=12) (n:=12) sm sm O) O O<|Ca O (dv _ _)<|aa<|?_
 refine ⟨_,_,rfl,hGF,by intro x hx;simp only[List.mem_cons,List.not_mem_nil,or_false]at hx;rcases hx with rfl|rfl<;>rfl,by intro x hx;simp only[List.mem_cons,List.not_mem_nil,or_false]at hx;rcases hx with rfl|rfl<;>rfl,λadr=> ?_⟩
 refine Sa 5 hGF O O O aR<|Sa 6 hGF O O O aR<|aa<|Xd []<|La 5 O O aR<|La 5 O O aR<|Ca O (eQ _ _)<|La 6 O O aR<|La 6 O O aR<|Ca O (eQ _ _)<|Sa 5 hGF O O O aR<|Sa 6 hGF O O O aR<|aa<|Xa [0,1,2,3,4,5,6,7,8] ⟨9,7,92,(fe 0++fe 0).map U64⟩ [10] (bg O zv92 O)<|Fa 0 O underlying231 O sizeOf92<|av 1 _ O O isAgg92 sizeOf92 sm eu O O<|Fa 12 O underlying231 O sizeOf92<|av 1 _ O O isAgg92 sizeOf92 sm (kN sm) O O<|Ca O (kO _ _)<|Fa 24 O underlying231 O sizeOf92<|av 1 _ O O isAgg92 sizeOf92 sm (gV (m:=12) (n:=12) sm sm O) O O<|Ca O (eQ _ _)<|Ca O (iI _)<|aa<|?_;refine ⟨_,_,rfl,hGF,by intro x hx;simp only[List.mem_cons,List.not_mem_nil,or_false]at hx;subst hx;rfl,by intro x hx;simp only[List.mem_cons,List.not_mem_nil,or_false]at hx;subst hx;rfl,λadr=> ?_⟩
 refine Sa 7 hGF O O O aR<|aa<|Xd []<|La 3 O O aR<|La 6 O O aR<|Ca O (CN _)<|Ca O (eQ _ _)<|La 5 O O aR<|La 4 O O aR<|Ca O (CN _)<|Ca O (eQ _ _)<|La 7 O O aR<|La 5 O O aR<|Ca O (eQ _ _)<|La 6 O O aR<|Ca O (eQ _ _)<|La 3 O O aR<|Ca O (kO _ _)<|La 4 O O aR<|Ca O (kO _ _)<|ez kS O O O sm sm sm O O<|Sa 2 hGF O O O dk<|aa<|ak<|Rr<|?_;exact au 2 O O O isAgg231 sizeOf231 sm (λw hw=>⟨e6 (zq R2 [x.1,x.2.1,x.2.2,XI] (ta (tm j0 j0) (txi 3 (ta (tm j1 j2) (tm j1 j2)) O)) (ta (tm j0 j0) (tm j3 (ta (tm j1 j2) (tm j2 j1))))) (zq R2 [x.1,x.2.1,x.2.2,XI] (ta (ta (tm j0 j1) (tm j0 j1)) (txi 3 (tm j2 j2) O)) (ta (ta (tm j0 j1) (tm j1 j0)) (tm j3 (tm j2 j2)))) (zq R2 [x.1,x.2.1,x.2.2,XI] (tsb (tsb (ta (ta (tm (ta (tsb j0 j1) j2) (ta (tsb j0 j1) j2)) (ta (tm j0 j1) (tm j0 j1))) (ta (tm j1 j2) (tm j1 j2))) (tm j0 j0)) (tm j2 j2)) (ta (ta (tm j0 j2) (tm j1 j1)) (tm j2 j0))),ac hw⟩)
def TO58:Tb prog Gt:=TO57.add (cI (g:=λx=>K6.mul x x) ent276 mq)
theorem BH(x:W6)(c:W2):PUR 249 [EV6 x,EV2 c] (EV6 (sc6 x c)):=by
 intro w hw;have hGF:BOk Gt (pl w):=gt_low.plain hw;refine ck (G:=Gt) func249 O O (Hp (pl w) []) (bZ (pl w) trivial ap) (ay hGF)<|ae (E:=EE [252])<|Bx 2 hGF O<|λb2=>Bx 3 hGF O<|λb3=>Al 4 hGF zv231<|λb4=>aa<|ae (E:=EE [252])<|Al 5 hGF zv288<|λb5=>aa<|ah<|ae (E:=EE [252])<|La 2 O O dk<|?_;refine dp O O ent252 O O (λw' hw'=>(lR x w' (hGF.g _ _ _ hw')).mono λe' w'' h=> ?_);obtain ⟨c1,rfl,hg,h1,ho⟩:=h;refine ⟨_,_,rfl,ay hGF,hw'.news ap hg [(33,c1,((fe (x.1).1++fe (x.1).2)++((fe (x.2.1).1++fe (x.2.1).2)++(fe (x.2.2).1++fe (x.2.2).2))).map U64,231)] ?_ bR, ?_⟩
 ·intro n' b' c' t' hl
  rcases aK hl with ⟨_,e⟩|⟨_,hl⟩
  ·cases e;exact ⟨h1,ho⟩
  ·cases hl
 clear hw' hg h1 ho;refine aa<|am<|?_;refine ep (λ_=>pl w) (λ_ _=>pl w) (λ_=>hGF) (λ_ _=>hGF) (λ_=>rfl) (λ_ _=>rfl) O O ent280 (Me c1 x) (λv hv=>by obtain ⟨k,hk,rfl⟩:=List.mem_map.1 hv;rfl) O (λk=>[(2,b2,((fe (x.1).1++fe (x.1).2)++((fe (x.2.1).1++fe (x.2.1).2)++(fe (x.2.2).1++fe (x.2.2).2))).map U64,231),(3,b3,(fe c.1++fe c.2).map U64,92),(4,b4,((fe 0++fe 0)++((fe 0++fe 0)++(fe 0++fe 0))).map U64,231),(5,b5,(FM (FF (λj=>if j<k then ml2 (p3 x j) c else ze2)) 3).map U64,288),(33,c1,((fe (x.1).1++fe (x.1).2)++((fe (x.2.1).1++fe (x.2.1).2)++(fe (x.2.2).1++fe (x.2.2).2))).map U64,231)]) (λ_ _ _=>False) ⟨rfl,rfl,rfl,congrArg (λl=>some (b5,l,_)) (congrArg (List.map U64) (wz λj _=>(if_neg (Nat.not_lt_zero j)).symm)),rfl,trivial⟩ (λk _ w' h=>aX (n:=33) O w' h) ?_ ?_ (λ_ _ _ _ _ h=>h.elim)
 ·intro k v hx R hR
  obtain ⟨hk,rfl⟩:=Oj x k v hx;refine ae (E:=EE [252])<|Asg O<|aa<|bQ (E:=EE [252])<|dJ 7 (hR (pl w) O hGF).1 zv92 O O<|λb7=>aA 7 (hR (pl w) O hGF).1 O O O sizeOf92 sm sm (bi _) O<|aa<|?_;refine ⟨rfl,_,rfl, ?_⟩;refine am<|bQ (E:=EE [252])<|Mv O<|La 7 O O aR<|La 3 O O aR<|Ca O (dv _ _)<|eY (k) (12*(k)) O O underlying288 sizeOf92 om om om O O<|ll 5 ((FM (FF (λj=>if j<k+1 then ml2 (p3 x j) c else ze2)) 3).map U64) (hR (pl w) O hGF).2.1 O O O sizeOf92 sm (bi _) (by simp;omega) (uk _ _ (ml2 (p3 x k) c) 3 (k) _ om O (λj _=>zg (λj=>ml2 (p3 x j) c) (λ_=>ze2) k j)) O<|aa<|?_
  repeat (refine aW ?_)
  exact ⟨_,rfl,trv⟩
 ·intro D hD
  rw[uq];refine ae (E:=EE [252])<|La 5 O O GT<|Ca O (k6of _)<|Sa 4 hD O O O dk<|aa<|ak<|Rr<|?_;exact dr (.inl O) ap (au 4 O O O isAgg231 sizeOf231 sm (λw hw=>⟨e6 O O O,ac hw⟩))
theorem k6v(x:W6):PUR 244 [EV6 x] (EV6 (v6 x)):=(bF (l1 (V6 _)) (V6 _) (pE TO58 func244 [.inl [x.1.1,x.1.2,x.2.1.1,x.2.1.2,x.2.2.1,x.2.2.2]] (.inl (.inl [(v6 x).1.1,(v6 x).1.2,(v6 x).2.1.1,(v6 x).2.1.2,(v6 x).2.2.1,(v6 x).2.2.2])) (let t0:=xi2 (x.2.2.1,x.2.2.2);(.inl (.inl [t0.1,t0.2,x.1.1,x.1.2,x.2.1.1,x.2.1.2]),[])) [] kr aD O))
def TO59:Tb prog Gt:=TO58.add (cI (g:=v6) ent244 k6v)
def oth(x:W6):W6:=(i3a x.1 x.2.1 x.2.2,i3b x.1 x.2.1 x.2.2,i3c x.1 x.2.1 x.2.2)
theorem qd(x:W6):PUR 292 [EV6 x] (EV6 (oth x)):=(bF (l1 (V6 _)) (V6 _) (pE TO59 func292 [.inl [x.1.1,x.1.2,x.2.1.1,x.2.1.2,x.2.2.1,x.2.2.2]] (.inl (.inl [(oth x).1.1,(oth x).1.2,(oth x).2.1.1,(oth x).2.1.2,(oth x).2.2.1,(oth x).2.2.2])) (let t0:=ml2 (x.1.1,x.1.2) (x.1.1,x.1.2);let t1:=ml2 (x.2.1.1,x.2.1.2) (x.2.2.1,x.2.2.2);let t2:=xi2 (t1.1,t1.2);let t3:=sb2 (t0.1,t0.2) (t2.1,t2.2);let t4:=ml2 (x.2.2.1,x.2.2.2) (x.2.2.1,x.2.2.2);let t5:=xi2 (t4.1,t4.2);let t6:=ml2 (x.1.1,x.1.2) (x.2.1.1,x.2.1.2);let t7:=sb2 (t5.1,t5.2) (t6.1,t6.2);let t8:=ml2 (x.2.1.1,x.2.1.2) (x.2.1.1,x.2.1.2);let t9:=ml2 (x.1.1,x.1.2) (x.2.2.1,x.2.2.2);let t10:=sb2 (t8.1,t8.2) (t9.1,t9.2);(.inl (.inl [t3.1,t3.2,t7.1,t7.2,t10.1,t10.2]),[])) [] kr aD O))
def TO60:Tb prog Gt:=TO59.add (cI (g:=oth) ent292 qd)
theorem Xi(x:W6):ad2 (xi2 (ad2 (ml2 x.2.1 (oth x).2.2) (ml2 x.2.2 (oth x).2.1))) (ml2 x.1 (oth x).1)=i3n x.1 x.2.1 x.2.2:=by
 show R2.add (xi2 (R2.add _ _)) _=R2.add _ (xi2 (R2.add _ _));rw[R2.add_comm,R2.add_comm (ml2 x.2.1 (oth x).2.2)];rfl
theorem Fq(x:W6)(c:W2):PUR 249 [EV6 (oth x),EV2 c] (EV6 (sc6 (oth x) c)):=BH (oth x) c
theorem If(x:W6):PUR 277 [EV6 x] (EV6 (iv6 x)):=by
 intro w hw;refine Hf func277 O hw<|λhGF=>Xp<|Bx 1 hGF O<|λb1=>Al 2 hGF zv231<|λb2=>aa<|Xp<|La 1 O O dk<|Ca O (qd _)<|Al 3 hGF zv231<|λb3=>Sa 3 hGF O O O dk<|aa<|Xa [0,1,2,3,4,5,6,7,8,9,10,11,12,13,14,15,16,17] ⟨18,4,92,(fe 0++fe 0).map U64⟩ [19] (bg O zv92 O)<|Fa 12 O underlying231 O sizeOf92<|av 1 _ O O isAgg92 sizeOf92 sm (kN sm) O O<|Fa 24 O underlying231 O sizeOf92<|av 3 _ O O isAgg92 sizeOf92 sm (gV (m:=12) (n:=12) sm sm O) O O<|Ca O (dv _ _)<|Fa 24 O underlying231 O sizeOf92<|av 1 _ O O isAgg92 sizeOf92 sm (gV (m:=12) (n:=12) sm sm O) O O<|Fa 12 O underlying231 O sizeOf92<|av 3 _ O O isAgg92 sizeOf92 sm (kN sm) O O<|Ca O (dv _ _)<|Ca O (eQ _ _)<|Ca O (CN _)<|Fa 0 O underlying231 O sizeOf92<|av 1 _ O O isAgg92 sizeOf92 sm eu O O<|Fa 0 O underlying231 O sizeOf92<|av 3 _ O O isAgg92 sizeOf92 sm eu O O<|Ca O (dv _ _)<|Ca O (eQ _ _)<|aa<|?_;refine ⟨_,_,rfl,hGF,by intro x hx;simp only[List.mem_cons,List.not_mem_nil,or_false]at hx;subst hx;rfl,by intro x hx;simp only[List.mem_cons,List.not_mem_nil,or_false]at hx;subst hx;rfl,λadr=> ?_⟩
 refine Sa 4 hGF O O O aR<|aa<|Xd []<|La 3 O O dk<|La 4 O O aR<|Ca O (Et _)<|Ca O (Fq x _)<|Sa 2 hGF O O O dk<|aa<|ak<|Rr<|?_;exact au 2 O O O isAgg231 sizeOf231 sm (λw hw=>⟨by rw[Xi];rfl,ac hw⟩)
def TO61:Tb prog Gt:=TO60.add (cI (g:=iv6) ent277 If)
end Q6
def g2:W2:=pw2 XI th
theorem Qm(a:Zp):a+0=a:=by grind
theorem yY(x:W2): ∀n,nm2 (pw2 x n)=nm2 x^n
 |0=>by
  show nm2 on2=_;rw[p0,nm2,on2];show (1:Zp)*1+0*0=1;rw[oJ,gG];exact Qm 1
 |n+1=>by rw[ov,gC,yY x n,ps]
theorem Dv(x:W2):cj2 (cj2 x)=x:=bz O (Ay _)
theorem I3(c g:W2):ml2 (cj2 (ml2 (cj2 c) g)) g=ml2 c (nm2 g,0):=by
 rw[fN,Dv,show ml2 (ml2 c (cj2 g)) g=ml2 c (ml2 (cj2 g) g)from R2.mul_assoc _ _ _,show ml2 (cj2 g) g=ml2 g (cj2 g)from R2.mul_comm _ _,QL]
theorem YF(a:Zp):a-0=a:=by grind
theorem YE(a:Zp):0-a= -a:=by grind
theorem SH(a:Zp):0+a=a:=by grind
theorem tQ{a b:Zp}(h:a+b=0): -a=b:=by grind
theorem Xl:pw2 XI 2=(0,zp 2):=by decide+kernel
theorem II(a b:Zp):ml2 (a,0) (0,b)=(0,a*b):=bz (by simp only[ml2];rw[gG,rG,YF]) (by simp only[ml2];rw[gG,Qm])
theorem EF(a b:Zp):ml2 (0,a) (0,b)=(-(a*b),0):=bz (by simp only[ml2];rw[gG,YE]) (by simp only[ml2];rw[rG,gG,Qm])
theorem im_4(c:Zp):pw2 (0,c) 4=(c^4,0):=by
 show ml2 (ml2 (ml2 (ml2 on2 (0,c)) (0,c)) (0,c)) (0,c)=_;rw[show ml2 on2 (0,c)=(0,c)from R2.one_mul _,EF,II,EF];exact bz (by grind) O
theorem im_3(c:Zp):pw2 (0,c) 3=(0,-(c^3)):=by
 show ml2 (ml2 (ml2 on2 (0,c)) (0,c)) (0,c)=_;rw[show ml2 on2 (0,c)=(0,c)from R2.one_mul _,EF,II];exact bz O (by grind)
theorem M7(c:Zp): ∀s,pw2 (0,c) (4*s)=(c^(4*s),0)
 |0=>by show on2=_;rw[Nat.mul_zero,p0];rfl
 |s+1=>by rw[Nat.mul_succ,tV,M7 c s,im_4,nF,oV]
theorem Xo(c:Zp)(s:Nat):pw2 (0,c) (4*s+3)=(0,-(c^(4*s+3))):=by
 rw[tV,M7,im_3,II,oV];exact bz O (by grind)
def cjn(n:Nat)(x:W2):W2:=if n % 2=1 then cj2 x else x
theorem UB(n:Nat)(x:W2):cj2 (cjn n x)=cjn (n+1) x:=by
 rw[cjn,cjn];by_cases h:n % 2=1
 ·rw[if_pos h,if_neg om,Dv]
 ·rw[if_neg h,if_pos om]
theorem xk(a b c:W2):ml2 (ml2 a b) c=ml2 a (ml2 b c):=R2.mul_assoc a b c
theorem iw(x y:W12):bU (K12.mul x y)=K12.mul (bU x) (bU y):=by
 rw[<-fo,<-fo,<-fo,K12.mul_pw]
theorem wT(x y:W12):bU (K12.add x y)=K12.add (bU x) (bU y):=by
 rw[<-fo,<-fo,<-fo,jj]
def jS(x:W12):Nat->W12
 |0=>x
 |n+1=>bU (jS x n)
theorem rl(x:W12)(m:Nat): ∀n,jS x (m+n)=jS (jS x m) n
 |0=>rfl
 |n+1=>by rw[<-Nat.add_assoc,jS,rl x m n];rfl
theorem vq(x y:W12): ∀n,jS (K12.mul x y) n=K12.mul (jS x n) (jS y n)
 |0=>rfl
 |n+1=>by rw[jS,vq x y n,iw];rfl
def B5(z:Zp)(x:W12):W12:=((ml2 x.1.1 (z^0,0),ml2 x.1.2.1 (z^2,0),ml2 x.1.2.2 (z^4,0)),(ml2 x.2.1 (z^1,0),ml2 x.2.2.1 (z^3,0),ml2 x.2.2.2 (z^5,0)))
theorem nO(c:W2)(a b:Zp)(k:Nat):ml2 (ml2 c (b^k,0)) (a^k,0)=ml2 c ((a*b)^k,0):=by
 rw[xk,nF];have e:b^k*a^k=(a*b)^k:=by
  induction k with
  |zero=>rw[p0,p0,p0];exact oJ
  |succ k ih=>rw[ps,ps,ps,<-ih];grind
 rw[e]
theorem Bq(a b:Zp)(x:W12):B5 a (B5 b x)=B5 (a*b) x:=
 Prod.ext (Prod.ext (nO _ _ _ _) (Prod.ext (nO _ _ _ _) (nO _ _ _ _))) (Prod.ext (nO _ _ _ _) (Prod.ext (nO _ _ _ _) (nO _ _ _ _)))
def ZE:Zp:=nm2 GA
theorem Zf(k:Nat):nm2 (pw2 GA k)=ZE^k:=yY GA k
theorem lI(c:W2)(k:Nat):ml2 (cj2 (ml2 (cj2 c) (pw2 GA k))) (pw2 GA k)=ml2 c (ZE^k,0):=by rw[I3,Zf]
theorem qO(x:W12):bU (bU x)=B5 ZE x:=
 Prod.ext (Prod.ext (lI _ _) (Prod.ext (lI _ _) (lI _ _))) (Prod.ext (lI _ _) (Prod.ext (lI _ _) (lI _ _)))
theorem O0:ZE=zp 2^sx:=by rw[ZE,GA,yY,IM]
theorem Yo:sx*3=hf:=by decide+kernel
theorem QO{a:Zp}(h:a*a=1)(h1:a≠1):a= -1:=by
 have e:(a-1)*(a+1)=0:=by grind
 rcases kX e with e|e
 ·exact absurd (by grind) h1
 ·grind
theorem OQ:hf+hf=PP-1:=by decide+kernel
theorem Kq:zp 2^hf= -1:=QO (by rw[<-oV,OQ,fermat qz]) F6
theorem Ij:ZE*(ZE*ZE)= -1:=by
 have e:ZE*(ZE*ZE)=ZE^3:=by generalize ZE=a;grind
 rw[e,O0,<-G8,Yo,Kq]
theorem CR(x:W12):jS x 6=B5 (ZE*(ZE*ZE)) x:=by
 show bU (bU (bU (bU (bU (bU x)))))=_;rw[qO x,qO (B5 ZE x),qO,Bq ZE ZE x,Bq]
def ci(x:W12):W12:=(x.1,K6.neg x.2)
theorem uW(c:W2)(n:Nat):ml2 c ((-1:Zp)^(2*n),0)=c:=by
 have e:(-1:Zp)^(2*n)=1:=by
  induction n with
  |zero=>exact p0 _
  |succ n ih=>rw[Nat.mul_succ,oV,ih];generalize hm:(-1:Zp)=a;have:a*a=1:=by rw[<-hm,z_nn,oJ]
              grind
 rw[e];exact R2.mul_one c
theorem yy(c:W2)(n:Nat):ml2 c ((-1:Zp)^(2*n+1),0)=ng2 c:=by
 have e:ml2 c ((-1:Zp)^(2*n+1),0)=ml2 (ml2 c ((-1:Zp)^(2*n),0)) (-1,0):=by rw[xk,nF,ps]
 rw[e,uW];generalize hm:(-1:Zp)=a;refine bz ?_ ?_
 ·show c.1*a-c.2*0= -c.1
  rw[gG,YF,<-hm];grind
 ·show c.1*0+c.2*a= -c.2
  rw[gG,SH,<-hm];grind
theorem jF(x:W12):jS x 6=ci x:=by
 rw[CR,Ij];exact Prod.ext (Prod.ext (uW _ 0) (Prod.ext (uW _ 1) (uW _ 2))) (Prod.ext (yy _ 0) (Prod.ext (yy _ 1) (yy _ 2)))
theorem pI(x:W12):ci (ci x)=x:=Prod.ext O (K6.neg_neg x.2)
theorem n7(x:W12):jS x 12=x:=by rw[show 12=6+6 from O,rl,jF,jF,pI]
theorem jg(x y:W12):ci (K12.mul x y)=K12.mul (ci x) (ci y):=by rw[<-jF,<-jF,<-jF,vq]
theorem ir:ci K12.one=K12.one:=Prod.ext O K6.neg_zero
theorem xX:K12.one≠K12.zero:=by decide+kernel
theorem tvv{ρ:Nat->W6}{p:Po}{a:W6}(k:Nat)(ha:K6.d ρ p=a)(hk:ρ k=VV):K6.d ρ (kl p (pv k))=v6 a:=by rw[K6.d_mul,ha,K6.d_var,hk];exact Bu a
theorem It{ρ:Nat->W6}{p q:Po}{a b:W6}(ha:K6.d ρ p=a)(hb:K6.d ρ q=b):K6.d ρ (gU p (lQ q))=sb6 a b:=by rw[K6.d_add,K6.d_neg,ha,hb,yP]
theorem ent219:ai prog 219:=λ_ _=>kr
theorem ent180:ai prog 180:=λ_ _=>kr
theorem ent274:ai prog 274:=λ_ _=>kr
theorem ent236:ai prog 236:=λ_ _=>kr
theorem ent238:ai prog 238:=λ_ _=>kr
theorem ent235:ai prog 235:=λ_ _=>kr
theorem ent215:ai prog 215:=λ_ _=>kr
theorem ent179:ai prog 179:=λ_ _=>kr
namespace Q6
attribute [local simp] eX
attribute [local simp] p7 dw
abbrev cv(x:W12):Value:=aI (((fe (x.1.1).1++fe (x.1.1).2)++((fe (x.1.2.1).1++fe (x.1.2.1).2)++(fe (x.1.2.2).1++fe (x.1.2.2).2)))++((fe (x.2.1).1++fe (x.2.1).2)++((fe (x.2.2.1).1++fe (x.2.2.1).2)++(fe (x.2.2.2).1++fe (x.2.2.2).2))))
theorem zv233(w:World):(zeroValue 233).run prog w=.ok (aI (((fe 0++fe 0)++((fe 0++fe 0)++(fe 0++fe 0)))++((fe 0++fe 0)++((fe 0++fe 0)++(fe 0++fe 0))))) w:=by rw[iZ];exact (zeroValue233 w).trans rr
theorem uT:Two prog 233 ⟨ "C0",231,0,false, "", "",0⟩ ⟨ "C1",231,36,false, "", "",288⟩ 36 36 ((fe 0++fe 0)++((fe 0++fe 0)++(fe 0++fe 0))) ((fe 0++fe 0)++((fe 0++fe 0)++(fe 0++fe 0))):=⟨underlying233,rfl,rfl,sizeOf231,sizeOf231,zv233,sm,sm⟩
theorem e12{a b a' b':W6}(h1:a=a')(h2:b=b'):Ending.returned (cv (a,b))=.returned (cv (a',b')):=by rw[h1,h2]
theorem Jy{x y:W12}(h:x.1=y.1):decide (x.2=y.2)=decide (x=y):=decide_eq_decide.2 ⟨λe=>Prod.ext h e,λe=>by rw[e]⟩
theorem I9{x y:W12}(h: ¬x.1=y.1):false=decide (x=y):=(decide_eq_false λe=>h (by rw[e])).symm
def p12(x:W12):Nat->W2
 |0=>x.1.1
 |1=>x.2.1
 |2=>x.1.2.1
 |3=>x.2.2.1
 |4=>x.1.2.2
 |_=>x.2.2.2
def q12:Sh W12:=q6.two q6 6
theorem V12(x:W12):cv x=dn rid (.inl [x.1.1.1,x.1.1.2,x.1.2.1.1,x.1.2.1.2,x.1.2.2.1,x.1.2.2.2,x.2.1.1,x.2.1.2,x.2.2.1.1,x.2.2.1.2,x.2.2.2.1,x.2.2.2.2]):=by
 show Value.agg _=Value.agg _;rw[clv,show cel [x.1.1.1,x.1.1.2,x.1.2.1.1,x.1.2.1.2,x.1.2.2.1,x.1.2.2.2,x.2.1.1,x.2.1.2,x.2.2.1.1,x.2.2.1.2,x.2.2.2.1,x.2.2.2.2]=fe x.1.1.1++(fe x.1.1.2++(fe x.1.2.1.1++(fe x.1.2.1.2++(fe x.1.2.2.1++(fe x.1.2.2.2++(fe x.2.1.1++(fe x.2.1.2++(fe x.2.2.1.1++(fe x.2.2.1.2++(fe x.2.2.2.1++fe x.2.2.2.2))))))))))from O];simp only[List.append_assoc]
end Q6
namespace Q6
attribute [local simp] eX
attribute [local simp] p7 dw
theorem rz  :PUR 180 [] (cv K12.one):=(bF O (V12 _) (pE TO61 func180 [] (.inl (.inl [K12.one.1.1.1,K12.one.1.1.2,K12.one.1.2.1.1,K12.one.1.2.1.2,K12.one.1.2.2.1,K12.one.1.2.2.2,K12.one.2.1.1,K12.one.2.1.2,K12.one.2.2.1.1,K12.one.2.2.1.2,K12.one.2.2.2.1,K12.one.2.2.2.2])) (let t0:=K6.one;(.inl (.inl [t0.1.1,t0.1.2,t0.2.1.1,t0.2.1.2,t0.2.2.1,t0.2.2.2,0,0,0,0,0,0]),[])) [] kr aD O))
theorem Iv{f:Nat}{g:W12}(en:ai prog f)(h:PUR f [] (cv g)):Snd prog Gt f (c0 q12.rd g):=vS q12.rd en (bF O (V12 _).symm h)
def TO62:Tb prog Gt:=TO61.add (Iv (g:=K12.one) ent180 rz)
theorem ru(x y:W12):PUR 179 [cv x,cv y] (.bool (decide (x=y))):=by
 intro w hw;refine Hf func179 O hw<|λhGF=>Xp<|Bx 2 hGF O<|λb2=>Bx 3 hGF O<|λb3=>Asg O<|aa<|Xp<|Fa 0 O underlying233 O sizeOf231<|av 2 _ O O isAgg231 sizeOf231 sm eu O O<|Fa 0 O underlying233 O sizeOf231<|av 3 _ O O isAgg231 sizeOf231 sm eu O O<|?_;by_cases h:x.1=y.1
 ·refine Cbl true O ent220 (pz _ _) (decide_eq_true h)<|Mv O<|Fa 36 O underlying233 O sizeOf231<|av 2 _ O O isAgg231 sizeOf231 sm (gP sm) O O<|Fa 36 O underlying233 O sizeOf231<|av 3 _ O O isAgg231 sizeOf231 sm (gP sm) O O<|Ca O (pz _ _)<|Pk O O O<|Asg O<|aa<|ak<|Rr<|?_
  exact aO O O (λw hw=>⟨rb (Jy h),ac hw⟩)
 ·refine Cbl false O ent220 (pz _ _) (decide_eq_false h)<|Mv O<|Sk<|Sk<|Sk<|Sk<|Sk<|Pk O O O<|Asg O<|aa<|ak<|Rr<|?_
  exact aO O O (λw hw=>⟨rb (I9 h),ac hw⟩)
theorem jl{f:Nat}{g:W12->W12->Bool}(en:ai prog f)(h: ∀a b,PUR f [cv a,cv b] (.bool (g a b))):Snd prog Gt f (c2 q12.ag q12.ag rdB g):=f9 q12.ag q12.ag rdB en (λa b=>bF (l2 (V12 _).symm (V12 _).symm) O (h a b))
def TO63:Tb prog Gt:=TO62.add (jl (g:=λx y=>decide (x=y)) ent179 ru)
theorem iD{f:Nat}{g:W12->W12->W12}(en:ai prog f)(h: ∀a b,PUR f [cv a,cv b] (cv (g a b))):Snd prog Gt f (c2 q12.ag q12.ag q12.rd g):=f9 q12.ag q12.ag q12.rd en (λa b=>bF (l2 (V12 _).symm (V12 _).symm) (V12 _).symm (h a b))
theorem pn(x:W12):PUR 219 [cv x] (cv (ci x)):=(bF (l1 (V12 _)) (V12 _) (pE TO63 func219 [.inl [x.1.1.1,x.1.1.2,x.1.2.1.1,x.1.2.1.2,x.1.2.2.1,x.1.2.2.2,x.2.1.1,x.2.1.2,x.2.2.1.1,x.2.2.1.2,x.2.2.2.1,x.2.2.2.2]] (.inl (.inl [(ci x).1.1.1,(ci x).1.1.2,(ci x).1.2.1.1,(ci x).1.2.1.2,(ci x).1.2.2.1,(ci x).1.2.2.2,(ci x).2.1.1,(ci x).2.1.2,(ci x).2.2.1.1,(ci x).2.2.1.2,(ci x).2.2.2.1,(ci x).2.2.2.2])) (let t0:=K6.neg ((x.2.1.1,x.2.1.2),(x.2.2.1.1,x.2.2.1.2),(x.2.2.2.1,x.2.2.2.2));(.inl (.inl [x.1.1.1,x.1.1.2,x.1.2.1.1,x.1.2.1.2,x.1.2.2.1,x.1.2.2.2,t0.1.1,t0.1.2,t0.2.1.1,t0.2.1.2,t0.2.2.1,t0.2.2.2]),[])) [] kr aD O))
theorem cR{f:Nat}{g:W12->W12}(en:ai prog f)(h: ∀a,PUR f [cv a] (cv (g a))):Snd prog Gt f (c1 q12.ag q12.rd g):=ga q12.ag q12.rd en (λa=>bF (l1 (V12 _).symm) (V12 _).symm (h a))
def TO65:Tb prog Gt:=TO63.add (cR (g:=ci) ent219 pn)
theorem yf(x y:W12):PUR 236 [cv x,cv y] (cv (K12.mul x y)):=by
 intro w hw;refine Hf func236 O hw<|λhGF=>Xp<|Bx 2 hGF O<|λb2=>Bx 3 hGF O<|λb3=>Al 4 hGF zv233<|λb4=>aa<|fb (E:=EE [2999999]) [0,1,2,3,4,5,6,7,8,9] [⟨10,5,231,((fe 0++fe 0)++((fe 0++fe 0)++(fe 0++fe 0))).map U64⟩,⟨11,6,231,((fe 0++fe 0)++((fe 0++fe 0)++(fe 0++fe 0))).map U64⟩] [12,13] dU O kr kr kr kr kr kr dc (by intro x hx;simp only[List.mem_cons,List.not_mem_nil,or_false]at hx;rcases hx with rfl|rfl<;>exact bg O zv231 O)<|Fa 0 O underlying233 O sizeOf231<|av 2 _ O O isAgg231 sizeOf231 sm eu O O<|Fa 0 O underlying233 O sizeOf231<|av 3 _ O O isAgg231 sizeOf231 sm eu O O<|Ca O (mt _ _)<|Fa 36 O underlying233 O sizeOf231<|av 2 _ O O isAgg231 sizeOf231 sm (gP sm) O O<|Fa 36 O underlying233 O sizeOf231<|av 3 _ O O isAgg231 sizeOf231 sm (gP sm) O O<|Ca O (mt _ _)<|aa<|?_
 refine ⟨_,_,rfl,hGF,by intro x hx;simp only[List.mem_cons,List.not_mem_nil,or_false]at hx;rcases hx with rfl|rfl<;>rfl,by intro x hx;simp only[List.mem_cons,List.not_mem_nil,or_false]at hx;rcases hx with rfl|rfl<;>rfl,λadr=> ?_⟩
 refine Sa 5 hGF O O O dk<|Sa 6 hGF O O O dk<|aa<|Xa [0,1,2,3,4,5,6,7,8,9,10] ⟨11,7,231,((fe 0++fe 0)++((fe 0++fe 0)++(fe 0++fe 0))).map U64⟩ [12] (bg O zv231 O)<|Fa 0 O underlying233 O sizeOf231<|av 2 _ O O isAgg231 sizeOf231 sm eu O O<|Fa 36 O underlying233 O sizeOf231<|av 2 _ O O isAgg231 sizeOf231 sm (gP sm) O O<|Ca O (oG _ _)<|Fa 0 O underlying233 O sizeOf231<|av 3 _ O O isAgg231 sizeOf231 sm eu O O<|Fa 36 O underlying233 O sizeOf231<|av 3 _ O O isAgg231 sizeOf231 sm (gP sm) O O<|Ca O (oG _ _)<|Ca O (mt _ _)<|aa<|?_;refine ⟨_,_,rfl,hGF,by intro x hx;simp only[List.mem_cons,List.not_mem_nil,or_false]at hx;subst hx;rfl,by intro x hx;simp only[List.mem_cons,List.not_mem_nil,or_false]at hx;subst hx;rfl,λadr=> ?_⟩
 refine Sa 7 hGF O O O dk<|aa<|Xd []<|La 5 O O dk<|La 6 O O dk<|Ca O (k6v _)<|Ca O (oG _ _)<|La 7 O O dk<|La 5 O O dk<|Ca O (qm _ _)<|La 6 O O dk<|Ca O (qm _ _)<|cF uT O O sm sm O O<|Sa 4 hGF O O O e9<|aa<|ak<|Rr<|?_;exact au 4 O O O isAgg233 sizeOf233 sm (λw hw=>⟨e12 (zq K6 [x.1,x.2,y.1,y.2,VV] (ta (tm j0 j2) (tvv 4 (tm j1 j3) O)) (ta (tm j0 j2) (tm j4 (tm j1 j3)))) (zq K6 [x.1,x.2,y.1,y.2,VV] (It (It (tm (ta j0 j1) (ta j2 j3)) (tm j0 j2)) (tm j1 j3)) (ta (tm j0 j3) (tm j1 j2))),ac hw⟩)
def TO66:Tb prog Gt:=TO65.add (iD (g:=K12.mul) ent236 yf)
theorem je(x:W12):PUR 215 [cv x] (cv (K12.mul x x)):=by
 intro w hw;refine Hf func215 O hw<|λhGF=>Xp<|Bx 1 hGF O<|λb1=>Al 2 hGF zv233<|λb2=>aa<|Xp<|Fa 0 O underlying233 O sizeOf231<|av 1 _ O O isAgg231 sizeOf231 sm eu O O<|Fa 36 O underlying233 O sizeOf231<|av 1 _ O O isAgg231 sizeOf231 sm (gP sm) O O<|Ca O (mt _ _)<|Al 3 hGF zv231<|λb3=>Sa 3 hGF O O O dk<|aa<|Xa [0,1,2,3,4,5,6,7,8,9,10,11] ⟨12,4,231,((fe 0++fe 0)++((fe 0++fe 0)++(fe 0++fe 0))).map U64⟩ [13] (bg O zv231 O)<|Fa 0 O underlying233 O sizeOf231<|av 1 _ O O isAgg231 sizeOf231 sm eu O O<|Fa 36 O underlying233 O sizeOf231<|av 1 _ O O isAgg231 sizeOf231 sm (gP sm) O O<|Ca O (oG _ _)<|Fa 0 O underlying233 O sizeOf231<|av 1 _ O O isAgg231 sizeOf231 sm eu O O<|Fa 36 O underlying233 O sizeOf231<|av 1 _ O O isAgg231 sizeOf231 sm (gP sm) O O<|Ca O (k6v _)<|Ca O (oG _ _)<|Ca O (mt _ _)<|aa<|?_;refine ⟨_,_,rfl,hGF,by intro x hx;simp only[List.mem_cons,List.not_mem_nil,or_false]at hx;subst hx;rfl,by intro x hx;simp only[List.mem_cons,List.not_mem_nil,or_false]at hx;subst hx;rfl,λadr=> ?_⟩
 refine Sa 4 hGF O O O dk<|aa<|Xd []<|La 4 O O dk<|La 3 O O dk<|Ca O (qm _ _)<|La 3 O O dk<|Ca O (k6v _)<|Ca O (qm _ _)<|La 3 O O dk<|La 3 O O dk<|Ca O (oG _ _)<|cF uT O O sm sm O O<|Sa 2 hGF O O O e9<|aa<|ak<|Rr<|?_;exact au 2 O O O isAgg233 sizeOf233 sm (λw hw=>⟨e12 (zq K6 [x.1,x.2,VV] (It (It (tm (ta j0 j1) (ta j0 (tvv 2 j1 O))) (tm j0 j1)) (tvv 2 (tm j0 j1) O)) (ta (tm j0 j0) (tm j2 (tm j1 j1)))) (zq K6 [x.1,x.2,VV] (ta (tm j0 j1) (tm j0 j1)) (ta (tm j0 j1) (tm j1 j0))),ac hw⟩)
def TO67:Tb prog Gt:=TO66.add (cR (g:=λx=>K12.mul x x) ent215 je)
theorem Qf(x:W12):sb6 (K6.mul x.1 x.1) (v6 (K6.mul x.2 x.2))=qnm K6 VV x:=zq K6 [x.1,x.2,VV] (It (tm j0 j0) (tvv 2 (tm j1 j1) O)) (ta (tm j0 j0) (tn (tm j2 (tm j1 j1))))
theorem Wf(x:W12)(n:W6):K6.mul x.1 n=K6.add (K6.mul x.1 n) (K6.mul VV (K6.mul (K6.neg x.2) K6.zero)):=zq K6 [x.1,x.2,n,VV] (tm j0 j2) (ta (tm j0 j2) (tm j3 (tm (tn j1) tz0)))
theorem UN(x:W12)(n:W6):K6.neg (K6.mul x.2 n)=K6.add (K6.mul x.1 K6.zero) (K6.mul (K6.neg x.2) n):=zq K6 [x.1,x.2,n] (tn (tm j1 j2)) (ta (tm j0 tz0) (tm (tn j1) j2))
theorem D7(x:W12):PUR 238 [cv x] (cv (i8 x)):=by
 intro w hw;refine Hf func238 O hw<|λhGF=>Xp<|Bx 1 hGF O<|λb1=>Al 2 hGF zv233<|λb2=>aa<|Xa [0,1,2,3,4,5,6,7] ⟨8,3,231,((fe 0++fe 0)++((fe 0++fe 0)++(fe 0++fe 0))).map U64⟩ [9] (bg O zv231 O)<|Fa 0 O underlying233 O sizeOf231<|av 1 _ O O isAgg231 sizeOf231 sm eu O O<|Ca O (mq _)<|Fa 36 O underlying233 O sizeOf231<|av 1 _ O O isAgg231 sizeOf231 sm (gP sm) O O<|Ca O (mq _)<|Ca O (k6v _)<|Ca O (qm _ _)<|aa<|?_;refine ⟨_,_,rfl,hGF,by intro x hx;simp only[List.mem_cons,List.not_mem_nil,or_false]at hx;subst hx;rfl,by intro x hx;simp only[List.mem_cons,List.not_mem_nil,or_false]at hx;subst hx;rfl,λadr=> ?_⟩
 refine Sa 3 hGF O O O dk<|aa<|Xp<|La 3 O O dk<|Ca O (If _)<|Al 4 hGF zv231<|λb4=>Sa 4 hGF O O O dk<|aa<|Xd []<|Fa 0 O underlying233 O sizeOf231<|av 1 _ O O isAgg231 sizeOf231 sm eu O O<|La 4 O O dk<|Ca O (mt _ _)<|Fa 36 O underlying233 O sizeOf231<|av 1 _ O O isAgg231 sizeOf231 sm (gP sm) O O<|La 4 O O dk<|Ca O (mt _ _)<|Ca O (IA _)<|cF uT O O sm sm O O<|Sa 2 hGF O O O e9<|aa<|ak<|Rr<|?_;exact au 2 O O O isAgg233 sizeOf233 sm (λw hw=>⟨by rw[Qf];exact e12 (Wf _ _) (UN _ _),ac hw⟩)
def TO68:Tb prog Gt:=TO67.add (cR (g:=i8) ent238 D7)
end Q6
end Go.Proofs.YtfgacclgjklgnaaGreatDoor
