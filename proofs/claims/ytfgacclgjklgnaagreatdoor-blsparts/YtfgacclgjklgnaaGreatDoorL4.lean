/- L4 -/
import Derived.Test.YtfgacclgjklgnaaGreatDoorL3
import Derived.Test.YtfgacclgjklgnaaGreatDoorX3
import Derived.Test.YtfgacclgjklgnaaGreatDoorXW
import Derived.Test.YtfgacclgjklgnaaGreatDoorL1
import Derived.Test.YtfgacclgjklgnaaGreatDoorL2
import Derived.Test.YtfgacclgjklgnaaGreatDoorM1
set_option maxRecDepth 100000
set_option maxHeartbeats 1000000
namespace Go.Proofs.YtfgacclgjklgnaaGreatDoor
open Go.Proofs.Tryz
section
open Go.RowKit
attribute [local simp] aW bd aU aP aD bf aL aK aB PLl cm cq N1l cr cp cu a8 bg aQ a6 bc J1.bj J2.bj bL eX
theorem ent109:ai prog 109:=fun _ _=>kr
theorem ent170:ai prog 170:=fun _ _=>kr
theorem ent108:ai prog 108:=fun _ _=>kr
theorem ent55:ai prog 55:=fun _ _=>kr
theorem ent128:ai prog 128:=fun _ _=>kr
theorem Lj(h:Bool):PUR 88 [.bool false,.bool h] (U8 192#8):=by
 intro w hw
 refine Hf func88 rfl hw<|fun hGF=>Xp<|Asg rfl<|aa<|ah<|aj<|Xp<|Mv rfl<|aY rfl (fun _=>aJ _) rfl rfl<|Asg rfl<|aa<|aV rfl<|Xp<|Asg rfl<|aa<|am<|Rr<|?_
 exact aE rfl rfl (fun w hw=>⟨rfl,ac hw⟩)
theorem Lr  :PUR 88 [.bool true,.bool true] (U8 160#8):=by
 intro w hw
 refine Hf func88 rfl hw<|fun hGF=>Xp<|Asg rfl<|aa<|ah<|aj<|Xp<|Mv rfl<|aY rfl (fun _=>aJ _) rfl rfl<|Asg rfl<|aa<|aq rfl<|Xp<|Mv rfl<|Asg rfl<|aa<|aV rfl<|Xp<|Asg rfl<|aa<|am<|Rr<|?_
 exact aE rfl rfl (fun w hw=>⟨rfl,ac hw⟩)
theorem LD  :PUR 88 [.bool true,.bool false] (U8 128#8):=by
 intro w hw
 refine Hf func88 rfl hw<|fun hGF=>Xp<|Asg rfl<|aa<|ah<|aj<|Xp<|Mv rfl<|aY rfl (fun _=>aJ _) rfl rfl<|Asg rfl<|aa<|aq rfl<|Xp<|Mv rfl<|Asg rfl<|aa<|aq rfl<|ap<|Xp<|Asg rfl<|aa<|am<|Rr<|?_
 exact aE rfl rfl (fun w hw=>⟨rfl,ac hw⟩)
theorem LL{bs:L8}(h:0<bs.length):[bs.getD 0 0 &&& 31#8]++bs.drop 1=MK bs:=by
 cases bs with
 |nil=>cases h
 |cons a r=>rfl
theorem BytesAt.cut3{w:World}{a:Option Addr}{rs:L8}(h:BytesAt w a rs)(l k m:Nat)(hm: ¬m=l):BytesAt w (if m=l then a else a.map (·.add (l*1))) ((rs.drop l).take k):=by
 have e:=h.cut (cap:=rs.length+l+1) l k om
 rw[if_neg om]at e
 rw[if_neg hm]
 exact e
theorem BytesAt.tail{w:World}{a:Option Addr}{rs:L8}(h:BytesAt w a rs):BytesAt w (if rs.length=1 then a else a.map (·.add (1*1))) (rs.drop 1):=by
 have e:=h.cut (cap:=rs.length) 1 rs.length (Nat.le_refl _)
 rw[List.take_of_length_le (by rw[List.length_drop];omega)]at e
 exact e
theorem kg(e:Option Addr)(cap:Nat)(bs:L8)(h0:0<bs.length)(hl:bs.length≤1000)(hcap:bs.length≤cap)(w:World)(hw:Gt w)(hby:BytesAt w e bs):CLS 109 [.slice e bs.length cap].toArray w (fun r w'=> ∃b7 c7 k7,r=.returned (.slice (spt b7) bs.length k7)∧Grow w w'∧w.heap.size≤b7∧OwnB w' b7 c7 5∧c7.take bs.length=(MK bs).map U8∧bs.length≤k7):=by
 refine Hf func109 rfl hw<|fun hGF=>Xp<|Asg rfl<|aa<|Fj (E:=EE []) [0,1,2,3,5,6,7,8,9,10,4,11,12] dC rfl kr kr kr<|Mv rfl<|?_
 obtain ⟨ad,rfl,_⟩:=hby 0 _ (gm U8 bs 0 0 om)
 refine fR 0 rfl rfl underlying22 sizeOf5 rfl om rfl rfl<|bz rfl isAgg5 (fun w' h=>by obtain ⟨ad',e,hc⟩:=(hby.grow (ac h)) 0 _ (gm U8 bs 0 0 om);cases e;exact hc) rfl rfl<|Bnr (v:=U8 (bs.getD 0 0 &&& 31#8)) rfl rfl (fun _=>qP _ _ 224#8)<|Mv rfl<|Mv rfl<|a5 rfl (fun _=>az underlying22 _ _ _ _) rfl rfl<|Mv rfl<|a5 rfl (fun _=>az underlying22 _ _ _ _) rfl rfl<|dQ (l:=1) (h':=bs.length) (m:=bs.length) rfl underlying22 sizeOf5 rfl rfl rfl ⟨om,Nat.le_refl _,hcap⟩ rfl rfl<|iw 7 [bs.getD 0 0 &&& 31#8] hGF rfl rfl rfl dc dc underlying22 sizeOf5 zeroValue5 rfl rfl<|?_
 intro b7
 refine rj (xs:=[bs.getD 0 0 &&& 31#8]) (ys:=bs.drop 1) 7 hGF rfl (by rw[List.length_drop];rfl) underlying22 underlying22 ti5 (.inr ⟨b7,_,rfl,rfl,rfl,Nat.le_refl _,rfl⟩) (fun w' h=>(hby.grow (ac h)).tail) (by simp;omega) rfl rfl (fun h0=>absurd h0 (List.cons_ne_nil _ _)) (fun b8 c8 k8 q1 q2 q3=> ?_)
 rw[LL h0]at q2 q3
 rw[bL]at q2 q3
 refine Asg rfl<|aa<|am<|Rr<|?_
 exact aE rfl rfl (fun w hw=>⟨b8,c8,k8,by rw[LL h0,bL],ac hw,(hw.own 7 b8 _ _ rfl).2.elim id False.elim,(hw.own 7 b8 _ _ rfl).1,q3,q2⟩)
def NQ(bs:L8):Bool:=decide (∀j,j<bs.length→bs.getD j 0=0#8)
theorem T6{bs:L8}(h: ∀j,j<bs.length→bs.getD j 0=0#8):NQ bs=true:=decide_eq_true h
theorem NQ_f{bs:L8}{i:Nat}(hi:i<bs.length)(h: ¬bs.getD i 0=0#8):NQ bs=false:=decide_eq_false (fun k=>h (k i hi))
theorem C4(e:Option Addr)(cap:Nat)(bs:L8)(hL:bs.length≤1000)(w:World)(hw:Gt w)(hby:BytesAt w e bs):CLS 170 [.slice e bs.length cap].toArray w (fun r w'=>r=.returned (.bool (NQ bs))∧Grow w w'):=by
 refine Hf func170 rfl hw<|fun hGF=>Xp<|Asg rfl<|aa<|ah<|Xp<|Mv rfl<|a5 rfl (fun _=>az underlying22 _ _ _ _) rfl rfl<|Mv rfl<|aa<|aj<|cG (ι:={i:Nat // i≤bs.length∧∀j,j<i→bs.getD j 0=0#8}) (fun y=>[(5,.slice e bs.length cap),(6,I (bs.length:Int)),(7,I (y.1:Int))]) (fun y=>[]) (fun y=>bs.length-y.1) ⟨0,Nat.zero_le _,fun _ h=>absurd h (Nat.not_lt_zero _)⟩ hGF trv trivial<|?_
 rintro ⟨i,hi,hall⟩
 dsimp only
 by_cases hz:bs.getD i 0=0#8
 ·refine Xp<|Bnr rfl rfl (fun _=>aF _ _ _)<|aa<|ah<|?_
  refine bZ rfl (fun hc=> ?_) (fun hc=> ?_)
  ·have hi2:i<bs.length:=by simp at hc;omega
   refine ap<|ah<|aj<|Xp<|?_
   obtain ⟨ad,rfl,_⟩:=hby i _ (gm U8 bs 0 i om)
   refine fR i rfl rfl underlying22 sizeOf5 rfl om rfl rfl<|bz (v:=U8 (bs.getD i 0)) rfl isAgg5 (fun w' h=>by obtain ⟨ad',e,hc⟩:=(hby.grow (ac h)) i _ (gm U8 bs 0 i om);cases e;exact hc) rfl rfl<|Asg rfl<|aa<|Xp<|Mv rfl<|Bnb false rfl rfl (fun _=>bE _ _ 0#8) (bne_eq_false_iff_eq.2 hz)<|aa<|aq rfl<|ap<|Xq<|Bnr rfl rfl (fun _=>aA _ _ _ oi)<|Mv rfl<|aa<|?_
   repeat (refine a7 ?_)
   refine aR ?_
   have hall': ∀j,j<i+1→bs.getD j 0=0#8:=fun j hj=>by
    rcases Nat.lt_or_ge j i with h|h
    ·exact hall j h
    ·obtain rfl:j=i:=om
     exact hz
   exact ⟨rfl,⟨i+1,om,hall'⟩,_,by show bs.length-(i+1)<bs.length-i;omega,rfl,trv,trivial⟩
  ·obtain rfl:i=bs.length:=by simp at hc;omega
   refine be<|Xp<|Asg rfl<|aa<|am<|Rr<|?_
   exact aE rfl rfl (fun w hw=>⟨by rw[T6 hall];rfl,ac hw⟩)
 ·refine Xp<|Bnr rfl rfl (fun _=>aF _ _ _)<|aa<|ah<|?_
  refine bZ rfl (fun hc=> ?_) (fun hc=> ?_)
  ·have hi2:i<bs.length:=by simp at hc;omega
   refine ap<|ah<|aj<|Xp<|?_
   obtain ⟨ad,rfl,_⟩:=hby i _ (gm U8 bs 0 i om)
   refine fR i rfl rfl underlying22 sizeOf5 rfl om rfl rfl<|bz (v:=U8 (bs.getD i 0)) rfl isAgg5 (fun w' h=>by obtain ⟨ad',e,hc⟩:=(hby.grow (ac h)) i _ (gm U8 bs 0 i om);cases e;exact hc) rfl rfl<|Asg rfl<|aa<|Xp<|Mv rfl<|Bnb true rfl rfl (fun _=>bE _ _ 0#8) (bne_iff_ne.2 hz)<|aa<|aV rfl<|Xp<|Asg rfl<|aa<|am<|Rr<|?_
   exact aE rfl rfl (fun w hw=>⟨by rw[NQ_f hi2 hz];rfl,ac hw⟩)
  ·obtain rfl:i=bs.length:=by simp at hc;omega
   refine be<|Xp<|Asg rfl<|aa<|am<|Rr<|?_
   exact aE rfl rfl (fun w hw=>⟨by rw[T6 hall];rfl,ac hw⟩)
theorem u3(b k len:Nat)(c:List Value)(bs:L8)(hn:bs.length=len)(hL:len≤1000)(q:Bool)(hq:NQ bs=q)(w:World)(hw:Gt w)(h:w.rangeAt b 0 c)(ht:c.take bs.length=bs.map U8):CLS 170 [.slice (spt b) len k].toArray w (fun r w'=>r=.returned (.bool q)∧Grow w w'):=by
 subst hn;subst hq
 exact C4 _ k bs hL w hw (cz h ht)
theorem uB(e:Option Addr)(cap N:Nat)(bs:L8)(hN: ¬bs.length=N)(w:World)(hw:Gt w):
 CLS 108 [.slice e bs.length cap,I (N:Int)].toArray w (fun r w'=>r=.returned (.tuple #[U8 0#8,I 100])∧Grow w w'):=by
 refine Hf func108 rfl hw<|fun hGF=>ae (E:=EE [109,2000109])<|Asg rfl<|Asg rfl<|aa<|ah<|ae (E:=EE [109,2000109])<|Mv rfl<|a5 rfl (fun _=>az underlying22 _ _ _ _) rfl rfl<|Mv rfl<|Bnb true rfl rfl (fun _=>aX _ _ _) (bne_iff_ne.2 om)<|aa<|aV rfl<|ae (E:=EE [109,2000109])<|Asg rfl<|Asg rfl<|aa<|am<|Rr<|?_
 exact cY rfl rfl rfl (fun w hw=>⟨rfl,ac hw⟩)
theorem Pg(e:Option Addr)(cap N:Nat)(bs:L8)(hN:bs.length=N)(h0:0<N)(hL:N≤1000)(hf:FG bs=128#8)(w:World)(hw:Gt w)(hby:BytesAt w e bs):
 CLS 108 [.slice e bs.length cap,I (N:Int)].toArray w (fun r w'=>r=.returned (.tuple #[U8 (FG bs),I 0])∧Grow w w'):=by
 refine Hf func108 rfl hw<|fun hGF=>ae (E:=EE [109,2000109])<|Asg rfl<|Asg rfl<|aa<|ah<|ae (E:=EE [109,2000109])<|Mv rfl<|a5 rfl (fun _=>az underlying22 _ _ _ _) rfl rfl<|Mv rfl<|Bnb false rfl rfl (fun _=>aX _ _ _) (bne_eq_false_iff_eq.2 om)<|aa<|aq rfl<|ap<|ah<|ae (E:=EE [109,2000109])<|Mv rfl<|?_
 obtain ⟨ad,he,_⟩:=hby 0 _ (gm U8 bs 0 0 om)
 refine fR (ad:=ad) 0 (by rw[←he];rfl) rfl underlying22 sizeOf5 rfl om rfl rfl<|bz (v:=U8 (bs.getD 0 0)) rfl isAgg5 (fun w' h=>by obtain ⟨ad',e',hc⟩:=(hby.grow (ac h)) 0 _ (gm U8 bs 0 0 om);rw[he]at e';cases e';exact hc) rfl rfl<|Bnr (v:=U8 (FG bs)) rfl rfl (fun _=>bp _ _ 224#8)<|Asg rfl<|aa<|ae (E:=EE [109,2000109])<|Mv rfl<|aa<|aj<|ah<|ae (E:=EE [109,2000109])<|Bnb true rfl rfl (fun _=>ce _ _ 128#8) (beq_iff_eq.2 hf)<|Asg rfl<|aa<|aV rfl<|ap<|aV rfl<|ae (E:=EE [109,2000109])<|Mv rfl<|Asg rfl<|Asg rfl<|aa<|am<|Rr<|?_
 exact cY rfl rfl rfl (fun w hw=>⟨rfl,ac hw⟩)
theorem Qu(e:Option Addr)(cap N:Nat)(bs:L8)(hN:bs.length=N)(h0:0<N)(hL:N≤1000)(h128: ¬FG bs=128#8)(hf:FG bs=160#8)(w:World)(hw:Gt w)(hby:BytesAt w e bs):
 CLS 108 [.slice e bs.length cap,I (N:Int)].toArray w (fun r w'=>r=.returned (.tuple #[U8 (FG bs),I 0])∧Grow w w'):=by
 refine Hf func108 rfl hw<|fun hGF=>ae (E:=EE [109,2000109])<|Asg rfl<|Asg rfl<|aa<|ah<|ae (E:=EE [109,2000109])<|Mv rfl<|a5 rfl (fun _=>az underlying22 _ _ _ _) rfl rfl<|Mv rfl<|Bnb false rfl rfl (fun _=>aX _ _ _) (bne_eq_false_iff_eq.2 om)<|aa<|aq rfl<|ap<|ah<|ae (E:=EE [109,2000109])<|Mv rfl<|?_
 obtain ⟨ad,he,_⟩:=hby 0 _ (gm U8 bs 0 0 om)
 refine fR (ad:=ad) 0 (by rw[←he];rfl) rfl underlying22 sizeOf5 rfl om rfl rfl<|bz (v:=U8 (bs.getD 0 0)) rfl isAgg5 (fun w' h=>by obtain ⟨ad',e',hc⟩:=(hby.grow (ac h)) 0 _ (gm U8 bs 0 0 om);rw[he]at e';cases e';exact hc) rfl rfl<|Bnr (v:=U8 (FG bs)) rfl rfl (fun _=>bp _ _ 224#8)<|Asg rfl<|aa<|ae (E:=EE [109,2000109])<|Mv rfl<|aa<|aj<|ah<|ae (E:=EE [109,2000109])<|Bnb false rfl rfl (fun _=>ce _ _ 128#8) (beq_eq_false_iff_ne.2 h128)<|Asg rfl<|aa<|aq rfl<|bC (E:=EE [109,2000109])<|Bnb true rfl rfl (fun _=>ce _ _ 160#8) (beq_iff_eq.2 hf)<|Asg rfl<|aa<|aV rfl<|ae (E:=EE [109,2000109])<|Mv rfl<|Asg rfl<|Asg rfl<|aa<|am<|Rr<|?_
 exact cY rfl rfl rfl (fun w hw=>⟨rfl,ac hw⟩)
theorem Ew(e:Option Addr)(cap N:Nat)(bs:L8)(hN:bs.length=N)(h0:0<N)(hL:N≤1000)(hcap:bs.length≤cap)(h128: ¬FG bs=128#8)(h160: ¬FG bs=160#8)(hf:FG bs=192#8)(hq:NQ (MK bs)=true)(w:World)(hw:Gt w)(hby:BytesAt w e bs):
 CLS 108 [.slice e bs.length cap,I (N:Int)].toArray w (fun r w'=>r=.returned (.tuple #[U8 (FG bs),I 0])∧Grow w w'):=by
 refine Hf func108 rfl hw<|fun hGF=>ae (E:=EE [109,2000109])<|Asg rfl<|Asg rfl<|aa<|ah<|ae (E:=EE [109,2000109])<|Mv rfl<|a5 rfl (fun _=>az underlying22 _ _ _ _) rfl rfl<|Mv rfl<|Bnb false rfl rfl (fun _=>aX _ _ _) (bne_eq_false_iff_eq.2 om)<|aa<|aq rfl<|ap<|ah<|ae (E:=EE [109,2000109])<|Mv rfl<|?_
 obtain ⟨ad,he,_⟩:=hby 0 _ (gm U8 bs 0 0 om)
 refine fR (ad:=ad) 0 (by rw[←he];rfl) rfl underlying22 sizeOf5 rfl om rfl rfl<|bz (v:=U8 (bs.getD 0 0)) rfl isAgg5 (fun w' h=>by obtain ⟨ad',e',hc⟩:=(hby.grow (ac h)) 0 _ (gm U8 bs 0 0 om);rw[he]at e';cases e';exact hc) rfl rfl<|Bnr (v:=U8 (FG bs)) rfl rfl (fun _=>bp _ _ 224#8)<|Asg rfl<|aa<|ae (E:=EE [109,2000109])<|Mv rfl<|aa<|aj<|ah<|ae (E:=EE [109,2000109])<|Bnb false rfl rfl (fun _=>ce _ _ 128#8) (beq_eq_false_iff_ne.2 h128)<|Asg rfl<|aa<|aq rfl<|bC (E:=EE [109,2000109])<|Bnb false rfl rfl (fun _=>ce _ _ 160#8) (beq_eq_false_iff_ne.2 h160)<|Asg rfl<|aa<|aq rfl<|ae (E:=EE [109,2000109])<|Bnb true rfl rfl (fun _=>ce _ _ 192#8) (beq_iff_eq.2 hf)<|Asg rfl<|aa<|aV rfl<|ae (E:=EE [109,2000109])<|Mv rfl<|?_
 refine bI rfl rfl ent109 rfl rfl (fun w' hw'=>(kg e cap bs om om hcap w' (hGF.g _ _ _ hw') (hby.grow (ac hw'))).mono fun e' w'' h=> ?_)
 obtain ⟨b7,c7,k7,rfl,hg,hb7,hob,q3,q2⟩:=h
 refine ⟨_,_,rfl,au hGF,hw'.news ak hg [(33,b7,c7,5)] ?_ bN,bJ ak rfl, ?_⟩
 ·intro n' b' c' t' hl
  rcases aC hl with ⟨_,e⟩|⟨_,hl⟩
  ·cases e;exact ⟨hb7,hob⟩
  ·cases hl
 clear hw' hg hb7 hob
 refine Cc rfl ent170 (fun w' hC hG=>u3 b7 k7 bs.length c7 (MK bs) (bL bs) om true hq w' hG (aO (n:=33) rfl w' hC) (by rw[bL];exact q3))<|aa<|aV rfl<|ae (E:=EE [109,2000109])<|Mv rfl<|Asg rfl<|Asg rfl<|aa<|am<|Rr<|?_
 exact cY rfl rfl rfl (fun w hw=>⟨rfl,ac hw⟩)
theorem Bw(e:Option Addr)(cap N:Nat)(bs:L8)(hN:bs.length=N)(h0:0<N)(hL:N≤1000)(hcap:bs.length≤cap)(h128: ¬FG bs=128#8)(h160: ¬FG bs=160#8)(hf:FG bs=192#8)(hq:NQ (MK bs)=false)(w:World)(hw:Gt w)(hby:BytesAt w e bs):
 CLS 108 [.slice e bs.length cap,I (N:Int)].toArray w (fun r w'=>r=.returned (.tuple #[U8 0#8,I 101])∧Grow w w'):=by
 refine Hf func108 rfl hw<|fun hGF=>ae (E:=EE [109,2000109])<|Asg rfl<|Asg rfl<|aa<|ah<|ae (E:=EE [109,2000109])<|Mv rfl<|a5 rfl (fun _=>az underlying22 _ _ _ _) rfl rfl<|Mv rfl<|Bnb false rfl rfl (fun _=>aX _ _ _) (bne_eq_false_iff_eq.2 om)<|aa<|aq rfl<|ap<|ah<|ae (E:=EE [109,2000109])<|Mv rfl<|?_
 obtain ⟨ad,he,_⟩:=hby 0 _ (gm U8 bs 0 0 om)
 refine fR (ad:=ad) 0 (by rw[←he];rfl) rfl underlying22 sizeOf5 rfl om rfl rfl<|bz (v:=U8 (bs.getD 0 0)) rfl isAgg5 (fun w' h=>by obtain ⟨ad',e',hc⟩:=(hby.grow (ac h)) 0 _ (gm U8 bs 0 0 om);rw[he]at e';cases e';exact hc) rfl rfl<|Bnr (v:=U8 (FG bs)) rfl rfl (fun _=>bp _ _ 224#8)<|Asg rfl<|aa<|ae (E:=EE [109,2000109])<|Mv rfl<|aa<|aj<|ah<|ae (E:=EE [109,2000109])<|Bnb false rfl rfl (fun _=>ce _ _ 128#8) (beq_eq_false_iff_ne.2 h128)<|Asg rfl<|aa<|aq rfl<|bC (E:=EE [109,2000109])<|Bnb false rfl rfl (fun _=>ce _ _ 160#8) (beq_eq_false_iff_ne.2 h160)<|Asg rfl<|aa<|aq rfl<|ae (E:=EE [109,2000109])<|Bnb true rfl rfl (fun _=>ce _ _ 192#8) (beq_iff_eq.2 hf)<|Asg rfl<|aa<|aV rfl<|ae (E:=EE [109,2000109])<|Mv rfl<|?_
 refine bI rfl rfl ent109 rfl rfl (fun w' hw'=>(kg e cap bs om om hcap w' (hGF.g _ _ _ hw') (hby.grow (ac hw'))).mono fun e' w'' h=> ?_)
 obtain ⟨b7,c7,k7,rfl,hg,hb7,hob,q3,q2⟩:=h
 refine ⟨_,_,rfl,au hGF,hw'.news ak hg [(33,b7,c7,5)] ?_ bN,bJ ak rfl, ?_⟩
 ·intro n' b' c' t' hl
  rcases aC hl with ⟨_,e⟩|⟨_,hl⟩
  ·cases e;exact ⟨hb7,hob⟩
  ·cases hl
 clear hw' hg hb7 hob
 refine Cc rfl ent170 (fun w' hC hG=>u3 b7 k7 bs.length c7 (MK bs) (bL bs) om false hq w' hG (aO (n:=33) rfl w' hC) (by rw[bL];exact q3))<|aa<|aq rfl<|ap<|ae (E:=EE [109,2000109])<|Asg rfl<|Asg rfl<|aa<|am<|Rr<|?_
 exact cY rfl rfl rfl (fun w hw=>⟨rfl,ac hw⟩)
theorem uM(e:Option Addr)(cap N:Nat)(bs:L8)(hN:bs.length=N)(h0:0<N)(hL:N≤1000)(h128: ¬FG bs=128#8)(h160: ¬FG bs=160#8)(h192: ¬FG bs=192#8)(w:World)(hw:Gt w)(hby:BytesAt w e bs):
 CLS 108 [.slice e bs.length cap,I (N:Int)].toArray w (fun r w'=>r=.returned (.tuple #[U8 0#8,I 101])∧Grow w w'):=by
 refine Hf func108 rfl hw<|fun hGF=>ae (E:=EE [109,2000109])<|Asg rfl<|Asg rfl<|aa<|ah<|ae (E:=EE [109,2000109])<|Mv rfl<|a5 rfl (fun _=>az underlying22 _ _ _ _) rfl rfl<|Mv rfl<|Bnb false rfl rfl (fun _=>aX _ _ _) (bne_eq_false_iff_eq.2 om)<|aa<|aq rfl<|ap<|ah<|ae (E:=EE [109,2000109])<|Mv rfl<|?_
 obtain ⟨ad,he,_⟩:=hby 0 _ (gm U8 bs 0 0 om)
 refine fR (ad:=ad) 0 (by rw[←he];rfl) rfl underlying22 sizeOf5 rfl om rfl rfl<|bz (v:=U8 (bs.getD 0 0)) rfl isAgg5 (fun w' h=>by obtain ⟨ad',e',hc⟩:=(hby.grow (ac h)) 0 _ (gm U8 bs 0 0 om);rw[he]at e';cases e';exact hc) rfl rfl<|Bnr (v:=U8 (FG bs)) rfl rfl (fun _=>bp _ _ 224#8)<|Asg rfl<|aa<|ae (E:=EE [109,2000109])<|Mv rfl<|aa<|aj<|ah<|ae (E:=EE [109,2000109])<|Bnb false rfl rfl (fun _=>ce _ _ 128#8) (beq_eq_false_iff_ne.2 h128)<|Asg rfl<|aa<|aq rfl<|bC (E:=EE [109,2000109])<|Bnb false rfl rfl (fun _=>ce _ _ 160#8) (beq_eq_false_iff_ne.2 h160)<|Asg rfl<|aa<|aq rfl<|ae (E:=EE [109,2000109])<|Bnb false rfl rfl (fun _=>ce _ _ 192#8) (beq_eq_false_iff_ne.2 h192)<|Asg rfl<|aa<|aq rfl<|ap<|ae (E:=EE [109,2000109])<|Asg rfl<|Asg rfl<|aa<|am<|Rr<|?_
 exact cY rfl rfl rfl (fun w hw=>⟨rfl,ac hw⟩)
theorem lp:lf prog 54 "Neg" 119:=fun _ _=>kr
theorem jg:lf prog 54 "Equal" 326:=fun _ _=>kr
theorem fx:lf prog 54 "InGroup" 327:=fun _ _=>kr
theorem Pn(p:J1.GP)(f:BitVec 8)  :PUR 111 [J1.PtV p,.bool false,U8 f] (.tuple #[J1.PtV J1.cI,I 103]):=by
 intro w hw
 refine Hf func111 rfl hw<|fun hGF=>Xp<|Bx 3 hGF rfl<|fun b3=>Al 6 hGF J1.zv54<|fun b6=>Asg rfl<|aa<|Xp<|Al 8 hGF J1.zv54<|fun b8=>aa<|ah<|aj<|Xp<|Mv rfl<|aY rfl (fun _=>aJ _) rfl rfl<|Asg rfl<|aa<|aV rfl<|Xp<|La 8 rfl rfl bT<|Sa 6 hGF rfl rfl rfl bT<|Asg rfl<|aa<|am<|Rr<|?_
 exact aZ 6 rfl rfl rfl rfl isAgg54 sizeOf54 sm (fun w hw=>⟨rfl,ac hw⟩)
theorem M3(p:J1.GP)(f:BitVec 8)(hf: ¬f &&& 32#8=0#8)(he:p.P=(J1.gB p).P):PUR 111 [J1.PtV p,.bool true,U8 f] (.tuple #[J1.PtV J1.cI,I 103]):=by
 intro w hw
 refine Hf func111 rfl hw<|fun hGF=>Xp<|Bx 3 hGF rfl<|fun b3=>Al 6 hGF J1.zv54<|fun b6=>Asg rfl<|aa<|Xp<|Al 8 hGF J1.zv54<|fun b8=>aa<|ah<|aj<|Xp<|Mv rfl<|aY rfl (fun _=>aJ _) rfl rfl<|Asg rfl<|aa<|aq rfl<|Xd []<|Mv rfl<|Bnr (v:=U8 (f &&& 32#8)) rfl rfl (fun _=>bp _ _ 32#8)<|Bnb true rfl rfl (fun _=>bE _ _ 0#8) (bne_iff_ne.2 hf)<|Mv rfl<|La 3 rfl rfl bT<|cE rfl underlying54 rfl rfl<|La 3 rfl rfl bT<|cE rfl underlying54 rfl rfl<|jB rfl rfl lp rfl ent119 (J1.lO p) rfl rfl<|ee true rfl rfl jg rfl ent326 (J1.jz p (J1.gB p)) (decide_eq_true he) rfl rfl<|Pk rfl rfl rfl<|Asg rfl<|aa<|aV rfl<|Xp<|La 8 rfl rfl bT<|Sa 6 hGF rfl rfl rfl bT<|Asg rfl<|aa<|am<|Rr<|?_
 exact aZ 6 rfl rfl rfl rfl isAgg54 sizeOf54 sm (fun w hw=>⟨rfl,ac hw⟩)
theorem Ka(p:J1.GP)(f:BitVec 8)(hf: ¬f &&& 32#8=0#8)(he: ¬p.P=(J1.gB p).P)(hg: ¬E1.times p.P ORD=none):PUR 111 [J1.PtV p,.bool true,U8 f] (.tuple #[J1.PtV J1.cI,I 104]):=by
 intro w hw
 refine Hf func111 rfl hw<|fun hGF=>Xp<|Bx 3 hGF rfl<|fun b3=>Al 6 hGF J1.zv54<|fun b6=>Asg rfl<|aa<|Xp<|Al 8 hGF J1.zv54<|fun b8=>aa<|ah<|aj<|Xp<|Mv rfl<|aY rfl (fun _=>aJ _) rfl rfl<|Asg rfl<|aa<|aq rfl<|Xd []<|Mv rfl<|Bnr (v:=U8 (f &&& 32#8)) rfl rfl (fun _=>bp _ _ 32#8)<|Bnb true rfl rfl (fun _=>bE _ _ 0#8) (bne_iff_ne.2 hf)<|Mv rfl<|La 3 rfl rfl bT<|cE rfl underlying54 rfl rfl<|La 3 rfl rfl bT<|cE rfl underlying54 rfl rfl<|jB rfl rfl lp rfl ent119 (J1.lO p) rfl rfl<|ee false rfl rfl jg rfl ent326 (J1.jz p (J1.gB p)) (decide_eq_false he) rfl rfl<|Pk rfl rfl rfl<|Asg rfl<|aa<|aq rfl<|Xp<|La 3 rfl rfl bT<|cE rfl underlying54 rfl rfl<|ee false rfl rfl fx rfl ent327 (J1.eD p) (decide_eq_false hg) rfl rfl<|aY rfl (fun _=>aJ _) rfl rfl<|Asg rfl<|aa<|aV rfl<|?_
 refine Xp<|La 8 rfl rfl bT<|Sa 6 hGF rfl rfl rfl bT<|Asg rfl<|aa<|am<|Rr<|?_
 exact aZ 6 rfl rfl rfl rfl isAgg54 sizeOf54 sm (fun w hw=>⟨rfl,ac hw⟩)
theorem J6(p:J1.GP)(f:BitVec 8)(hf: ¬f &&& 32#8=0#8)(he: ¬p.P=(J1.gB p).P)(hg:E1.times p.P ORD=none):PUR 111 [J1.PtV p,.bool true,U8 f] (.tuple #[J1.PtV p,I 0]):=by
 intro w hw
 refine Hf func111 rfl hw<|fun hGF=>Xp<|Bx 3 hGF rfl<|fun b3=>Al 6 hGF J1.zv54<|fun b6=>Asg rfl<|aa<|Xp<|Al 8 hGF J1.zv54<|fun b8=>aa<|ah<|aj<|Xp<|Mv rfl<|aY rfl (fun _=>aJ _) rfl rfl<|Asg rfl<|aa<|aq rfl<|Xd []<|Mv rfl<|Bnr (v:=U8 (f &&& 32#8)) rfl rfl (fun _=>bp _ _ 32#8)<|Bnb true rfl rfl (fun _=>bE _ _ 0#8) (bne_iff_ne.2 hf)<|Mv rfl<|La 3 rfl rfl bT<|cE rfl underlying54 rfl rfl<|La 3 rfl rfl bT<|cE rfl underlying54 rfl rfl<|jB rfl rfl lp rfl ent119 (J1.lO p) rfl rfl<|ee false rfl rfl jg rfl ent326 (J1.jz p (J1.gB p)) (decide_eq_false he) rfl rfl<|Pk rfl rfl rfl<|Asg rfl<|aa<|aq rfl<|Xp<|La 3 rfl rfl bT<|cE rfl underlying54 rfl rfl<|ee true rfl rfl fx rfl ent327 (J1.eD p) (decide_eq_true hg) rfl rfl<|aY rfl (fun _=>aJ _) rfl rfl<|Asg rfl<|aa<|aq rfl<|?_
 refine ap<|Xp<|La 3 rfl rfl bT<|Sa 6 hGF rfl rfl rfl bT<|Asg rfl<|aa<|am<|Rr<|?_
 exact aZ 6 rfl rfl rfl rfl isAgg54 sizeOf54 sm (fun w hw=>⟨rfl,ac hw⟩)
theorem Jt(p:J1.GP)(f:BitVec 8)(hf:f &&& 32#8=0#8)(hg: ¬E1.times p.P ORD=none):PUR 111 [J1.PtV p,.bool true,U8 f] (.tuple #[J1.PtV J1.cI,I 104]):=by
 intro w hw
 refine Hf func111 rfl hw<|fun hGF=>Xp<|Bx 3 hGF rfl<|fun b3=>Al 6 hGF J1.zv54<|fun b6=>Asg rfl<|aa<|Xp<|Al 8 hGF J1.zv54<|fun b8=>aa<|ah<|aj<|Xp<|Mv rfl<|aY rfl (fun _=>aJ _) rfl rfl<|Asg rfl<|aa<|aq rfl<|Xd []<|Mv rfl<|Bnr (v:=U8 (f &&& 32#8)) rfl rfl (fun _=>bp _ _ 32#8)<|Bnb false rfl rfl (fun _=>bE _ _ 0#8) (bne_eq_false_iff_eq.2 hf)<|Mv rfl<|Sk<|Sk<|Sk<|Sk<|Sk<|Sk<|Pk rfl rfl rfl<|Asg rfl<|aa<|aq rfl<|Xp<|La 3 rfl rfl bT<|cE rfl underlying54 rfl rfl<|ee false rfl rfl fx rfl ent327 (J1.eD p) (decide_eq_false hg) rfl rfl<|aY rfl (fun _=>aJ _) rfl rfl<|Asg rfl<|aa<|aV rfl<|?_
 refine Xp<|La 8 rfl rfl bT<|Sa 6 hGF rfl rfl rfl bT<|Asg rfl<|aa<|am<|Rr<|?_
 exact aZ 6 rfl rfl rfl rfl isAgg54 sizeOf54 sm (fun w hw=>⟨rfl,ac hw⟩)
theorem IX(p:J1.GP)(f:BitVec 8)(hf:f &&& 32#8=0#8)(hg:E1.times p.P ORD=none):PUR 111 [J1.PtV p,.bool true,U8 f] (.tuple #[J1.PtV p,I 0]):=by
 intro w hw
 refine Hf func111 rfl hw<|fun hGF=>Xp<|Bx 3 hGF rfl<|fun b3=>Al 6 hGF J1.zv54<|fun b6=>Asg rfl<|aa<|Xp<|Al 8 hGF J1.zv54<|fun b8=>aa<|ah<|aj<|Xp<|Mv rfl<|aY rfl (fun _=>aJ _) rfl rfl<|Asg rfl<|aa<|aq rfl<|Xd []<|Mv rfl<|Bnr (v:=U8 (f &&& 32#8)) rfl rfl (fun _=>bp _ _ 32#8)<|Bnb false rfl rfl (fun _=>bE _ _ 0#8) (bne_eq_false_iff_eq.2 hf)<|Mv rfl<|Sk<|Sk<|Sk<|Sk<|Sk<|Sk<|Pk rfl rfl rfl<|Asg rfl<|aa<|aq rfl<|Xp<|La 3 rfl rfl bT<|cE rfl underlying54 rfl rfl<|ee true rfl rfl fx rfl ent327 (J1.eD p) (decide_eq_true hg) rfl rfl<|aY rfl (fun _=>aJ _) rfl rfl<|Asg rfl<|aa<|aq rfl<|?_
 refine ap<|Xp<|La 3 rfl rfl bT<|Sa 6 hGF rfl rfl rfl bT<|Asg rfl<|aa<|am<|Rr<|?_
 exact aZ 6 rfl rfl rfl rfl isAgg54 sizeOf54 sm (fun w hw=>⟨rfl,ac hw⟩)
theorem lj:lf prog 94 "Neg" 334:=fun _ _=>kr
theorem jk:lf prog 94 "Equal" 332:=fun _ _=>kr
theorem fC:lf prog 94 "InGroup" 333:=fun _ _=>kr
theorem Nv(p:J2.GP)(f:BitVec 8)  :PUR 187 [J2.PtV p,.bool false,U8 f] (.tuple #[J2.PtV J2.cI,I 103]):=by
 intro w hw
 refine Hf func187 rfl hw<|fun hGF=>Xp<|Bx 3 hGF rfl<|fun b3=>Al 6 hGF J2.zv94<|fun b6=>Asg rfl<|aa<|Xp<|Al 8 hGF J2.zv94<|fun b8=>aa<|ah<|aj<|Xp<|Mv rfl<|aY rfl (fun _=>aJ _) rfl rfl<|Asg rfl<|aa<|aV rfl<|Xp<|La 8 rfl rfl bG<|Sa 6 hGF rfl rfl rfl bG<|Asg rfl<|aa<|am<|Rr<|?_
 exact aZ 6 rfl rfl rfl rfl isAgg94 sizeOf94 sm (fun w hw=>⟨rfl,ac hw⟩)
theorem N0(p:J2.GP)(f:BitVec 8)(hf: ¬f &&& 32#8=0#8)(he:p.P=(J2.gB p).P):PUR 187 [J2.PtV p,.bool true,U8 f] (.tuple #[J2.PtV J2.cI,I 103]):=by
 intro w hw
 refine Hf func187 rfl hw<|fun hGF=>Xp<|Bx 3 hGF rfl<|fun b3=>Al 6 hGF J2.zv94<|fun b6=>Asg rfl<|aa<|Xp<|Al 8 hGF J2.zv94<|fun b8=>aa<|ah<|aj<|Xp<|Mv rfl<|aY rfl (fun _=>aJ _) rfl rfl<|Asg rfl<|aa<|aq rfl<|Xd []<|Mv rfl<|Bnr (v:=U8 (f &&& 32#8)) rfl rfl (fun _=>bp _ _ 32#8)<|Bnb true rfl rfl (fun _=>bE _ _ 0#8) (bne_iff_ne.2 hf)<|Mv rfl<|La 3 rfl rfl bG<|cE rfl underlying94 rfl rfl<|La 3 rfl rfl bG<|cE rfl underlying94 rfl rfl<|jB rfl rfl lj rfl ent334 (J2.lO p) rfl rfl<|ee true rfl rfl jk rfl ent332 (J2.jz p (J2.gB p)) (decide_eq_true he) rfl rfl<|Pk rfl rfl rfl<|Asg rfl<|aa<|aV rfl<|Xp<|La 8 rfl rfl bG<|Sa 6 hGF rfl rfl rfl bG<|Asg rfl<|aa<|am<|Rr<|?_
 exact aZ 6 rfl rfl rfl rfl isAgg94 sizeOf94 sm (fun w hw=>⟨rfl,ac hw⟩)
theorem HJ(p:J2.GP)(f:BitVec 8)(hf: ¬f &&& 32#8=0#8)(he: ¬p.P=(J2.gB p).P)(hg: ¬E2w.times p.P ORD=none):PUR 187 [J2.PtV p,.bool true,U8 f] (.tuple #[J2.PtV J2.cI,I 104]):=by
 intro w hw
 refine Hf func187 rfl hw<|fun hGF=>Xp<|Bx 3 hGF rfl<|fun b3=>Al 6 hGF J2.zv94<|fun b6=>Asg rfl<|aa<|Xp<|Al 8 hGF J2.zv94<|fun b8=>aa<|ah<|aj<|Xp<|Mv rfl<|aY rfl (fun _=>aJ _) rfl rfl<|Asg rfl<|aa<|aq rfl<|Xd []<|Mv rfl<|Bnr (v:=U8 (f &&& 32#8)) rfl rfl (fun _=>bp _ _ 32#8)<|Bnb true rfl rfl (fun _=>bE _ _ 0#8) (bne_iff_ne.2 hf)<|Mv rfl<|La 3 rfl rfl bG<|cE rfl underlying94 rfl rfl<|La 3 rfl rfl bG<|cE rfl underlying94 rfl rfl<|jB rfl rfl lj rfl ent334 (J2.lO p) rfl rfl<|ee false rfl rfl jk rfl ent332 (J2.jz p (J2.gB p)) (decide_eq_false he) rfl rfl<|Pk rfl rfl rfl<|Asg rfl<|aa<|aq rfl<|Xp<|La 3 rfl rfl bG<|cE rfl underlying94 rfl rfl<|ee false rfl rfl fC rfl ent333 (J2.eD p) (decide_eq_false hg) rfl rfl<|aY rfl (fun _=>aJ _) rfl rfl<|Asg rfl<|aa<|aV rfl<|?_
 refine Xp<|La 8 rfl rfl bG<|Sa 6 hGF rfl rfl rfl bG<|Asg rfl<|aa<|am<|Rr<|?_
 exact aZ 6 rfl rfl rfl rfl isAgg94 sizeOf94 sm (fun w hw=>⟨rfl,ac hw⟩)
theorem Jc(p:J2.GP)(f:BitVec 8)(hf: ¬f &&& 32#8=0#8)(he: ¬p.P=(J2.gB p).P)(hg:E2w.times p.P ORD=none):PUR 187 [J2.PtV p,.bool true,U8 f] (.tuple #[J2.PtV p,I 0]):=by
 intro w hw
 refine Hf func187 rfl hw<|fun hGF=>Xp<|Bx 3 hGF rfl<|fun b3=>Al 6 hGF J2.zv94<|fun b6=>Asg rfl<|aa<|Xp<|Al 8 hGF J2.zv94<|fun b8=>aa<|ah<|aj<|Xp<|Mv rfl<|aY rfl (fun _=>aJ _) rfl rfl<|Asg rfl<|aa<|aq rfl<|Xd []<|Mv rfl<|Bnr (v:=U8 (f &&& 32#8)) rfl rfl (fun _=>bp _ _ 32#8)<|Bnb true rfl rfl (fun _=>bE _ _ 0#8) (bne_iff_ne.2 hf)<|Mv rfl<|La 3 rfl rfl bG<|cE rfl underlying94 rfl rfl<|La 3 rfl rfl bG<|cE rfl underlying94 rfl rfl<|jB rfl rfl lj rfl ent334 (J2.lO p) rfl rfl<|ee false rfl rfl jk rfl ent332 (J2.jz p (J2.gB p)) (decide_eq_false he) rfl rfl<|Pk rfl rfl rfl<|Asg rfl<|aa<|aq rfl<|Xp<|La 3 rfl rfl bG<|cE rfl underlying94 rfl rfl<|ee true rfl rfl fC rfl ent333 (J2.eD p) (decide_eq_true hg) rfl rfl<|aY rfl (fun _=>aJ _) rfl rfl<|Asg rfl<|aa<|aq rfl<|?_
 refine ap<|Xp<|La 3 rfl rfl bG<|Sa 6 hGF rfl rfl rfl bG<|Asg rfl<|aa<|am<|Rr<|?_
 exact aZ 6 rfl rfl rfl rfl isAgg94 sizeOf94 sm (fun w hw=>⟨rfl,ac hw⟩)
theorem Ic(p:J2.GP)(f:BitVec 8)(hf:f &&& 32#8=0#8)(hg: ¬E2w.times p.P ORD=none):PUR 187 [J2.PtV p,.bool true,U8 f] (.tuple #[J2.PtV J2.cI,I 104]):=by
 intro w hw
 refine Hf func187 rfl hw<|fun hGF=>Xp<|Bx 3 hGF rfl<|fun b3=>Al 6 hGF J2.zv94<|fun b6=>Asg rfl<|aa<|Xp<|Al 8 hGF J2.zv94<|fun b8=>aa<|ah<|aj<|Xp<|Mv rfl<|aY rfl (fun _=>aJ _) rfl rfl<|Asg rfl<|aa<|aq rfl<|Xd []<|Mv rfl<|Bnr (v:=U8 (f &&& 32#8)) rfl rfl (fun _=>bp _ _ 32#8)<|Bnb false rfl rfl (fun _=>bE _ _ 0#8) (bne_eq_false_iff_eq.2 hf)<|Mv rfl<|Sk<|Sk<|Sk<|Sk<|Sk<|Sk<|Pk rfl rfl rfl<|Asg rfl<|aa<|aq rfl<|Xp<|La 3 rfl rfl bG<|cE rfl underlying94 rfl rfl<|ee false rfl rfl fC rfl ent333 (J2.eD p) (decide_eq_false hg) rfl rfl<|aY rfl (fun _=>aJ _) rfl rfl<|Asg rfl<|aa<|aV rfl<|?_
 refine Xp<|La 8 rfl rfl bG<|Sa 6 hGF rfl rfl rfl bG<|Asg rfl<|aa<|am<|Rr<|?_
 exact aZ 6 rfl rfl rfl rfl isAgg94 sizeOf94 sm (fun w hw=>⟨rfl,ac hw⟩)
theorem IG(p:J2.GP)(f:BitVec 8)(hf:f &&& 32#8=0#8)(hg:E2w.times p.P ORD=none):PUR 187 [J2.PtV p,.bool true,U8 f] (.tuple #[J2.PtV p,I 0]):=by
 intro w hw
 refine Hf func187 rfl hw<|fun hGF=>Xp<|Bx 3 hGF rfl<|fun b3=>Al 6 hGF J2.zv94<|fun b6=>Asg rfl<|aa<|Xp<|Al 8 hGF J2.zv94<|fun b8=>aa<|ah<|aj<|Xp<|Mv rfl<|aY rfl (fun _=>aJ _) rfl rfl<|Asg rfl<|aa<|aq rfl<|Xd []<|Mv rfl<|Bnr (v:=U8 (f &&& 32#8)) rfl rfl (fun _=>bp _ _ 32#8)<|Bnb false rfl rfl (fun _=>bE _ _ 0#8) (bne_eq_false_iff_eq.2 hf)<|Mv rfl<|Sk<|Sk<|Sk<|Sk<|Sk<|Sk<|Pk rfl rfl rfl<|Asg rfl<|aa<|aq rfl<|Xp<|La 3 rfl rfl bG<|cE rfl underlying94 rfl rfl<|ee true rfl rfl fC rfl ent333 (J2.eD p) (decide_eq_true hg) rfl rfl<|aY rfl (fun _=>aJ _) rfl rfl<|Asg rfl<|aa<|aq rfl<|?_
 refine ap<|Xp<|La 3 rfl rfl bG<|Sa 6 hGF rfl rfl rfl bG<|Asg rfl<|aa<|am<|Rr<|?_
 exact aZ 6 rfl rfl rfl rfl isAgg94 sizeOf94 sm (fun w hw=>⟨rfl,ac hw⟩)
theorem FA:cH 0=List.replicate 48 0#8:=by decide+kernel
theorem yD(bs:L8):OR0 bs 160#8=OR0 (OR0 bs 128#8) 32#8:=by
 cases bs with
 |nil=>rfl
 |cons a r=>show (a|||160#8)::r=((a|||128#8)|||32#8)::r;rw[BitVec.or_assoc];rfl
theorem zv32(w:World):(zeroValue 32).run prog w=.ok (.agg ((List.replicate 96 (0#8)).map U8).toArray) w:=(zeroValue32 w).trans rr
theorem QF(p:J1.GP)(h:p.P=none):PUR 41 [J1.PtV p] (.agg ((OR0 (cH 0) 192#8).map U8).toArray):=by
 intro w hw
 refine Hf func41 rfl hw<|fun hGF=>Xp<|Bx 1 hGF rfl<|fun b1=>Al 2 hGF zv29<|fun b2=>aa<|Xp<|La 1 rfl rfl bT<|Ca rfl (J1.GY p h)<|Mv rfl<|Ext rfl rfl<|Ext rfl rfl<|Ext rfl rfl<|Al 3 hGF zv52<|fun b3=>Al 4 hGF zv52<|fun b4=>Sa 3 hGF rfl rfl rfl bv<|Sa 4 hGF rfl rfl rfl bv<|Asg rfl<|aa<|Xp<|La 3 rfl rfl bv<|Ca rfl (dw _)<|Al 6 hGF zv29<|fun b6=>ao 6 hGF rfl rfl rfl sizeOf29 sm sm (bi _) rfl<|aa<|Xd []<|fS 0 rfl rfl underlying29 sizeOf5 dc dc rfl rfl<|Lm 6 U8 0 rfl rfl isAgg5 sm<|Mv rfl<|La 4 rfl rfl bv<|Ca rfl (fX _)<|Ca rfl (Lj _)<|Bnr (v:=U8 ((cH 0).getD 0 0|||192#8)) rfl rfl (fun _=>gL _ _ 192#8)<|fS 0 rfl rfl underlying29 sizeOf5 dc dc rfl rfl<|bB 6 U8 hGF rfl rfl rfl sizeOf5 rfl sm rfl<|aa<|Xp<|La 6 rfl rfl EI<|ao 2 hGF rfl rfl rfl sizeOf29 sm sm (bi _) rfl<|aa<|am<|?_
 refine Rr ?_
 exact ay 2 rfl rfl rfl isAgg29 sizeOf29 sm (fun w hw=>⟨rfl,ac hw⟩)
theorem QG(p:J1.GP)(h: ¬p.P=none)(hl:decide (hf<(J1.PY p.P).val)=true):PUR 41 [J1.PtV p] (.agg ((OR0 (cH (J1.PX p.P)) 160#8).map U8).toArray):=by
 intro w hw
 refine Hf func41 rfl hw<|fun hGF=>Xp<|Bx 1 hGF rfl<|fun b1=>Al 2 hGF zv29<|fun b2=>aa<|Xp<|La 1 rfl rfl bT<|Ca rfl (J1.ut p h)<|Mv rfl<|Ext rfl rfl<|Ext rfl rfl<|Ext rfl rfl<|Al 3 hGF zv52<|fun b3=>Al 4 hGF zv52<|fun b4=>Sa 3 hGF rfl rfl rfl bv<|Sa 4 hGF rfl rfl rfl bv<|Asg rfl<|aa<|Xp<|La 3 rfl rfl bv<|Ca rfl (dw _)<|Al 6 hGF zv29<|fun b6=>ao 6 hGF rfl rfl rfl sizeOf29 sm sm (bi _) rfl<|aa<|Xd []<|fS 0 rfl rfl underlying29 sizeOf5 dc dc rfl rfl<|Lm 6 U8 0 rfl rfl isAgg5 sm<|Mv rfl<|La 4 rfl rfl bv<|Cbl true rfl ent89 (fX _) (hl)<|Ca rfl (Lr)<|Bnr (v:=U8 ((cH (J1.PX p.P)).getD 0 0|||160#8)) rfl rfl (fun _=>gL _ _ 160#8)<|fS 0 rfl rfl underlying29 sizeOf5 dc dc rfl rfl<|bB 6 U8 hGF rfl rfl rfl sizeOf5 rfl sm rfl<|aa<|Xp<|La 6 rfl rfl EI<|ao 2 hGF rfl rfl rfl sizeOf29 sm sm (bi _) rfl<|aa<|am<|?_
 refine Rr ?_
 exact ay 2 rfl rfl rfl isAgg29 sizeOf29 sm (fun w hw=>⟨rfl,ac hw⟩)
theorem Oe(p:J1.GP)(h: ¬p.P=none)(hl:decide (hf<(J1.PY p.P).val)=false):PUR 41 [J1.PtV p] (.agg ((OR0 (cH (J1.PX p.P)) 128#8).map U8).toArray):=by
 intro w hw
 refine Hf func41 rfl hw<|fun hGF=>Xp<|Bx 1 hGF rfl<|fun b1=>Al 2 hGF zv29<|fun b2=>aa<|Xp<|La 1 rfl rfl bT<|Ca rfl (J1.ut p h)<|Mv rfl<|Ext rfl rfl<|Ext rfl rfl<|Ext rfl rfl<|Al 3 hGF zv52<|fun b3=>Al 4 hGF zv52<|fun b4=>Sa 3 hGF rfl rfl rfl bv<|Sa 4 hGF rfl rfl rfl bv<|Asg rfl<|aa<|Xp<|La 3 rfl rfl bv<|Ca rfl (dw _)<|Al 6 hGF zv29<|fun b6=>ao 6 hGF rfl rfl rfl sizeOf29 sm sm (bi _) rfl<|aa<|Xd []<|fS 0 rfl rfl underlying29 sizeOf5 dc dc rfl rfl<|Lm 6 U8 0 rfl rfl isAgg5 sm<|Mv rfl<|La 4 rfl rfl bv<|Cbl false rfl ent89 (fX _) (hl)<|Ca rfl (LD)<|Bnr (v:=U8 ((cH (J1.PX p.P)).getD 0 0|||128#8)) rfl rfl (fun _=>gL _ _ 128#8)<|fS 0 rfl rfl underlying29 sizeOf5 dc dc rfl rfl<|bB 6 U8 hGF rfl rfl rfl sizeOf5 rfl sm rfl<|aa<|Xp<|La 6 rfl rfl EI<|ao 2 hGF rfl rfl rfl sizeOf29 sm sm (bi _) rfl<|aa<|am<|?_
 refine Rr ?_
 exact ay 2 rfl rfl rfl isAgg29 sizeOf29 sm (fun w hw=>⟨rfl,ac hw⟩)
theorem PH(p:J2.GP)(h:p.P=none):PUR 45 [J2.PtV p] (.agg ((OR0 (cH 0++cH 0) 192#8).map U8).toArray):=by
 intro w hw
 refine Hf func45 rfl hw<|fun hGF=>Xp<|Bx 1 hGF rfl<|fun b1=>Al 2 hGF zv32<|fun b2=>aa<|Xp<|La 1 rfl rfl bG<|Ca rfl (J2.GY p h)<|Mv rfl<|Ext rfl rfl<|Ext rfl rfl<|Ext rfl rfl<|Al 3 hGF zv92<|fun b3=>Al 4 hGF zv92<|fun b4=>Sa 3 hGF rfl rfl rfl aH<|Sa 4 hGF rfl rfl rfl aH<|Asg rfl<|aa<|eT (E:=EE [2999999]) [0,1,2,3,4,5] [⟨6,6,29,(List.replicate 48 (0#8)).map U8⟩,⟨7,7,29,(List.replicate 48 (0#8)).map U8⟩] [8,9] dC rfl kr kr kr kr kr kr dc (by intro x hx;simp only[List.mem_cons,List.not_mem_nil,or_false]at hx;rcases hx with rfl|rfl<;>exact bS rfl zv29 rfl)<|Fa 6 rfl underlying92 rfl sizeOf52<|av 3 _ rfl rfl isAgg52 sizeOf52 sm (iF sm) rfl rfl<|Ca rfl (dw _)<|Fa 0 rfl underlying92 rfl sizeOf52<|av 3 _ rfl rfl isAgg52 sizeOf52 sm dR rfl rfl<|Ca rfl (dw _)<|aa<|?_
 refine ⟨_,_,rfl,hGF,by intro x hx;simp only[List.mem_cons,List.not_mem_nil,or_false]at hx;rcases hx with rfl|rfl<;>rfl,by intro x hx;simp only[List.mem_cons,List.not_mem_nil,or_false]at hx;rcases hx with rfl|rfl<;>rfl,fun adr=> ?_⟩
 refine ao 6 hGF rfl rfl rfl sizeOf29 sm sm (bi _) rfl<|ao 7 hGF rfl rfl rfl sizeOf29 sm sm (bi _) rfl<|aa<|Xp<|Al 8 hGF zv32<|fun b8=>aa<|Xd []<|gF (l:=0) (h':=48) (m:=48) rfl underlying32 sizeOf5 rfl rfl rfl dc dc rfl rfl<|cf (l:=0) (h':=48) rfl underlying29 sizeOf5 rfl rfl dc dc rfl rfl<|fD 8 (o:=0) (cs:=cH 0) hGF rfl rfl rfl underlying22 sz5 sm (fun w' h=>BytesAt.range (aO (n:=6) rfl w' h)) sm rfl rfl<|?_
 rw[wh]
 refine aa<|Xd []<|gF (l:=48) (h':=96) (m:=96) rfl underlying32 sizeOf5 rfl rfl rfl dc dc rfl rfl<|cf (l:=0) (h':=48) rfl underlying29 sizeOf5 rfl rfl dc dc rfl rfl<|fD 8 (o:=48) (cs:=cH 0) hGF rfl rfl rfl underlying22 sz5 sm (fun w' h=>BytesAt.range (aO (n:=7) rfl w' h)) sm rfl rfl<|?_
 rw[v7]
 refine aa<|Xd []<|fS 0 rfl rfl underlying32 sizeOf5 dc dc rfl rfl<|Lm 8 U8 0 rfl rfl isAgg5 sm<|Mv rfl<|La 4 rfl rfl aH<|Ca rfl (ou _)<|Ca rfl (Lj _)<|Bnr (v:=U8 ((cH 0++cH 0).getD 0 0|||192#8)) rfl rfl (fun _=>gL _ _ 192#8)<|fS 0 rfl rfl underlying32 sizeOf5 dc dc rfl rfl<|bB 8 U8 hGF rfl rfl rfl sizeOf5 rfl sm rfl<|aa<|Xp<|La 8 rfl rfl Nd<|ao 2 hGF rfl rfl rfl sizeOf32 sm sm (bi _) rfl<|aa<|am<|Rr<|?_
 exact ay 2 rfl rfl rfl isAgg32 sizeOf32 sm (fun w hw=>⟨rfl,ac hw⟩)
theorem NP(p:J2.GP)(h: ¬p.P=none)(hl:LG2 (J2.PY p.P)=true):PUR 45 [J2.PtV p] (.agg ((OR0 (cH (J2.PX p.P).2++cH (J2.PX p.P).1) 160#8).map U8).toArray):=by
 intro w hw
 refine Hf func45 rfl hw<|fun hGF=>Xp<|Bx 1 hGF rfl<|fun b1=>Al 2 hGF zv32<|fun b2=>aa<|Xp<|La 1 rfl rfl bG<|Ca rfl (J2.ut p h)<|Mv rfl<|Ext rfl rfl<|Ext rfl rfl<|Ext rfl rfl<|Al 3 hGF zv92<|fun b3=>Al 4 hGF zv92<|fun b4=>Sa 3 hGF rfl rfl rfl aH<|Sa 4 hGF rfl rfl rfl aH<|Asg rfl<|aa<|eT (E:=EE [2999999]) [0,1,2,3,4,5] [⟨6,6,29,(List.replicate 48 (0#8)).map U8⟩,⟨7,7,29,(List.replicate 48 (0#8)).map U8⟩] [8,9] dC rfl kr kr kr kr kr kr dc (by intro x hx;simp only[List.mem_cons,List.not_mem_nil,or_false]at hx;rcases hx with rfl|rfl<;>exact bS rfl zv29 rfl)<|Fa 6 rfl underlying92 rfl sizeOf52<|av 3 _ rfl rfl isAgg52 sizeOf52 sm (iF sm) rfl rfl<|Ca rfl (dw _)<|Fa 0 rfl underlying92 rfl sizeOf52<|av 3 _ rfl rfl isAgg52 sizeOf52 sm dR rfl rfl<|Ca rfl (dw _)<|aa<|?_
 refine ⟨_,_,rfl,hGF,by intro x hx;simp only[List.mem_cons,List.not_mem_nil,or_false]at hx;rcases hx with rfl|rfl<;>rfl,by intro x hx;simp only[List.mem_cons,List.not_mem_nil,or_false]at hx;rcases hx with rfl|rfl<;>rfl,fun adr=> ?_⟩
 refine ao 6 hGF rfl rfl rfl sizeOf29 sm sm (bi _) rfl<|ao 7 hGF rfl rfl rfl sizeOf29 sm sm (bi _) rfl<|aa<|Xp<|Al 8 hGF zv32<|fun b8=>aa<|Xd []<|gF (l:=0) (h':=48) (m:=48) rfl underlying32 sizeOf5 rfl rfl rfl dc dc rfl rfl<|cf (l:=0) (h':=48) rfl underlying29 sizeOf5 rfl rfl dc dc rfl rfl<|fD 8 (o:=0) (cs:=cH (J2.PX p.P).2) hGF rfl rfl rfl underlying22 sz5 sm (fun w' h=>BytesAt.range (aO (n:=6) rfl w' h)) sm rfl rfl<|?_
 rw[wh]
 refine aa<|Xd []<|gF (l:=48) (h':=96) (m:=96) rfl underlying32 sizeOf5 rfl rfl rfl dc dc rfl rfl<|cf (l:=0) (h':=48) rfl underlying29 sizeOf5 rfl rfl dc dc rfl rfl<|fD 8 (o:=48) (cs:=cH (J2.PX p.P).1) hGF rfl rfl rfl underlying22 sz5 sm (fun w' h=>BytesAt.range (aO (n:=7) rfl w' h)) sm rfl rfl<|?_
 rw[v7]
 refine aa<|Xd []<|fS 0 rfl rfl underlying32 sizeOf5 dc dc rfl rfl<|Lm 8 U8 0 rfl rfl isAgg5 sm<|Mv rfl<|La 4 rfl rfl aH<|Cbl true rfl ent97 (ou _) (hl)<|Ca rfl (Lr)<|Bnr (v:=U8 ((cH (J2.PX p.P).2++cH (J2.PX p.P).1).getD 0 0|||160#8)) rfl rfl (fun _=>gL _ _ 160#8)<|fS 0 rfl rfl underlying32 sizeOf5 dc dc rfl rfl<|bB 8 U8 hGF rfl rfl rfl sizeOf5 rfl sm rfl<|aa<|Xp<|La 8 rfl rfl Nd<|ao 2 hGF rfl rfl rfl sizeOf32 sm sm (bi _) rfl<|aa<|am<|Rr<|?_
 exact ay 2 rfl rfl rfl isAgg32 sizeOf32 sm (fun w hw=>⟨rfl,ac hw⟩)
theorem O7(p:J2.GP)(h: ¬p.P=none)(hl:LG2 (J2.PY p.P)=false):PUR 45 [J2.PtV p] (.agg ((OR0 (cH (J2.PX p.P).2++cH (J2.PX p.P).1) 128#8).map U8).toArray):=by
 intro w hw
 refine Hf func45 rfl hw<|fun hGF=>Xp<|Bx 1 hGF rfl<|fun b1=>Al 2 hGF zv32<|fun b2=>aa<|Xp<|La 1 rfl rfl bG<|Ca rfl (J2.ut p h)<|Mv rfl<|Ext rfl rfl<|Ext rfl rfl<|Ext rfl rfl<|Al 3 hGF zv92<|fun b3=>Al 4 hGF zv92<|fun b4=>Sa 3 hGF rfl rfl rfl aH<|Sa 4 hGF rfl rfl rfl aH<|Asg rfl<|aa<|eT (E:=EE [2999999]) [0,1,2,3,4,5] [⟨6,6,29,(List.replicate 48 (0#8)).map U8⟩,⟨7,7,29,(List.replicate 48 (0#8)).map U8⟩] [8,9] dC rfl kr kr kr kr kr kr dc (by intro x hx;simp only[List.mem_cons,List.not_mem_nil,or_false]at hx;rcases hx with rfl|rfl<;>exact bS rfl zv29 rfl)<|Fa 6 rfl underlying92 rfl sizeOf52<|av 3 _ rfl rfl isAgg52 sizeOf52 sm (iF sm) rfl rfl<|Ca rfl (dw _)<|Fa 0 rfl underlying92 rfl sizeOf52<|av 3 _ rfl rfl isAgg52 sizeOf52 sm dR rfl rfl<|Ca rfl (dw _)<|aa<|?_
 refine ⟨_,_,rfl,hGF,by intro x hx;simp only[List.mem_cons,List.not_mem_nil,or_false]at hx;rcases hx with rfl|rfl<;>rfl,by intro x hx;simp only[List.mem_cons,List.not_mem_nil,or_false]at hx;rcases hx with rfl|rfl<;>rfl,fun adr=> ?_⟩
 refine ao 6 hGF rfl rfl rfl sizeOf29 sm sm (bi _) rfl<|ao 7 hGF rfl rfl rfl sizeOf29 sm sm (bi _) rfl<|aa<|Xp<|Al 8 hGF zv32<|fun b8=>aa<|Xd []<|gF (l:=0) (h':=48) (m:=48) rfl underlying32 sizeOf5 rfl rfl rfl dc dc rfl rfl<|cf (l:=0) (h':=48) rfl underlying29 sizeOf5 rfl rfl dc dc rfl rfl<|fD 8 (o:=0) (cs:=cH (J2.PX p.P).2) hGF rfl rfl rfl underlying22 sz5 sm (fun w' h=>BytesAt.range (aO (n:=6) rfl w' h)) sm rfl rfl<|?_
 rw[wh]
 refine aa<|Xd []<|gF (l:=48) (h':=96) (m:=96) rfl underlying32 sizeOf5 rfl rfl rfl dc dc rfl rfl<|cf (l:=0) (h':=48) rfl underlying29 sizeOf5 rfl rfl dc dc rfl rfl<|fD 8 (o:=48) (cs:=cH (J2.PX p.P).1) hGF rfl rfl rfl underlying22 sz5 sm (fun w' h=>BytesAt.range (aO (n:=7) rfl w' h)) sm rfl rfl<|?_
 rw[v7]
 refine aa<|Xd []<|fS 0 rfl rfl underlying32 sizeOf5 dc dc rfl rfl<|Lm 8 U8 0 rfl rfl isAgg5 sm<|Mv rfl<|La 4 rfl rfl aH<|Cbl false rfl ent97 (ou _) (hl)<|Ca rfl (LD)<|Bnr (v:=U8 ((cH (J2.PX p.P).2++cH (J2.PX p.P).1).getD 0 0|||128#8)) rfl rfl (fun _=>gL _ _ 128#8)<|fS 0 rfl rfl underlying32 sizeOf5 dc dc rfl rfl<|bB 8 U8 hGF rfl rfl rfl sizeOf5 rfl sm rfl<|aa<|Xp<|La 8 rfl rfl Nd<|ao 2 hGF rfl rfl rfl sizeOf32 sm sm (bi _) rfl<|aa<|am<|Rr<|?_
 exact ay 2 rfl rfl rfl isAgg32 sizeOf32 sm (fun w hw=>⟨rfl,ac hw⟩)
theorem Ur:OR0 (cH 0) 192#8=EN1 none:=by rw[FA];rfl
theorem TK:OR0 (cH 0++cH 0) 192#8=EN2 none:=by rw[FA];rfl
theorem Gh(p:J1.GP):PUR 41 [J1.PtV p] (.agg ((EN1 p.P).map U8).toArray):=by
 by_cases h:p.P=none
 ·have k:=QF p h
  rw[Ur]at k
  rw[h];exact k
 ·obtain ⟨v,hv⟩: ∃v,p.P=some v:=by
   cases e:p.P with
   |none=>exact absurd e h
   |some v=>exact ⟨v,rfl⟩
  have ex:J1.PX p.P=v.1:=by rw[hv];rfl
  have ey:J1.PY p.P=v.2:=by rw[hv];rfl
  have e1:EN1 p.P=ENF (cH v.1) (LG2 (v.2,0)):=by rw[hv];rfl
  have lg:decide (hf<v.2.val)=LG2 (v.2,0):=KG (x:=(v.2,0)) rfl
  cases hl:LG2 (v.2,0)with
  |true=>
   have k:=QG p h (by rw[ey,lg,hl])
   rw[ex,yD]at k
   rw[e1,hl];exact k
  |false=>
   have k:=Oe p h (by rw[ey,lg,hl])
   rw[ex]at k
   rw[e1,hl];exact k
theorem Cu(p:J2.GP):PUR 45 [J2.PtV p] (.agg ((EN2 p.P).map U8).toArray):=by
 by_cases h:p.P=none
 ·have k:=PH p h
  rw[TK]at k
  rw[h];exact k
 ·obtain ⟨v,hv⟩: ∃v,p.P=some v:=by
   cases e:p.P with
   |none=>exact absurd e h
   |some v=>exact ⟨v,rfl⟩
  have ex:J2.PX p.P=v.1:=by rw[hv];rfl
  have ey:J2.PY p.P=v.2:=by rw[hv];rfl
  have e1:EN2 p.P=ENF (cH v.1.2++cH v.1.1) (LG2 v.2):=by rw[hv];rfl
  cases hl:LG2 v.2 with
  |true=>
   have k:=NP p h (by rw[ey,hl])
   rw[ex,yD]at k
   rw[e1,hl];exact k
  |false=>
   have k:=O7 p h (by rw[ey,hl])
   rw[ex]at k
   rw[e1,hl];exact k
end
section
open Go.RowKit
attribute [local simp] aW bd aU aP aD bf aL aK aB PLl cm cq N1l cr cp cu a8 bg aQ a6 bc J1.bj J2.bj bL eX
theorem qT{bs:L8}{c:Int}{P:Pt Zp}(h:D1 bs c P):E1.onP P:=by
 rcases h with ⟨_,_,rfl⟩|⟨_,⟨_,_,rfl⟩|⟨_,⟨_,_,rfl⟩|⟨_,⟨_,_,rfl⟩|⟨_,⟨_,_,rfl⟩|⟨q,h⟩⟩⟩⟩⟩
 ·exact True.intro
 ·exact True.intro
 ·exact True.intro
 ·exact True.intro
 ·exact True.intro
 ·rcases h with ⟨_,_,rfl⟩|⟨_,⟨_,_,rfl⟩|⟨_,_,rfl⟩⟩
  ·exact True.intro
  ·exact True.intro
  ·exact J1.KY q _
theorem iH{bs:L8}{c:Int}{P:Pt W2}(h:D2 bs c P):E2w.onP P:=by
 rcases h with ⟨_,_,rfl⟩|⟨_,⟨_,_,rfl⟩|⟨_,⟨_,_,rfl⟩|⟨_,⟨_,_,rfl⟩|⟨_,⟨_,_,rfl⟩|⟨r,hr,_,h⟩⟩⟩⟩⟩
 ·exact True.intro
 ·exact True.intro
 ·exact True.intro
 ·exact True.intro
 ·exact True.intro
 ·rcases h with ⟨_,_,rfl⟩|⟨_,⟨_,_,rfl⟩|⟨_,_,rfl⟩⟩
  ·exact True.intro
  ·exact True.intro
  ·exact J2.fF (J2.mu.2 (J2.Dp hr _))
def cA1(P:Pt Zp)(on:E1.onP P):J1.GP:=⟨match P with|none=>(0,0,0)|some p=>(p.1,p.2,1),P,on,by
 cases P with
 |none=>rfl
 |some p=>exact E1.jr_at p kK⟩
def cA2(P:Pt W2)(on:E2w.onP P):J2.GP:=⟨match P with|none=>(ze2,ze2,ze2)|some p=>(p.1,p.2,on2),P,on,by
 cases P with
 |none=>rfl
 |some p=>exact mV p⟩
theorem qv(a:Option Addr)(len k:Nat)(xs:L8)(h48:xs.length=48)(hn:len=48)(hl:BN xs 48<PP)(x:Zp)(hx:zp (BN xs 48)=x)(w:World)(hw:Gt w)(hby:BytesAt w a xs):CLS 90 [.slice a len k].toArray w (fun r w'=>r=.returned (.tuple #[EV x,.bool true])∧Grow w w'):=by
 have h:=dM a k xs w hw hby
 rw[h48,show FV xs=x from (if_pos ⟨h48,hl⟩).trans hx,show FO xs=true from decide_eq_true ⟨h48,hl⟩]at h
 subst hn
 exact h
theorem qA(a:Option Addr)(len k:Nat)(xs:L8)(h48:xs.length=48)(hn:len=48)(hl: ¬BN xs 48<PP)(w:World)(hw:Gt w)(hby:BytesAt w a xs):CLS 90 [.slice a len k].toArray w (fun r w'=>r=.returned (.tuple #[EV 0,.bool false])∧Grow w w'):=by
 have h:=dM a k xs w hw hby
 rw[h48,show FV xs=0 from if_neg (fun e=>hl e.2),show FO xs=false from decide_eq_false (fun e=>hl e.2)]at h
 subst hn
 exact h
theorem pf(e:Option Addr)(cap:Nat)(bs:L8)(c:Int)(hR: ∀w',Gt w'→BytesAt w' e bs→CLS 108 [.slice e bs.length cap,I 48].toArray w' (fun r w''=>r=.returned (.tuple #[U8 0#8,I c])∧Grow w' w''))(hc0:c≠0)(w:World)(hw:Gt w)(hby:BytesAt w e bs):
 CLS 55 [.slice e bs.length cap].toArray w (fun r w'=>r=.returned (.tuple #[J1.PtV J1.cI,I c])∧Grow w w'):=by
 refine Hf func55 rfl hw<|fun hGF=>ae (E:=EE [109,2000109])<|Al 2 hGF J1.zv54<|fun b2=>Asg rfl<|aa<|ae (E:=EE [109,2000109])<|Mv rfl<|Cc rfl ent108 (fun w' hC hG=>hR w' hG (hby.grow (ac hC)))<|Mv rfl<|Ext rfl rfl<|Ext rfl rfl<|Asg rfl<|Asg rfl<|aa<|ah<|ae (E:=EE [109,2000109])<|Mv rfl<|Bnb true rfl rfl (fun _=>aX _ _ _) (bne_iff_ne.2 hc0)<|Mv rfl<|Sk<|Sk<|Sk<|Pk rfl rfl rfl<|aa<|aV rfl<|ae (E:=EE [109,2000109])<|Ca rfl (J1.kS)<|Mv rfl<|Sa 2 hGF rfl rfl rfl bT<|Asg rfl<|aa<|am<|Rr<|?_
 exact aZ 2 rfl rfl rfl rfl isAgg54 sizeOf54 sm (fun w hw=>⟨rfl,ac hw⟩)
theorem FI(e:Option Addr)(cap:Nat)(bs:L8)(f:BitVec 8)(hR: ∀w',Gt w'→BytesAt w' e bs→CLS 108 [.slice e bs.length cap,I 48].toArray w' (fun r w''=>r=.returned (.tuple #[U8 f,I 0])∧Grow w' w''))(h6: ¬f &&& 64#8=0#8)(w:World)(hw:Gt w)(hby:BytesAt w e bs):
 CLS 55 [.slice e bs.length cap].toArray w (fun r w'=>r=.returned (.tuple #[J1.PtV J1.cI,I 0])∧Grow w w'):=by
 refine Hf func55 rfl hw<|fun hGF=>ae (E:=EE [109,2000109])<|Al 2 hGF J1.zv54<|fun b2=>Asg rfl<|aa<|ae (E:=EE [109,2000109])<|Mv rfl<|Cc rfl ent108 (fun w' hC hG=>hR w' hG (hby.grow (ac hC)))<|Mv rfl<|Ext rfl rfl<|Ext rfl rfl<|Asg rfl<|Asg rfl<|aa<|ah<|ae (E:=EE [109,2000109])<|Mv rfl<|Bnb false rfl rfl (fun _=>aX _ _ _) (bne_eq_false_iff_eq.2 rfl)<|Mv rfl<|Mv rfl<|Bnr (v:=U8 (f &&& 64#8)) rfl rfl (fun _=>bp _ _ 64#8)<|Bnb true rfl rfl (fun _=>bE _ _ 0#8) (bne_iff_ne.2 h6)<|Pk rfl rfl rfl<|aa<|aV rfl<|ae (E:=EE [109,2000109])<|Ca rfl (J1.kS)<|Mv rfl<|Sa 2 hGF rfl rfl rfl bT<|Asg rfl<|aa<|am<|Rr<|?_
 exact aZ 2 rfl rfl rfl rfl isAgg54 sizeOf54 sm (fun w hw=>⟨rfl,ac hw⟩)
theorem H5(e:Option Addr)(cap:Nat)(bs:L8)(f:BitVec 8)(hcap:bs.length≤cap)(hR: ∀w',Gt w'→BytesAt w' e bs→CLS 108 [.slice e bs.length cap,I 48].toArray w' (fun r w''=>r=.returned (.tuple #[U8 f,I 0])∧Grow w' w''))(h48:bs.length=48)(h6:f &&& 64#8=0#8)(hp: ¬BN (LO bs 0) 48<PP)(w:World)(hw:Gt w)(hby:BytesAt w e bs):
 CLS 55 [.slice e bs.length cap].toArray w (fun r w'=>r=.returned (.tuple #[J1.PtV J1.cI,I 102])∧Grow w w'):=by
 refine Hf func55 rfl hw<|fun hGF=>ae (E:=EE [109,2000109])<|Al 2 hGF J1.zv54<|fun b2=>Asg rfl<|aa<|ae (E:=EE [109,2000109])<|Mv rfl<|Cc rfl ent108 (fun w' hC hG=>hR w' hG (hby.grow (ac hC)))<|Mv rfl<|Ext rfl rfl<|Ext rfl rfl<|Asg rfl<|Asg rfl<|aa<|ah<|ae (E:=EE [109,2000109])<|Mv rfl<|Bnb false rfl rfl (fun _=>aX _ _ _) (bne_eq_false_iff_eq.2 rfl)<|Mv rfl<|Mv rfl<|Bnr (v:=U8 (f &&& 64#8)) rfl rfl (fun _=>bp _ _ 64#8)<|Bnb false rfl rfl (fun _=>bE _ _ 0#8) (bne_eq_false_iff_eq.2 h6)<|Pk rfl rfl rfl<|aa<|aq rfl<|ap<|ae (E:=EE [109,2000109])<|Mv rfl<|?_
 refine bI rfl rfl ent109 rfl rfl (fun w' hw'=>(kg e cap bs om om hcap w' (hGF.g _ _ _ hw') (hby.grow (ac hw'))).mono fun e' w'' h=> ?_)
 obtain ⟨b7,c7,k7,rfl,hg,hb7,hob,q3,q2⟩:=h
 refine ⟨_,_,rfl,au hGF,hw'.news ak hg [(33,b7,c7,5)] ?_ bN,bJ ak rfl, ?_⟩
 ·intro n' b' c' t' hl
  rcases aC hl with ⟨_,e⟩|⟨_,hl⟩
  ·cases e;exact ⟨hb7,hob⟩
  ·cases hl
 clear hw' hg hb7 hob
 refine Cc rfl ent90 (fun w' hC hG=>qA _ _ _ (MK bs) (by rw[bL];exact h48) h48 (Jw h48▸hp) w' hG (cz (aO (n:=33) rfl w' hC) (by rw[bL];exact q3)))<|Mv rfl<|Ext rfl rfl<|Ext rfl rfl<|Al 6 hGF zv52<|fun b6=>Sa 6 hGF rfl rfl rfl bv<|Asg rfl<|aa<|ah<|ae (E:=EE [109,2000109])<|Mv rfl<|aY rfl (fun _=>aJ _) rfl rfl<|aa<|aV rfl<|ae (E:=EE [109,2000109])<|Ca rfl (J1.kS)<|Sa 2 hGF rfl rfl rfl bT<|Asg rfl<|aa<|am<|Rr<|?_
 exact aZ 2 rfl rfl rfl rfl isAgg54 sizeOf54 sm (fun w hw=>⟨rfl,ac hw⟩)
theorem zu(e:Option Addr)(cap:Nat)(bs:L8)(f:BitVec 8)(hcap:bs.length≤cap)(hR: ∀w',Gt w'→BytesAt w' e bs→CLS 108 [.slice e bs.length cap,I 48].toArray w' (fun r w''=>r=.returned (.tuple #[U8 f,I 0])∧Grow w' w''))(h48:bs.length=48)(h6:f &&& 64#8=0#8)(hp:BN (LO bs 0) 48<PP)(x:Zp)(hx:zp (BN (LO bs 0) 48)=x)(l:Bool)(hl:(f &&& 32#8 !=0#8)=l)(p:J1.GP)(k:Bool)(hL:PUR 110 [EV x,.bool l] (.tuple #[J1.PtV p,.bool k]))(t:J1.GP)(c:Int)(hS:PUR 111 [J1.PtV p,.bool k,U8 f] (.tuple #[J1.PtV t,I c]))(w:World)(hw:Gt w)(hby:BytesAt w e bs):
 CLS 55 [.slice e bs.length cap].toArray w (fun r w'=>r=.returned (.tuple #[J1.PtV t,I c])∧Grow w w'):=by
 refine Hf func55 rfl hw<|fun hGF=>ae (E:=EE [109,2000109])<|Al 2 hGF J1.zv54<|fun b2=>Asg rfl<|aa<|ae (E:=EE [109,2000109])<|Mv rfl<|Cc rfl ent108 (fun w' hC hG=>hR w' hG (hby.grow (ac hC)))<|Mv rfl<|Ext rfl rfl<|Ext rfl rfl<|Asg rfl<|Asg rfl<|aa<|ah<|ae (E:=EE [109,2000109])<|Mv rfl<|Bnb false rfl rfl (fun _=>aX _ _ _) (bne_eq_false_iff_eq.2 rfl)<|Mv rfl<|Mv rfl<|Bnr (v:=U8 (f &&& 64#8)) rfl rfl (fun _=>bp _ _ 64#8)<|Bnb false rfl rfl (fun _=>bE _ _ 0#8) (bne_eq_false_iff_eq.2 h6)<|Pk rfl rfl rfl<|aa<|aq rfl<|ap<|ae (E:=EE [109,2000109])<|Mv rfl<|?_
 refine bI rfl rfl ent109 rfl rfl (fun w' hw'=>(kg e cap bs om om hcap w' (hGF.g _ _ _ hw') (hby.grow (ac hw'))).mono fun e' w'' h=> ?_)
 obtain ⟨b7,c7,k7,rfl,hg,hb7,hob,q3,q2⟩:=h
 refine ⟨_,_,rfl,au hGF,hw'.news ak hg [(33,b7,c7,5)] ?_ bN,bJ ak rfl, ?_⟩
 ·intro n' b' c' t' hl
  rcases aC hl with ⟨_,e⟩|⟨_,hl⟩
  ·cases e;exact ⟨hb7,hob⟩
  ·cases hl
 clear hw' hg hb7 hob
 refine Cc rfl ent90 (fun w' hC hG=>qv _ _ _ (MK bs) (by rw[bL];exact h48) h48 (Jw h48▸hp) x (by rw[←Jw h48];exact hx) w' hG (cz (aO (n:=33) rfl w' hC) (by rw[bL];exact q3)))<|Mv rfl<|Ext rfl rfl<|Ext rfl rfl<|Al 6 hGF zv52<|fun b6=>Sa 6 hGF rfl rfl rfl bv<|Asg rfl<|aa<|ah<|ae (E:=EE [109,2000109])<|Mv rfl<|aY rfl (fun _=>aJ _) rfl rfl<|aa<|aq rfl<|ap<|ae (E:=EE [109,2000109])<|La 6 rfl rfl bv<|Mv rfl<|Bnr (v:=U8 (f &&& 32#8)) rfl rfl (fun _=>bp _ _ 32#8)<|Bnr (v:=.bool l) rfl rfl (fun _=>(bE _ _ 0#8).trans (by rw[hl]))<|Ca rfl (hL)<|Mv rfl<|Ext rfl rfl<|Ext rfl rfl<|Al 8 hGF J1.zv54<|fun b8=>Sa 8 hGF rfl rfl rfl bT<|Asg rfl<|aa<|ae (E:=EE [109,2000109])<|La 8 rfl rfl bT<|Mv rfl<|Mv rfl<|Ca rfl (hS)<|Ext rfl rfl<|Ext rfl rfl<|Sa 2 hGF rfl rfl rfl bT<|Asg rfl<|aa<|am<|Rr<|?_
 exact aZ 2 rfl rfl rfl rfl isAgg54 sizeOf54 sm (fun w hw=>⟨rfl,ac hw⟩)
theorem oO(e:Option Addr)(cap:Nat)(bs:L8)(c:Int)(hR: ∀w',Gt w'→BytesAt w' e bs→CLS 108 [.slice e bs.length cap,I 96].toArray w' (fun r w''=>r=.returned (.tuple #[U8 0#8,I c])∧Grow w' w''))(hc0:c≠0)(w:World)(hw:Gt w)(hby:BytesAt w e bs):
 CLS 128 [.slice e bs.length cap].toArray w (fun r w'=>r=.returned (.tuple #[J2.PtV J2.cI,I c])∧Grow w w'):=by
 refine Hf func128 rfl hw<|fun hGF=>ae (E:=EE [109,2000109])<|Al 2 hGF J2.zv94<|fun b2=>Asg rfl<|aa<|ae (E:=EE [109,2000109])<|Mv rfl<|Cc rfl ent108 (fun w' hC hG=>hR w' hG (hby.grow (ac hC)))<|Mv rfl<|Ext rfl rfl<|Ext rfl rfl<|Asg rfl<|Asg rfl<|aa<|ah<|ae (E:=EE [109,2000109])<|Mv rfl<|Bnb true rfl rfl (fun _=>aX _ _ _) (bne_iff_ne.2 hc0)<|Mv rfl<|Sk<|Sk<|Sk<|Pk rfl rfl rfl<|aa<|aV rfl<|ae (E:=EE [109,2000109])<|Ca rfl (J2.kS)<|Mv rfl<|Sa 2 hGF rfl rfl rfl bG<|Asg rfl<|aa<|am<|Rr<|?_
 exact aZ 2 rfl rfl rfl rfl isAgg94 sizeOf94 sm (fun w hw=>⟨rfl,ac hw⟩)
theorem Ck(e:Option Addr)(cap:Nat)(bs:L8)(f:BitVec 8)(hR: ∀w',Gt w'→BytesAt w' e bs→CLS 108 [.slice e bs.length cap,I 96].toArray w' (fun r w''=>r=.returned (.tuple #[U8 f,I 0])∧Grow w' w''))(h6: ¬f &&& 64#8=0#8)(w:World)(hw:Gt w)(hby:BytesAt w e bs):
 CLS 128 [.slice e bs.length cap].toArray w (fun r w'=>r=.returned (.tuple #[J2.PtV J2.cI,I 0])∧Grow w w'):=by
 refine Hf func128 rfl hw<|fun hGF=>ae (E:=EE [109,2000109])<|Al 2 hGF J2.zv94<|fun b2=>Asg rfl<|aa<|ae (E:=EE [109,2000109])<|Mv rfl<|Cc rfl ent108 (fun w' hC hG=>hR w' hG (hby.grow (ac hC)))<|Mv rfl<|Ext rfl rfl<|Ext rfl rfl<|Asg rfl<|Asg rfl<|aa<|ah<|ae (E:=EE [109,2000109])<|Mv rfl<|Bnb false rfl rfl (fun _=>aX _ _ _) (bne_eq_false_iff_eq.2 rfl)<|Mv rfl<|Mv rfl<|Bnr (v:=U8 (f &&& 64#8)) rfl rfl (fun _=>bp _ _ 64#8)<|Bnb true rfl rfl (fun _=>bE _ _ 0#8) (bne_iff_ne.2 h6)<|Pk rfl rfl rfl<|aa<|aV rfl<|ae (E:=EE [109,2000109])<|Ca rfl (J2.kS)<|Mv rfl<|Sa 2 hGF rfl rfl rfl bG<|Asg rfl<|aa<|am<|Rr<|?_
 exact aZ 2 rfl rfl rfl rfl isAgg94 sizeOf94 sm (fun w hw=>⟨rfl,ac hw⟩)
theorem JH(e:Option Addr)(cap:Nat)(bs:L8)(f:BitVec 8)(hcap:bs.length≤cap)(hR: ∀w',Gt w'→BytesAt w' e bs→CLS 108 [.slice e bs.length cap,I 96].toArray w' (fun r w''=>r=.returned (.tuple #[U8 f,I 0])∧Grow w' w''))(h48:bs.length=96)(h6:f &&& 64#8=0#8)(hp2: ¬BN (LO bs 0) 48<PP)(hp:BN (LO bs 48) 48<PP)(x0:Zp)(hx0:zp (BN (LO bs 48) 48)=x0) (w:World)(hw:Gt w)(hby:BytesAt w e bs):
 CLS 128 [.slice e bs.length cap].toArray w (fun r w'=>r=.returned (.tuple #[J2.PtV J2.cI,I 102])∧Grow w w'):=by
 refine Hf func128 rfl hw<|fun hGF=>ae (E:=EE [109,2000109])<|Al 2 hGF J2.zv94<|fun b2=>Asg rfl<|aa<|ae (E:=EE [109,2000109])<|Mv rfl<|Cc rfl ent108 (fun w' hC hG=>hR w' hG (hby.grow (ac hC)))<|Mv rfl<|Ext rfl rfl<|Ext rfl rfl<|Asg rfl<|Asg rfl<|aa<|ah<|ae (E:=EE [109,2000109])<|Mv rfl<|Bnb false rfl rfl (fun _=>aX _ _ _) (bne_eq_false_iff_eq.2 rfl)<|Mv rfl<|Mv rfl<|Bnr (v:=U8 (f &&& 64#8)) rfl rfl (fun _=>bp _ _ 64#8)<|Bnb false rfl rfl (fun _=>bE _ _ 0#8) (bne_eq_false_iff_eq.2 h6)<|Pk rfl rfl rfl<|aa<|aq rfl<|ap<|ae (E:=EE [109,2000109])<|Mv rfl<|?_
 refine bI rfl rfl ent109 rfl rfl (fun w' hw'=>(kg e cap bs om om hcap w' (hGF.g _ _ _ hw') (hby.grow (ac hw'))).mono fun e' w'' h=> ?_)
 obtain ⟨b7,c7,k7,rfl,hg,hb7,hob,q3,q2⟩:=h
 refine ⟨_,_,rfl,au hGF,hw'.news ak hg [(33,b7,c7,5)] ?_ bN,bJ ak rfl, ?_⟩
 ·intro n' b' c' t' hl
  rcases aC hl with ⟨_,e⟩|⟨_,hl⟩
  ·cases e;exact ⟨hb7,hob⟩
  ·cases hl
 clear hw' hg hb7 hob
 refine Asg rfl<|aa<|ae (E:=EE [109,2000109])<|Mv rfl<|dQ (l:=0) (h':=48) (m:=48) rfl underlying22 sizeOf5 rfl rfl rfl ⟨dc,Nat.le_refl _,om⟩ rfl rfl<|Cc rfl ent90 (fun w' hC hG=>qA _ _ _ (LO bs 0) (kh om) rfl hp2 w' hG (BytesAt.cut3 (cz (aO (n:=33) rfl w' hC) (by rw[bL];exact q3)) 0 48 48 dc))<|Mv rfl<|Ext rfl rfl<|Ext rfl rfl<|Al 7 hGF zv52<|fun b7=>Sa 7 hGF rfl rfl rfl bv<|Asg rfl<|aa<|ae (E:=EE [109,2000109])<|Mv rfl<|dQ (l:=48) (h':=96) (m:=96) rfl underlying22 sizeOf5 rfl rfl rfl ⟨dc,Nat.le_refl _,om⟩ rfl rfl<|Cc rfl ent90 (fun w' hC hG=>qv _ _ _ (LO bs 48) (kh om) rfl hp x0 hx0 w' hG (BytesAt.cut3 (cz (aO (n:=33) rfl w' hC) (by rw[bL];exact q3)) 48 48 96 dc))<|Mv rfl<|Ext rfl rfl<|Ext rfl rfl<|Al 9 hGF zv52<|fun b9=>Sa 9 hGF rfl rfl rfl bv<|Asg rfl<|aa<|ah<|ae (E:=EE [109,2000109])<|Mv rfl<|aY rfl (fun _=>aJ _) rfl rfl<|Mv rfl<|Sk<|Sk<|Pk rfl rfl rfl<|aa<|aV rfl<|ae (E:=EE [109,2000109])<|Ca rfl (J2.kS)<|Sa 2 hGF rfl rfl rfl bG<|Asg rfl<|aa<|am<|?_
 refine Rr ?_
 exact aZ 2 rfl rfl rfl rfl isAgg94 sizeOf94 sm (fun w hw=>⟨rfl,ac hw⟩)
theorem I8(e:Option Addr)(cap:Nat)(bs:L8)(f:BitVec 8)(hcap:bs.length≤cap)(hR: ∀w',Gt w'→BytesAt w' e bs→CLS 108 [.slice e bs.length cap,I 96].toArray w' (fun r w''=>r=.returned (.tuple #[U8 f,I 0])∧Grow w' w''))(h48:bs.length=96)(h6:f &&& 64#8=0#8)(hp2:BN (LO bs 0) 48<PP)(hp: ¬BN (LO bs 48) 48<PP)(x1:Zp)(hx1:zp (BN (LO bs 0) 48)=x1) (w:World)(hw:Gt w)(hby:BytesAt w e bs):
 CLS 128 [.slice e bs.length cap].toArray w (fun r w'=>r=.returned (.tuple #[J2.PtV J2.cI,I 102])∧Grow w w'):=by
 refine Hf func128 rfl hw<|fun hGF=>ae (E:=EE [109,2000109])<|Al 2 hGF J2.zv94<|fun b2=>Asg rfl<|aa<|ae (E:=EE [109,2000109])<|Mv rfl<|Cc rfl ent108 (fun w' hC hG=>hR w' hG (hby.grow (ac hC)))<|Mv rfl<|Ext rfl rfl<|Ext rfl rfl<|Asg rfl<|Asg rfl<|aa<|ah<|ae (E:=EE [109,2000109])<|Mv rfl<|Bnb false rfl rfl (fun _=>aX _ _ _) (bne_eq_false_iff_eq.2 rfl)<|Mv rfl<|Mv rfl<|Bnr (v:=U8 (f &&& 64#8)) rfl rfl (fun _=>bp _ _ 64#8)<|Bnb false rfl rfl (fun _=>bE _ _ 0#8) (bne_eq_false_iff_eq.2 h6)<|Pk rfl rfl rfl<|aa<|aq rfl<|ap<|ae (E:=EE [109,2000109])<|Mv rfl<|?_
 refine bI rfl rfl ent109 rfl rfl (fun w' hw'=>(kg e cap bs om om hcap w' (hGF.g _ _ _ hw') (hby.grow (ac hw'))).mono fun e' w'' h=> ?_)
 obtain ⟨b7,c7,k7,rfl,hg,hb7,hob,q3,q2⟩:=h
 refine ⟨_,_,rfl,au hGF,hw'.news ak hg [(33,b7,c7,5)] ?_ bN,bJ ak rfl, ?_⟩
 ·intro n' b' c' t' hl
  rcases aC hl with ⟨_,e⟩|⟨_,hl⟩
  ·cases e;exact ⟨hb7,hob⟩
  ·cases hl
 clear hw' hg hb7 hob
 refine Asg rfl<|aa<|ae (E:=EE [109,2000109])<|Mv rfl<|dQ (l:=0) (h':=48) (m:=48) rfl underlying22 sizeOf5 rfl rfl rfl ⟨dc,Nat.le_refl _,om⟩ rfl rfl<|Cc rfl ent90 (fun w' hC hG=>qv _ _ _ (LO bs 0) (kh om) rfl hp2 x1 hx1 w' hG (BytesAt.cut3 (cz (aO (n:=33) rfl w' hC) (by rw[bL];exact q3)) 0 48 48 dc))<|Mv rfl<|Ext rfl rfl<|Ext rfl rfl<|Al 7 hGF zv52<|fun b7=>Sa 7 hGF rfl rfl rfl bv<|Asg rfl<|aa<|ae (E:=EE [109,2000109])<|Mv rfl<|dQ (l:=48) (h':=96) (m:=96) rfl underlying22 sizeOf5 rfl rfl rfl ⟨dc,Nat.le_refl _,om⟩ rfl rfl<|Cc rfl ent90 (fun w' hC hG=>qA _ _ _ (LO bs 48) (kh om) rfl hp w' hG (BytesAt.cut3 (cz (aO (n:=33) rfl w' hC) (by rw[bL];exact q3)) 48 48 96 dc))<|Mv rfl<|Ext rfl rfl<|Ext rfl rfl<|Al 9 hGF zv52<|fun b9=>Sa 9 hGF rfl rfl rfl bv<|Asg rfl<|aa<|ah<|ae (E:=EE [109,2000109])<|Mv rfl<|aY rfl (fun _=>aJ _) rfl rfl<|Mv rfl<|Mv rfl<|aY rfl (fun _=>aJ _) rfl rfl<|Pk rfl rfl rfl<|aa<|aV rfl<|ae (E:=EE [109,2000109])<|Ca rfl (J2.kS)<|Sa 2 hGF rfl rfl rfl bG<|Asg rfl<|aa<|am<|?_
 refine Rr ?_
 exact aZ 2 rfl rfl rfl rfl isAgg94 sizeOf94 sm (fun w hw=>⟨rfl,ac hw⟩)
theorem I9(e:Option Addr)(cap:Nat)(bs:L8)(f:BitVec 8)(hcap:bs.length≤cap)(hR: ∀w',Gt w'→BytesAt w' e bs→CLS 108 [.slice e bs.length cap,I 96].toArray w' (fun r w''=>r=.returned (.tuple #[U8 f,I 0])∧Grow w' w''))(h48:bs.length=96)(h6:f &&& 64#8=0#8)(hp2: ¬BN (LO bs 0) 48<PP)(hp: ¬BN (LO bs 48) 48<PP) (w:World)(hw:Gt w)(hby:BytesAt w e bs):
 CLS 128 [.slice e bs.length cap].toArray w (fun r w'=>r=.returned (.tuple #[J2.PtV J2.cI,I 102])∧Grow w w'):=by
 refine Hf func128 rfl hw<|fun hGF=>ae (E:=EE [109,2000109])<|Al 2 hGF J2.zv94<|fun b2=>Asg rfl<|aa<|ae (E:=EE [109,2000109])<|Mv rfl<|Cc rfl ent108 (fun w' hC hG=>hR w' hG (hby.grow (ac hC)))<|Mv rfl<|Ext rfl rfl<|Ext rfl rfl<|Asg rfl<|Asg rfl<|aa<|ah<|ae (E:=EE [109,2000109])<|Mv rfl<|Bnb false rfl rfl (fun _=>aX _ _ _) (bne_eq_false_iff_eq.2 rfl)<|Mv rfl<|Mv rfl<|Bnr (v:=U8 (f &&& 64#8)) rfl rfl (fun _=>bp _ _ 64#8)<|Bnb false rfl rfl (fun _=>bE _ _ 0#8) (bne_eq_false_iff_eq.2 h6)<|Pk rfl rfl rfl<|aa<|aq rfl<|ap<|ae (E:=EE [109,2000109])<|Mv rfl<|?_
 refine bI rfl rfl ent109 rfl rfl (fun w' hw'=>(kg e cap bs om om hcap w' (hGF.g _ _ _ hw') (hby.grow (ac hw'))).mono fun e' w'' h=> ?_)
 obtain ⟨b7,c7,k7,rfl,hg,hb7,hob,q3,q2⟩:=h
 refine ⟨_,_,rfl,au hGF,hw'.news ak hg [(33,b7,c7,5)] ?_ bN,bJ ak rfl, ?_⟩
 ·intro n' b' c' t' hl
  rcases aC hl with ⟨_,e⟩|⟨_,hl⟩
  ·cases e;exact ⟨hb7,hob⟩
  ·cases hl
 clear hw' hg hb7 hob
 refine Asg rfl<|aa<|ae (E:=EE [109,2000109])<|Mv rfl<|dQ (l:=0) (h':=48) (m:=48) rfl underlying22 sizeOf5 rfl rfl rfl ⟨dc,Nat.le_refl _,om⟩ rfl rfl<|Cc rfl ent90 (fun w' hC hG=>qA _ _ _ (LO bs 0) (kh om) rfl hp2 w' hG (BytesAt.cut3 (cz (aO (n:=33) rfl w' hC) (by rw[bL];exact q3)) 0 48 48 dc))<|Mv rfl<|Ext rfl rfl<|Ext rfl rfl<|Al 7 hGF zv52<|fun b7=>Sa 7 hGF rfl rfl rfl bv<|Asg rfl<|aa<|ae (E:=EE [109,2000109])<|Mv rfl<|dQ (l:=48) (h':=96) (m:=96) rfl underlying22 sizeOf5 rfl rfl rfl ⟨dc,Nat.le_refl _,om⟩ rfl rfl<|Cc rfl ent90 (fun w' hC hG=>qA _ _ _ (LO bs 48) (kh om) rfl hp w' hG (BytesAt.cut3 (cz (aO (n:=33) rfl w' hC) (by rw[bL];exact q3)) 48 48 96 dc))<|Mv rfl<|Ext rfl rfl<|Ext rfl rfl<|Al 9 hGF zv52<|fun b9=>Sa 9 hGF rfl rfl rfl bv<|Asg rfl<|aa<|ah<|ae (E:=EE [109,2000109])<|Mv rfl<|aY rfl (fun _=>aJ _) rfl rfl<|Mv rfl<|Sk<|Sk<|Pk rfl rfl rfl<|aa<|aV rfl<|ae (E:=EE [109,2000109])<|Ca rfl (J2.kS)<|Sa 2 hGF rfl rfl rfl bG<|Asg rfl<|aa<|am<|?_
 refine Rr ?_
 exact aZ 2 rfl rfl rfl rfl isAgg94 sizeOf94 sm (fun w hw=>⟨rfl,ac hw⟩)
theorem yz(e:Option Addr)(cap:Nat)(bs:L8)(f:BitVec 8)(hcap:bs.length≤cap)(hR: ∀w',Gt w'→BytesAt w' e bs→CLS 108 [.slice e bs.length cap,I 96].toArray w' (fun r w''=>r=.returned (.tuple #[U8 f,I 0])∧Grow w' w''))(h48:bs.length=96)(h6:f &&& 64#8=0#8)(hp2:BN (LO bs 0) 48<PP)(hp:BN (LO bs 48) 48<PP)(x0:Zp)(hx0:zp (BN (LO bs 48) 48)=x0)(x1:Zp)(hx1:zp (BN (LO bs 0) 48)=x1)(l:Bool)(hl:(f &&& 32#8 !=0#8)=l)(p:J2.GP)(k:Bool)(hL:PUR 186 [EV2 (x0,x1),.bool l] (.tuple #[J2.PtV p,.bool k]))(t:J2.GP)(c:Int)(hS:PUR 187 [J2.PtV p,.bool k,U8 f] (.tuple #[J2.PtV t,I c]))(w:World)(hw:Gt w)(hby:BytesAt w e bs):
 CLS 128 [.slice e bs.length cap].toArray w (fun r w'=>r=.returned (.tuple #[J2.PtV t,I c])∧Grow w w'):=by
 refine Hf func128 rfl hw<|fun hGF=>ae (E:=EE [109,2000109])<|Al 2 hGF J2.zv94<|fun b2=>Asg rfl<|aa<|ae (E:=EE [109,2000109])<|Mv rfl<|Cc rfl ent108 (fun w' hC hG=>hR w' hG (hby.grow (ac hC)))<|Mv rfl<|Ext rfl rfl<|Ext rfl rfl<|Asg rfl<|Asg rfl<|aa<|ah<|ae (E:=EE [109,2000109])<|Mv rfl<|Bnb false rfl rfl (fun _=>aX _ _ _) (bne_eq_false_iff_eq.2 rfl)<|Mv rfl<|Mv rfl<|Bnr (v:=U8 (f &&& 64#8)) rfl rfl (fun _=>bp _ _ 64#8)<|Bnb false rfl rfl (fun _=>bE _ _ 0#8) (bne_eq_false_iff_eq.2 h6)<|Pk rfl rfl rfl<|aa<|aq rfl<|ap<|ae (E:=EE [109,2000109])<|Mv rfl<|?_
 refine bI rfl rfl ent109 rfl rfl (fun w' hw'=>(kg e cap bs om om hcap w' (hGF.g _ _ _ hw') (hby.grow (ac hw'))).mono fun e' w'' h=> ?_)
 obtain ⟨b7,c7,k7,rfl,hg,hb7,hob,q3,q2⟩:=h
 refine ⟨_,_,rfl,au hGF,hw'.news ak hg [(33,b7,c7,5)] ?_ bN,bJ ak rfl, ?_⟩
 ·intro n' b' c' t' hl
  rcases aC hl with ⟨_,e⟩|⟨_,hl⟩
  ·cases e;exact ⟨hb7,hob⟩
  ·cases hl
 clear hw' hg hb7 hob
 refine Asg rfl<|aa<|ae (E:=EE [109,2000109])<|Mv rfl<|dQ (l:=0) (h':=48) (m:=48) rfl underlying22 sizeOf5 rfl rfl rfl ⟨dc,Nat.le_refl _,om⟩ rfl rfl<|Cc rfl ent90 (fun w' hC hG=>qv _ _ _ (LO bs 0) (kh om) rfl hp2 x1 hx1 w' hG (BytesAt.cut3 (cz (aO (n:=33) rfl w' hC) (by rw[bL];exact q3)) 0 48 48 dc))<|Mv rfl<|Ext rfl rfl<|Ext rfl rfl<|Al 7 hGF zv52<|fun b7=>Sa 7 hGF rfl rfl rfl bv<|Asg rfl<|aa<|ae (E:=EE [109,2000109])<|Mv rfl<|dQ (l:=48) (h':=96) (m:=96) rfl underlying22 sizeOf5 rfl rfl rfl ⟨dc,Nat.le_refl _,om⟩ rfl rfl<|Cc rfl ent90 (fun w' hC hG=>qv _ _ _ (LO bs 48) (kh om) rfl hp x0 hx0 w' hG (BytesAt.cut3 (cz (aO (n:=33) rfl w' hC) (by rw[bL];exact q3)) 48 48 96 dc))<|Mv rfl<|Ext rfl rfl<|Ext rfl rfl<|Al 9 hGF zv52<|fun b9=>Sa 9 hGF rfl rfl rfl bv<|Asg rfl<|aa<|ah<|ae (E:=EE [109,2000109])<|Mv rfl<|aY rfl (fun _=>aJ _) rfl rfl<|Mv rfl<|Mv rfl<|aY rfl (fun _=>aJ _) rfl rfl<|Pk rfl rfl rfl<|aa<|aq rfl<|ap<|ae (E:=EE [109,2000109])<|La 9 rfl rfl bv<|La 7 rfl rfl bv<|cC fo rfl rfl sm sm rfl rfl<|Mv rfl<|?_
 refine Bnr (v:=U8 (f &&& 32#8)) rfl rfl (fun _=>bp _ _ 32#8)<|Bnr (v:=.bool l) rfl rfl (fun _=>(bE _ _ 0#8).trans (by rw[hl]))<|Ca rfl (hL)<|Mv rfl<|Ext rfl rfl<|Ext rfl rfl<|Al 11 hGF J2.zv94<|fun b11=>Sa 11 hGF rfl rfl rfl bG<|Asg rfl<|aa<|ae (E:=EE [109,2000109])<|La 11 rfl rfl bG<|Mv rfl<|Mv rfl<|Ca rfl (hS)<|Ext rfl rfl<|Ext rfl rfl<|Sa 2 hGF rfl rfl rfl bG<|Asg rfl<|aa<|am<|Rr<|?_
 exact aZ 2 rfl rfl rfl rfl isAgg94 sizeOf94 sm (fun w hw=>⟨rfl,ac hw⟩)
theorem Ec.ne_iff{α:Type}(C:Ec α){x y:α}:(some (x,y):Pt α)=C.ne (some (x,y))↔y=C.R.zero:=by
 constructor
 ·intro h
  have e:y=C.R.neg y:=congrArg Prod.snd (Option.some.inj h)
  have k:=C.R.add_neg y
  rw[←e]at k
  exact C.dbl0 k
 ·intro h
  show some (x,y)=some (x,C.R.neg y)
  rw[h,C.R.neg_zero]
theorem J1.ptv_eq{p r:J1.GP}(h:p.J=r.J):J1.PtV p=J1.PtV r:=by rw[J1.PtV,J1.PtV,J1.GL,J1.GL,h]
theorem J2.ptv_eq{p r:J2.GP}(h:p.J=r.J):J2.PtV p=J2.PtV r:=by rw[J2.PtV,J2.PtV,J2.GL,J2.GL,h]
theorem l_t{f:BitVec 8}(h:(f &&& 32#8 !=0#8)=true): ¬f &&& 32#8=0#8:=bne_iff_ne.1 h
theorem l_f{f:BitVec 8}(h:(f &&& 32#8 !=0#8)=false):f &&& 32#8=0#8:=bne_eq_false_iff_eq.1 h
theorem Uu: ∀b:BitVec 8,(b &&& 224#8) &&& 128#8=0#8→¬b &&& 224#8=128#8∧¬b &&& 224#8=160#8∧¬b &&& 224#8=192#8:=by decide+kernel
theorem TL: ∀b:BitVec 8,¬(b &&& 224#8) &&& 128#8=0#8→¬(b &&& 224#8) &&& 64#8=0#8→¬b &&& 224#8=128#8∧¬b &&& 224#8=160#8∧(b &&& 224#8=192#8↔(b &&& 224#8) &&& 32#8=0#8):=by decide+kernel
theorem UM: ∀b:BitVec 8,¬(b &&& 224#8) &&& 128#8=0#8→(b &&& 224#8) &&& 64#8=0#8→b &&& 224#8=128#8∨b &&& 224#8=160#8:=by decide+kernel
theorem f160{f:BitVec 8}(h:f=160#8): ¬f=128#8:=by rw[h];decide
def RdC(e:Option Addr)(cap:Nat)(bs:L8)(N:Nat)(f:BitVec 8)(c:Int):Prop:= ∀w',Gt w'→BytesAt w' e bs→CLS 108 [.slice e bs.length cap,I (N:Int)].toArray w' (fun r w''=>r=.returned (.tuple #[U8 f,I c])∧Grow w' w'')
theorem kl{e:Option Addr}{cap N:Nat}{bs:L8}(hN:bs.length=N)(h0:0<N)(hL:N≤1000)(f: ¬FG bs &&& 128#8=0#8)(s:FG bs &&& 64#8=0#8):RdC e cap bs N (FG bs) 0:=fun w' hG hB=>by
 rcases UM (bs.getD 0 0) f s with h|h
 ·exact Pg e cap N bs hN h0 hL h w' hG hB
 ·exact Qu e cap N bs hN h0 hL (f160 h) h w' hG hB
theorem EN{e:Option Addr}{cap N:Nat}{bs:L8}(hN:bs.length=N)(h0:0<N)(hL:N≤1000)(f:FG bs &&& 128#8=0#8):RdC e cap bs N 0#8 101:=fun w' hG hB=>by
 obtain ⟨h1,h2,h3⟩:=Uu (bs.getD 0 0) f
 exact uM e cap N bs hN h0 hL h1 h2 h3 w' hG hB
theorem Cs{e:Option Addr}{cap N:Nat}{bs:L8}(hN:bs.length=N)(h0:0<N)(hL:N≤1000)(hcap:bs.length≤cap)(f: ¬FG bs &&& 128#8=0#8)(s: ¬FG bs &&& 64#8=0#8):(INF bs N=0∧RdC e cap bs N (FG bs) 0)∨(INF bs N=101∧RdC e cap bs N 0#8 101):=by
 obtain ⟨h1,h2,h3⟩:=TL (bs.getD 0 0) f s
 by_cases k:FG bs &&& 32#8=0#8
 ·have h4:FG bs=192#8:=h3.2 k
  cases q:NQ (MK bs)with
  |true=>
   refine .inl ⟨if_pos ⟨fun j hj=>of_decide_eq_true q j (by rw[bL];omega),k⟩,fun w' hG hB=> ?_⟩
   exact Ew e cap N bs hN h0 hL hcap h1 h2 h4 q w' hG hB
  |false=>
   refine .inr ⟨if_neg (fun z=>of_decide_eq_false q (fun j hj=>z.1 j (by rw[bL]at hj;omega))),fun w' hG hB=> ?_⟩
   exact Bw e cap N bs hN h0 hL hcap h1 h2 h4 q w' hG hB
 ·refine .inr ⟨if_neg (fun z=>k z.2),fun w' hG hB=> ?_⟩
  exact uM e cap N bs hN h0 hL h1 h2 (fun h=>k (h3.1 h)) w' hG hB
theorem HC(p:J1.GP)(x y:Zp)(hP:p.P=some (x,y))(hJ:p.J=(x,y,1))(f:BitVec 8)(l:Bool)(hl:(f &&& 32#8 !=0#8)=l)(c:Int)(P:Pt Zp)(h:NY 0 (fun Q=>E1.times Q ORD=none) l x y c P)(on:E1.onP P):PUR 111 [J1.PtV p,.bool true,U8 f] (.tuple #[J1.PtV (cA1 P on),I c]):=by
 have hne:p.P=(J1.gB p).P↔y=0:=by
  show p.P=E1.ne p.P↔y=0
  rw[hP]
  exact Ec.ne_iff E1
 rcases h with ⟨⟨rfl,hy⟩,rfl,rfl⟩|⟨hn,⟨g,rfl,rfl⟩|⟨g,rfl,rfl⟩⟩
 ·exact M3 p f (l_t hl) (hne.2 hy)
 ·cases l with
  |true=>exact Ka p f (l_t hl) (fun k=>hn ⟨rfl,hne.1 k⟩) (by rw[hP];exact g)
  |false=>exact Jt p f (l_f hl) (by rw[hP];exact g)
 ·have e:J1.PtV (cA1 (some (x,y)) on)=J1.PtV p:=J1.ptv_eq hJ.symm
  rw[e]
  cases l with
  |true=>exact J6 p f (l_t hl) (fun k=>hn ⟨rfl,hne.1 k⟩) (by rw[hP];exact g)
  |false=>exact IX p f (l_f hl) (by rw[hP];exact g)
theorem PN(e:Option Addr)(cap:Nat)(bs:L8)(c:Int)(P:Pt Zp)(h:D1 bs c P)(on:E1.onP P)(hc:bs.length≤cap)(w:World)(hw:Gt w)(hby:BytesAt w e bs):CLS 55 [.slice e bs.length cap].toArray w (fun r w'=>r=.returned (.tuple #[J1.PtV (cA1 P on),I c])∧Grow w w'):=by
 rcases h with ⟨h48,rfl,rfl⟩|⟨h48,⟨f,rfl,rfl⟩|⟨f,⟨s,rfl,rfl⟩|⟨s,⟨p,rfl,rfl⟩|⟨p,⟨q,rfl,rfl⟩|⟨q,h⟩⟩⟩⟩⟩
 ·exact pf e cap bs 100 (fun w' hG _=>uB e cap 48 bs h48 w' hG) dc w hw hby
 ·exact pf e cap bs 101 (EN h48 dc dc f) dc w hw hby
 ·rcases Cs h48 dc dc hc f s with ⟨k,r⟩|⟨k,r⟩
  ·rw[k];exact FI e cap bs (FG bs) r s w hw hby
  ·rw[k];exact pf e cap bs 101 r dc w hw hby
 ·exact H5 e cap bs (FG bs) hc (kl h48 dc dc f s) h48 s p w hw hby
 ·exact zu e cap bs (FG bs) hc (kl h48 dc dc f s) h48 s p (X1 bs) rfl (LB bs) rfl J1.cI false (J1.wA (X1 bs) (LB bs) q) J1.cI 103 (Pn _ _) w hw hby
 ·exact zu e cap bs (FG bs) hc (kl h48 dc dc f s) h48 s p (X1 bs) rfl (LB bs) rfl (J1.E6 (X1 bs) (LB bs) q) true (J1.wY (X1 bs) (LB bs) q) (cA1 P on) c (HC _ _ _ rfl rfl _ _ rfl c P h on) w hw hby
theorem GJ(e:Option Addr)(cap len:Nat)(bs:L8)(hn:bs.length=len)(c:Int)(P:Pt Zp)(h:D1 bs c P)(hc:len≤cap)(w:World)(hw:Gt w)(hby:BytesAt w e bs):CLS 55 [.slice e len cap].toArray w (fun r w'=>r=.returned (.tuple #[J1.PtV (cA1 P (qT h)),I c])∧Grow w w'):=by
 subst hn
 exact PN e cap bs c P h (qT h) hc w hw hby
theorem IK(p:J2.GP)(x y:W2)(hP:p.P=some (x,y))(hJ:p.J=(x,y,on2))(f:BitVec 8)(l:Bool)(hl:(f &&& 32#8 !=0#8)=l)(c:Int)(P:Pt W2)(h:NY ze2 (fun Q=>E2w.times Q ORD=none) l x y c P)(on:E2w.onP P):PUR 187 [J2.PtV p,.bool true,U8 f] (.tuple #[J2.PtV (cA2 P on),I c]):=by
 have hne:p.P=(J2.gB p).P↔y=ze2:=by
  show p.P=E2w.ne p.P↔y=ze2
  rw[hP]
  exact Ec.ne_iff E2w
 rcases h with ⟨⟨rfl,hy⟩,rfl,rfl⟩|⟨hn,⟨g,rfl,rfl⟩|⟨g,rfl,rfl⟩⟩
 ·exact N0 p f (l_t hl) (hne.2 hy)
 ·cases l with
  |true=>exact HJ p f (l_t hl) (fun k=>hn ⟨rfl,hne.1 k⟩) (by rw[hP];exact g)
  |false=>exact Ic p f (l_f hl) (by rw[hP];exact g)
 ·have e:J2.PtV (cA2 (some (x,y)) on)=J2.PtV p:=J2.ptv_eq hJ.symm
  rw[e]
  cases l with
  |true=>exact Jc p f (l_t hl) (fun k=>hn ⟨rfl,hne.1 k⟩) (by rw[hP];exact g)
  |false=>exact IG p f (l_f hl) (by rw[hP];exact g)
theorem NZ(e:Option Addr)(cap:Nat)(bs:L8)(c:Int)(P:Pt W2)(h:D2 bs c P)(on:E2w.onP P)(hc:bs.length≤cap)(w:World)(hw:Gt w)(hby:BytesAt w e bs):CLS 128 [.slice e bs.length cap].toArray w (fun r w'=>r=.returned (.tuple #[J2.PtV (cA2 P on),I c])∧Grow w w'):=by
 rcases h with ⟨h48,rfl,rfl⟩|⟨h48,⟨f,rfl,rfl⟩|⟨f,⟨s,rfl,rfl⟩|⟨s,⟨p,rfl,rfl⟩|⟨⟨p,p2⟩,⟨q,rfl,rfl⟩|⟨r,hr,hl,h⟩⟩⟩⟩⟩
 ·exact oO e cap bs 100 (fun w' hG _=>uB e cap 96 bs h48 w' hG) dc w hw hby
 ·exact oO e cap bs 101 (EN h48 dc dc f) dc w hw hby
 ·rcases Cs h48 dc dc hc f s with ⟨k,r⟩|⟨k,r⟩
  ·rw[k];exact Ck e cap bs (FG bs) r s w hw hby
  ·rw[k];exact oO e cap bs 101 r dc w hw hby
 ·by_cases p2:BN (LO bs 0) 48<PP
  ·exact I8 e cap bs (FG bs) hc (kl h48 dc dc f s) h48 s p2 (fun p1=>p ⟨p1,p2⟩) _ rfl w hw hby
  ·by_cases p1:BN (LO bs 48) 48<PP
   ·exact JH e cap bs (FG bs) hc (kl h48 dc dc f s) h48 s p2 p1 _ rfl w hw hby
   ·exact I9 e cap bs (FG bs) hc (kl h48 dc dc f s) h48 s p2 p1 w hw hby
 ·exact yz e cap bs (FG bs) hc (kl h48 dc dc f s) h48 s p2 p _ rfl _ rfl (LB bs) rfl J2.cI false (J2.wA (X2 bs) (LB bs) q) J2.cI 103 (Nv _ _) w hw hby
 ·exact yz e cap bs (FG bs) hc (kl h48 dc dc f s) h48 s p2 p _ rfl _ rfl (LB bs) rfl (J2.gRt (X2 bs) r hr (LB bs)) true (J2.wY (X2 bs) r hr hl (LB bs)) (cA2 P on) c (IK _ _ _ rfl rfl _ _ rfl c P h on) w hw hby
theorem MY(e:Option Addr)(cap len:Nat)(bs:L8)(hn:bs.length=len)(c:Int)(P:Pt W2)(h:D2 bs c P)(hc:len≤cap)(w:World)(hw:Gt w)(hby:BytesAt w e bs):CLS 128 [.slice e len cap].toArray w (fun r w'=>r=.returned (.tuple #[J2.PtV (cA2 P (iH h)),I c])∧Grow w w'):=by
 subst hn
 exact NZ e cap bs c P h (iH h) hc w hw hby
end
section
open Go.RowKit
attribute [local simp] aW bd aU aP aD bf aL aK aB PLl cm cq N1l cr cp cu a8 bg aQ a6 bc
end
section
open Go.RowKit
namespace Q6
attribute [local simp] aW bd aU aP aD bf aL aK aB PLl cm cq N1l cr cp cu a8 bg aQ a6 bc
def FF(f:Nat→W2)(i:Nat):L6:=fe2 (f i)
theorem fV(f:Nat→W2)(v:W2)(n k o:Nat)(hk:k<n)(ho:o=12*k)(hv:f k=v): ∀j u,((fe v.1++fe v.2).map U64)[j]? =some u→((FM (FF f) n).map U64)[o+j]? =some u:=by
 subst hv
 exact yu (FF f) n k hk (aQ _) o ho
theorem s4(f g:Nat→W2)(v:W2)(n k o:Nat)(hk:k<n)(ho:o=12*k)(hg: ∀i,i<n→g i=if i=k then v else f i):lay o ((fe v.1++fe v.2).map U64) ((FM (FF f) n).map U64)=(FM (FF g) n).map U64:=by
 have h:=sZ (FF f) n k (fe2 v) hk (aQ _) o ho
 refine h.trans (congrArg (List.map U64) (lM fun i hi=> ?_))
 show (if i=k then fe2 v else fe2 (f i))=fe2 (g i)
 rw[hg i hi]
 split<;>rfl
theorem vt{f g:Nat→W2}{n:Nat}(h: ∀i,i<n→f i=g i):FM (FF f) n=FM (FF g) n:=lM fun i hi=>congrArg fe2 (h i hi)
theorem eI(f:Nat→W2)(n:Nat):(FM (FF f) n).length=12*n:=bc _ _
theorem xD(A B:Nat→W2)(i j:Nat):(if j<i+1 then A j else B j)=if j=i then A i else (if j<i then A j else B j):=by
 by_cases h:j=i
 ·subst h;rw[if_pos (Nat.lt_succ_self _),if_pos rfl]
 ·rw[if_neg h]
  by_cases h':j<i
  ·rw[if_pos h',if_pos (Nat.lt_succ_of_lt h')]
  ·rw[if_neg h',if_neg (fun e=>h' (Nat.lt_of_le_of_ne (Nat.le_of_lt_succ e) h))]
theorem ub(n:Nat):FM (FF fun _=>ze2) n=FM (fun _=>List.replicate 12 0#64) n:=lM fun i _=>by
 show fe2 ze2=_
 rw[show fe2 ze2=fe 0++fe 0 from rfl,kO];rfl
attribute [local simp] eI
end Q6
end
section
open Go.RowKit
namespace Q6
attribute [local simp] aW bd aU aP aD bf aL aK aB PLl cm cq N1l cr cp cu a8 bg aQ a6 bc eI
end Q6
end
section
open Go.RowKit
namespace Q6
attribute [local simp] aW bd aU aP aD bf aL aK aB PLl cm cq N1l cr cp cu a8 bg aQ a6 bc eI
end Q6
end
section
open Go.RowKit
theorem ent245:ai prog 245:=fun _ _=>kr
theorem ent292:ai prog 292:=fun _ _=>kr
theorem ent244:ai prog 244:=fun _ _=>kr
theorem ent277:ai prog 277:=fun _ _=>kr
theorem ent221:ai prog 221:=fun _ _=>kr
theorem ent276:ai prog 276:=fun _ _=>kr
theorem ent250:ai prog 250:=fun _ _=>kr
theorem ent243:ai prog 243:=fun _ _=>kr
theorem ent242:ai prog 242:=fun _ _=>kr
theorem ent252:ai prog 252:=fun _ _=>kr
theorem ent220:ai prog 220:=fun _ _=>kr
theorem ent249:ai prog 249:=fun _ _=>kr
namespace Q6
attribute [local simp] aW bd aU aP aD bf aL aK aB PLl cm cq N1l cr cp cu a8 bg aQ a6 bc eI
abbrev EV6(x:W6):Value:=aT ((fe (x.1).1++fe (x.1).2)++((fe (x.2.1).1++fe (x.2.1).2)++(fe (x.2.2).1++fe (x.2.2).2)))
theorem zv231(w:World):(zeroValue 231).run prog w=.ok (aT ((fe 0++fe 0)++((fe 0++fe 0)++(fe 0++fe 0)))) w:=by rw[kO];exact (zeroValue231 w).trans rr
theorem kt:Three prog 231 ⟨ "C0",92,0,false, "", "",0⟩ ⟨ "C1",92,12,false, "", "",96⟩ ⟨ "C2",92,24,false, "", "",192⟩ 12 (fe 0++fe 0) (fe 0++fe 0) (fe 0++fe 0):=⟨underlying231,rfl,rfl,rfl,sizeOf92,sizeOf92,sizeOf92,zv231,sm,sm,sm⟩
theorem e6{a b c a' b' c':W2}(h1:a=a')(h2:b=b')(h3:c=c'):Ending.returned (aT ((fe (a).1++fe (a).2)++((fe (b).1++fe (b).2)++(fe (c).1++fe (c).2))))=.returned (aT ((fe (a').1++fe (a').2)++((fe (b').1++fe (b').2)++(fe (c').1++fe (c').2)))):=by rw[h1,h2,h3]
def q6:Sh W6:=q2.two (q2.two q2 2) 2
theorem V6(x:W6):EV6 x=dn rid (.inl [x.1.1,x.1.2,x.2.1.1,x.2.1.2,x.2.2.1,x.2.2.2]):=by
 show Value.agg _=Value.agg _
 rw[clv,show cel [x.1.1,x.1.2,x.2.1.1,x.2.1.2,x.2.2.1,x.2.2.2]=fe x.1.1++(fe x.1.2++(fe x.2.1.1++(fe x.2.1.2++(fe x.2.2.1++fe x.2.2.2))))from rfl]
 rw[List.append_assoc,List.append_assoc]
theorem bQ{f:Nat}{a a':List Value}{v v':Value}(ha:a=a')(hv:v=v')(h:PUR f a' v'):PUR f a v:=by rw[ha,hv];exact h
theorem l1{a b:Value}(h:a=b):[a]=[b]:=by rw[h]
theorem l2{a b c d:Value}(h:a=b)(k:c=d):[a,c]=[b,d]:=by rw[h,k]
theorem l3{a b c d e f:Value}(h:a=b)(k:c=d)(l:e=f):[a,c,e]=[b,d,f]:=by rw[h,k,l]
theorem t2{a b c:Value}(h:a=b):Value.tuple #[a,c]=.tuple #[b,c]:=by rw[h]
end Q6
end
section
open Go.RowKit
theorem ent280:ai prog 280:=fun _ _=>kr
namespace Q6
attribute [local simp] aW bd aU aP aD bf aL aK aB PLl cm cq N1l cr cp cu a8 bg aQ a6 bc eI
def p3(x:W6):Nat→W2
 |0=>x.1
 |1=>x.2.1
 |_=>x.2.2
theorem zv288(w:World):(zeroValue 288).run prog w=.ok (aT (FM (FF fun _=>ze2) 3)) w:=by
 rw[ub];exact (zeroValue288 w).trans rr
abbrev TV3(f:Nat→W2):Value:=aT (FM (FF f) 3)
theorem pt(f:Nat→W2)(i:Nat):(FF f i).length=12:=aQ _
attribute [local simp] pt
theorem Oh{x y:W6}(h: ∀j,j<3→p3 x j=p3 y j):x=y:=Prod.ext (h 0 dc) (Prod.ext (h 1 dc) (h 2 dc))
theorem lt_s{Q:Nat→Prop}{k:Nat}(h: ∀j,j<k→Q j)(hk:Q k): ∀j,j<k+1→Q j:=fun j hj=>by
 rcases Nat.lt_or_ge j k with h1|h1
 ·exact h j h1
 ·obtain rfl:j=k:=om
  exact hk
theorem Ed(x:W6):PUR 251 [EV6 x] (TV3 (p3 x)):=by
 intro w hw
 refine Hf func251 rfl hw<|fun hGF=>Xp<|Bx 1 hGF rfl<|fun b1=>Al 2 hGF zv288<|fun b2=>aa<|Xp<|Fa 0 rfl underlying231 rfl sizeOf92<|av 1 _ rfl rfl isAgg92 sizeOf92 sm dR rfl rfl<|Fa 12 rfl underlying231 rfl sizeOf92<|av 1 _ rfl rfl isAgg92 sizeOf92 sm (kQ sm) rfl rfl<|Fa 24 rfl underlying231 rfl sizeOf92<|av 1 _ rfl rfl isAgg92 sizeOf92 sm (gq (m:=12) (n:=12) sm sm rfl) rfl rfl<|HX (FF (p3 x)) rfl rfl rfl underlying288 sizeOf92 zv288 (aQ _) (aQ _) (aQ _) rfl rfl<|Sa 2 hGF rfl rfl rfl Dq<|aa<|am<|Rr<|?_
 exact ay 2 rfl rfl rfl isAgg288 sizeOf288 sm (fun w hw=>⟨rfl,ac hw⟩)
theorem k6of(f:Nat→W2):PUR 279 [TV3 f] (EV6 (f 0,f 1,f 2)):=by
 intro w hw
 refine Hf func279 rfl hw<|fun hGF=>Xp<|Bx 1 hGF rfl<|fun b1=>Al 2 hGF zv231<|fun b2=>aa<|Xp<|eK (0) (12*(0)) rfl rfl underlying288 sizeOf92 om om om rfl rfl<|av 1 ((fe (f 0).1++fe (f 0).2).map U64) rfl rfl isAgg92 sizeOf92 sm (fV _ (f 0) 3 (0) _ om rfl (rfl)) rfl rfl<|eK (1) (12*(1)) rfl rfl underlying288 sizeOf92 om om om rfl rfl<|av 1 ((fe (f 1).1++fe (f 1).2).map U64) rfl rfl isAgg92 sizeOf92 sm (fV _ (f 1) 3 (1) _ om rfl (rfl)) rfl rfl<|eK (2) (12*(2)) rfl rfl underlying288 sizeOf92 om om om rfl rfl<|av 1 ((fe (f 2).1++fe (f 2).2).map U64) rfl rfl isAgg92 sizeOf92 sm (fV _ (f 2) 3 (2) _ om rfl (rfl)) rfl rfl<|eo kt rfl rfl rfl sm sm sm rfl rfl<|Sa 2 hGF rfl rfl rfl de<|aa<|am<|Rr<|?_
 exact ay 2 rfl rfl rfl isAgg231 sizeOf231 sm (fun w hw=>⟨rfl,ac hw⟩)
theorem lh(x:W6)(w:World)(hw:Gt w):CLS 252 [EV6 x].toArray w (fun e w'=> ∃b1,e=.returned (.func (.func 280) #[] #[pnt b1])∧Grow w w'∧w.heap.size≤b1∧OwnB w' b1 (((fe (x.1).1++fe (x.1).2)++((fe (x.2.1).1++fe (x.2.1).2)++(fe (x.2.2).1++fe (x.2.2).2))).map U64) 231):=by
 refine Hf func252 rfl hw<|fun hGF=>Xp<|Bx 1 hGF rfl<|fun b1=>Asg rfl<|aa<|Xp<|eV rfl rfl rfl rfl<|Asg rfl<|aa<|am<|Rr<|?_
 exact aE rfl rfl (fun w hw=>⟨b1,rfl,ac hw,(hw.own 1 b1 _ _ rfl).2.elim id False.elim,(hw.own 1 b1 _ _ rfl).1⟩)
def PS(x:W6):List (List Value):=(List.range 3).map fun (k:Nat)=>[I (k:Int),EV2 (p3 x k)]
theorem tJ(x:W6):(PS x).length=3:=by rw[PS,List.length_map,List.length_range]
theorem G3(x:W6)(k:Nat)(h:k<3):(PS x)[k]? =some [I (k:Int),EV2 (p3 x k)]:=by
 rw[PS,List.getElem?_map,List.getElem?_range h];rfl
theorem Lq(x:W6)(k:Nat)(v:List Value)(h:(PS x)[k]? =some v):k<3∧v=[I (k:Int),EV2 (p3 x k)]:=by
 have hk:k<3:=by
  rcases Nat.lt_or_ge k 3 with hk|hk
  ·exact hk
  ·rw[List.getElem?_eq_none (by rw[tJ];exact hk)]at h;cases h
 exact ⟨hk,(Option.some.inj ((G3 x k hk).symm.trans h)).symm⟩
def RdP(bb:Nat)(x:W6):Cls:=fun w=>w.rangeAt bb 0 (((fe (x.1).1++fe (x.1).2)++((fe (x.2.1).1++fe (x.2.1).2)++(fe (x.2.2).1++fe (x.2.2).2))).map U64)
theorem MC(bb:Nat)(x:W6):eG prog Gt 280 [pnt bb] (PS x) (RdP bb x):=by
 intro l J Jx hJ hJx hRd hGx hY w hj
 have okJ: ∀k,BOk Gt (Bi w (fun Y=>J Y k)):=fun k=>⟨fun _ _ _ h=>(hRd _ _ _ h.rid).1,hJ k⟩
 have okX: ∀k,BOk Gt (Bi w (fun Y=>Jx Y k)):=fun k=>⟨fun _ _ _ h=>hGx _ _ _ h.rid,hJx k⟩
 have c1: ∀k L w',Hp (Bi w (fun Y=>J Y k)) L w'→RdP bb x w':=fun k L w' h=>(hRd _ _ _ h.rid).2
 refine cb (G:=Gt) func280 rfl rfl (Hp (Bi w (fun Y=>J Y 0)) []) (bO (Bi w _) hj (hJ 0)) (au (okJ 0))<|Xp<|dv rfl isAgg231 sizeOf231 sm (fun w h=>c1 _ _ w h) rfl rfl<|Ca rfl (Ed _)<|Mv rfl<|aa<|aj<|fB (ι:={i:Nat // i≤3}) (fun y=>[(0,.func (.yield l) #[] #[]),(1,pnt bb),(6,TV3 (p3 x)),(7,I (y.1:Int))]) (fun y=>Bi w (fun Y=>J Y y.1)) (fun y=>[]) (fun y=>3-y.1) ⟨0,Nat.zero_le _⟩ (fun _=>okJ _) rfl trv trivial<|?_
 rintro ⟨i,hi⟩
 dsimp only
 refine Xp<|Bnr rfl rfl (fun _=>aF _ _ _)<|aa<|ah<|?_
 refine bZ rfl (fun hc=> ?_) (fun hc=> ?_)
 ·have hi2:i<3:=by simp at hc;omega
  refine ap<|ah<|aj<|Xp<|Mv rfl<|z9 (FF (p3 x)) (i) rfl rfl underlying288 sizeOf92 isAgg92 om om (aQ _) rfl rfl<|Al 4 (okJ _) zv92<|fun b4=>Asg rfl<|Sa 4 (okJ _) rfl rfl rfl aH<|aa<|Xp<|Mv rfl<|Mv rfl<|La 4 rfl rfl aH<|?_
  refine cX (hY.b (k:=i) (G3 x i om) w) (okJ _) (okX _) rfl rfl rfl rfl rfl ?_ ?_
  ·refine aY rfl (fun _=>aJ _) rfl rfl<|aa<|aq rfl<|ap<|Xq<|Bnr rfl rfl (fun _=>aA _ _ _ oi)<|Mv rfl<|aa<|?_
   repeat (refine a7 ?_)
   exact aR<|⟨rfl,⟨i+1,om⟩,_,by show 3-(i+1)<3-i;omega,rfl,trv,trivial⟩
  ·refine aY rfl (fun _=>aJ _) rfl rfl<|aa<|aV rfl<|am<|Rr<|?_
   repeat (first|refine cZ ?_|refine bY ?_|refine cU rfl ?_|refine bq ?_|refine bt ?_)
   exact cR rfl (fun w hw=>⟨⟨_,rfl⟩,.inr ⟨_,bD (hJx _) hw.rid⟩⟩)
 ·obtain rfl:i=3:=by simp at hc;omega
  refine be ?_
  repeat (first|refine cZ ?_|refine bY ?_|refine cU rfl ?_|refine bq ?_|refine bt ?_)
  refine cn rfl (fun w hw=>⟨⟨_,rfl⟩,.inl ?_⟩)
  have:=bD (hJ _) hw.rid
  rw[tJ]
  exact this
theorem ME  :PUR 221 [] (EV6 K6.one):=(bQ rfl (V6 _) (pE TO52 func221 [] (.inl (.inl [K6.one.1.1,K6.one.1.2,K6.one.2.1.1,K6.one.2.1.2,K6.one.2.2.1,K6.one.2.2.2])) (let t0:=on2;(.inl (.inl [t0.1,t0.2,0,0,0,0]),[])) [] kr aI rfl))
theorem ya{f:Nat}{g:W6}(en:ai prog f)(h:PUR f [] (EV6 g)):Snd prog Gt f (c0 q6.rd g):=uq q6.rd en (bQ rfl (V6 _).symm h)
def TO53:Tb prog Gt:=TO52.add (ya (g:=K6.one) ent221 ME)
theorem n6(x y:W6):PUR 220 [EV6 x,EV6 y] (.bool (decide (x=y))):=by
 intro w hw
 have hGF:BOk Gt (pl w):=gt_low.plain hw
 refine bV (G:=Gt) func220 rfl rfl (Hp (pl w) []) (bO (pl w) trivial ak) (au hGF)<|ae (E:=EE [252])<|Bx 2 hGF rfl<|fun b2=>Bx 3 hGF rfl<|fun b3=>eP 4 hGF zeroValue4 rfl rfl<|fun b4=>aa<|ae (E:=EE [252])<|La 3 rfl rfl de<|Ca rfl (Ed _)<|Al 5 hGF zv288<|fun b5=>Sa 5 hGF rfl rfl rfl Dq<|aa<|ah<|ae (E:=EE [252])<|La 2 rfl rfl de<|?_
 refine cV rfl rfl ent252 rfl rfl (fun w' hw'=>(lh x w' (hGF.g _ _ _ hw')).mono fun e' w'' h=> ?_)
 obtain ⟨c1,rfl,hg,h1,ho⟩:=h
 refine ⟨_,_,rfl,au hGF,hw'.news ak hg [(33,c1,((fe (x.1).1++fe (x.1).2)++((fe (x.2.1).1++fe (x.2.1).2)++(fe (x.2.2).1++fe (x.2.2).2))).map U64,231)] ?_ bN, ?_⟩
 ·intro n' b' c' t' hl
  rcases aC hl with ⟨_,e⟩|⟨_,hl⟩
  ·cases e;exact ⟨h1,ho⟩
  ·cases hl
 clear hw' hg h1 ho
 refine aa<|aj<|?_
 refine pR (fun k=> ∀j,j<k→p3 x j=p3 y j) (fun _=>pl w) (fun _ _=>pl w) (fun _=>hGF) (fun _ _=>hGF) (fun _=>rfl) (fun _ _=>rfl) rfl rfl ent280 (MC c1 x) (fun v hv=>by obtain ⟨k,hk,rfl⟩:=List.mem_map.1 hv;rfl) rfl (fun k=>[(2,b2,((fe (x.1).1++fe (x.1).2)++((fe (x.2.1).1++fe (x.2.1).2)++(fe (x.2.2).1++fe (x.2.2).2))).map U64,231),(3,b3,((fe (y.1).1++fe (y.1).2)++((fe (y.2.1).1++fe (y.2.1).2)++(fe (y.2.2).1++fe (y.2.2).2))).map U64,231),(4,b4,[.bool false],4),(5,b5,(FM (FF (p3 y)) 3).map U64,288),(33,c1,((fe (x.1).1++fe (x.1).2)++((fe (x.2.1).1++fe (x.2.1).2)++(fe (x.2.2).1++fe (x.2.2).2))).map U64,231)]) (fun c _ L'=>c=.ret∧lkB L' 4=some (b4,[.bool false],4)∧¬x=y) (fun j h=>absurd h (Nat.not_lt_zero j)) trv (fun k _ w' h=>aO (n:=33) rfl w' h) ?_ ?_ ?_ (fun D c k L' hD h=>by obtain ⟨rfl,hl,hne⟩:=h;refine Ge ?_;refine bt ?_;refine bq ?_;exact (cP (.inl rfl) ak (qX 4 rfl rfl hl isAgg4 (fun w hw=>⟨congrArg (fun b=>Ending.returned (.bool b)) (decide_eq_false hne).symm,ac hw⟩))))
 ·intro k v hx hQ R hR
  obtain ⟨hk,rfl⟩:=Lq x k v hx
  refine ae (E:=EE [252])<|Asg rfl<|aa<|bC (E:=EE [252])<|cO 7 (hR (pl w) rfl hGF).1 zv92 rfl rfl<|fun b7=>ao 7 (hR (pl w) rfl hGF).1 rfl rfl rfl sizeOf92 sm sm (bk _) rfl<|aa<|?_
  refine ⟨rfl,_,rfl, ?_⟩
  refine aj<|Xd [252]<|La 7 rfl rfl aH<|Mv rfl<|eK (k) (12*(k)) rfl rfl underlying288 sizeOf92 om om om rfl rfl<|av 5 ((fe (p3 y k).1++fe (p3 y k).2).map U64) rfl rfl isAgg92 sizeOf92 sm (fV _ (p3 y k) 3 (k) _ om rfl (rfl)) rfl rfl<|Ca rfl (tS _ _)<|aY rfl (fun _=>aJ _) rfl rfl<|aa<|?_
  refine bZ rfl (fun hc=> ?_) (fun hc=> ?_)
  ·have hc: ¬p3 x k=p3 y k:=by simpa using hc
   refine ae (E:=EE [252])<|cM 4 (hR (pl w) rfl hGF).2.1 rfl rfl rfl sizeOf4 rfl (by simp[*]) rfl<|aa<|am<|Rr<|?_
   refine Rr ?_
   exact ⟨_,rfl,rfl,rfl,fun e=>hc (by rw[e])⟩
  ·have hc:p3 x k=p3 y k:=by simpa using hc
   refine ap ?_
   repeat (refine a7 ?_)
   exact ⟨_,rfl,Jk (lt_s hQ hc) trv⟩
 ·intro hQ D hD
  rw[tJ]at*
  have hxy:=Oh hQ
  refine ae (E:=EE [252])<|cM 4 hD rfl rfl rfl sizeOf4 rfl (by simp[*]) rfl<|aa<|am<|Rr<|?_
  exact cP (.inl rfl) ak (qX 4 rfl rfl rfl isAgg4 (fun w hw=>⟨congrArg (fun b=>Ending.returned (.bool b)) (decide_eq_true hxy).symm,ac hw⟩))
 ·intro D hb
  exact a7<|aR<|mp hb
theorem nq(x y:W6):PUR 243 [EV6 x,EV6 y] (EV6 (K6.add x y)):=(bQ (l2 (V6 _) (V6 _)) (V6 _) (pE TO53 func243 [.inl [x.1.1,x.1.2,x.2.1.1,x.2.1.2,x.2.2.1,x.2.2.2],.inl [y.1.1,y.1.2,y.2.1.1,y.2.1.2,y.2.2.1,y.2.2.2]] (.inl (.inl [(K6.add x y).1.1,(K6.add x y).1.2,(K6.add x y).2.1.1,(K6.add x y).2.1.2,(K6.add x y).2.2.1,(K6.add x y).2.2.2])) (let t0:=ad2 (x.1.1,x.1.2) (y.1.1,y.1.2);let t1:=ad2 (x.2.1.1,x.2.1.2) (y.2.1.1,y.2.1.2);let t2:=ad2 (x.2.2.1,x.2.2.2) (y.2.2.1,y.2.2.2);(.inl (.inl [t0.1,t0.2,t1.1,t1.2,t2.1,t2.2]),[])) [] kr aI rfl))
theorem cB{f:Nat}{g:W6→W6→W6}(en:ai prog f)(h: ∀a b,PUR f [EV6 a,EV6 b] (EV6 (g a b))):Snd prog Gt f (c2 q6.ag q6.ag q6.rd g):=ge q6.ag q6.ag q6.rd en (fun a b=>bQ (l2 (V6 _).symm (V6 _).symm) (V6 _).symm (h a b))
def TO54:Tb prog Gt:=TO53.add (cB (g:=K6.add) ent243 nq)
theorem ql(x y:W6):PUR 245 [EV6 x,EV6 y] (EV6 (sb6 x y)):=(bQ (l2 (V6 _) (V6 _)) (V6 _) (pE TO54 func245 [.inl [x.1.1,x.1.2,x.2.1.1,x.2.1.2,x.2.2.1,x.2.2.2],.inl [y.1.1,y.1.2,y.2.1.1,y.2.1.2,y.2.2.1,y.2.2.2]] (.inl (.inl [(sb6 x y).1.1,(sb6 x y).1.2,(sb6 x y).2.1.1,(sb6 x y).2.1.2,(sb6 x y).2.2.1,(sb6 x y).2.2.2])) (let t0:=sb2 (x.1.1,x.1.2) (y.1.1,y.1.2);let t1:=sb2 (x.2.1.1,x.2.1.2) (y.2.1.1,y.2.1.2);let t2:=sb2 (x.2.2.1,x.2.2.2) (y.2.2.1,y.2.2.2);(.inl (.inl [t0.1,t0.2,t1.1,t1.2,t2.1,t2.2]),[])) [] kr aI rfl))
def TO55:Tb prog Gt:=TO54.add (cB (g:=sb6) ent245 ql)
theorem Ea(x:W6):PUR 250 [EV6 x] (EV6 (K6.neg x)):=(bQ (l1 (V6 _)) (V6 _) (pE TO55 func250 [.inl [x.1.1,x.1.2,x.2.1.1,x.2.1.2,x.2.2.1,x.2.2.2]] (.inl (.inl [(K6.neg x).1.1,(K6.neg x).1.2,(K6.neg x).2.1.1,(K6.neg x).2.1.2,(K6.neg x).2.2.1,(K6.neg x).2.2.2])) (let t0:=ng2 (x.1.1,x.1.2);let t1:=ng2 (x.2.1.1,x.2.1.2);let t2:=ng2 (x.2.2.1,x.2.2.2);(.inl (.inl [t0.1,t0.2,t1.1,t1.2,t2.1,t2.2]),[])) [] kr aI rfl))
theorem cF{f:Nat}{g:W6→W6}(en:ai prog f)(h: ∀a,PUR f [EV6 a] (EV6 (g a))):Snd prog Gt f (c1 q6.ag q6.rd g):=f8 q6.ag q6.rd en (fun a=>bQ (l1 (V6 _).symm) (V6 _).symm (h a))
def TO56:Tb prog Gt:=TO55.add (cF (g:=K6.neg) ent250 Ea)
theorem mm(x y:W6):PUR 242 [EV6 x,EV6 y] (EV6 (K6.mul x y)):=by
 intro w hw
 refine Hf func242 rfl hw<|fun hGF=>Xp<|Bx 2 hGF rfl<|fun b2=>Bx 3 hGF rfl<|fun b3=>Al 4 hGF zv231<|fun b4=>aa<|eT (E:=EE [2999999]) [0,1,2,3,4,5,6,7,8,9,10,11,12,13,14] [⟨15,5,92,(fe 0++fe 0).map U64⟩,⟨16,6,92,(fe 0++fe 0).map U64⟩,⟨17,7,92,(fe 0++fe 0).map U64⟩] [18,19,20] dC rfl kr kr kr kr kr kr dc (by intro x hx;simp only[List.mem_cons,List.not_mem_nil,or_false]at hx;rcases hx with rfl|rfl|rfl<;>exact bS rfl zv92 rfl)<|Fa 0 rfl underlying231 rfl sizeOf92<|av 2 _ rfl rfl isAgg92 sizeOf92 sm dR rfl rfl<|Fa 0 rfl underlying231 rfl sizeOf92<|av 3 _ rfl rfl isAgg92 sizeOf92 sm dR rfl rfl<|Ca rfl (dh _ _)<|Fa 12 rfl underlying231 rfl sizeOf92<|av 2 _ rfl rfl isAgg92 sizeOf92 sm (kQ sm) rfl rfl<|Fa 12 rfl underlying231 rfl sizeOf92<|av 3 _ rfl rfl isAgg92 sizeOf92 sm (kQ sm) rfl rfl<|Ca rfl (dh _ _)<|Fa 24 rfl underlying231 rfl sizeOf92<|av 2 _ rfl rfl isAgg92 sizeOf92 sm (gq (m:=12) (n:=12) sm sm rfl) rfl rfl<|Fa 24 rfl underlying231 rfl sizeOf92<|av 3 _ rfl rfl isAgg92 sizeOf92 sm (gq (m:=12) (n:=12) sm sm rfl) rfl rfl<|Ca rfl (dh _ _)<|aa<|?_
 refine ⟨_,_,rfl,hGF,by intro x hx;simp only[List.mem_cons,List.not_mem_nil,or_false]at hx;rcases hx with rfl|rfl|rfl<;>rfl,by intro x hx;simp only[List.mem_cons,List.not_mem_nil,or_false]at hx;rcases hx with rfl|rfl|rfl<;>rfl,fun adr=> ?_⟩
 refine Sa 5 hGF rfl rfl rfl aH<|Sa 6 hGF rfl rfl rfl aH<|Sa 7 hGF rfl rfl rfl aH<|aa<|Xa [0,1,2,3,4,5,6,7,8,9,10,11,12,13,14] ⟨15,8,92,(fe 0++fe 0).map U64⟩ [16] (bS rfl zv92 rfl)<|Fa 0 rfl underlying231 rfl sizeOf92<|av 2 _ rfl rfl isAgg92 sizeOf92 sm dR rfl rfl<|Fa 12 rfl underlying231 rfl sizeOf92<|av 2 _ rfl rfl isAgg92 sizeOf92 sm (kQ sm) rfl rfl<|Ca rfl (eH _ _)<|Fa 0 rfl underlying231 rfl sizeOf92<|av 3 _ rfl rfl isAgg92 sizeOf92 sm dR rfl rfl<|Fa 12 rfl underlying231 rfl sizeOf92<|av 3 _ rfl rfl isAgg92 sizeOf92 sm (kQ sm) rfl rfl<|Ca rfl (eH _ _)<|Ca rfl (dh _ _)<|La 5 rfl rfl aH<|Ca rfl (jT _ _)<|La 6 rfl rfl aH<|Ca rfl (jT _ _)<|aa<|?_
 refine ⟨_,_,rfl,hGF,by intro x hx;simp only[List.mem_cons,List.not_mem_nil,or_false]at hx;subst hx;rfl,by intro x hx;simp only[List.mem_cons,List.not_mem_nil,or_false]at hx;subst hx;rfl,fun adr=> ?_⟩
 refine Sa 8 hGF rfl rfl rfl aH<|aa<|Xa [0,1,2,3,4,5,6,7,8,9,10,11,12,13,14] ⟨15,9,92,(fe 0++fe 0).map U64⟩ [16] (bS rfl zv92 rfl)<|Fa 0 rfl underlying231 rfl sizeOf92<|av 2 _ rfl rfl isAgg92 sizeOf92 sm dR rfl rfl<|Fa 24 rfl underlying231 rfl sizeOf92<|av 2 _ rfl rfl isAgg92 sizeOf92 sm (gq (m:=12) (n:=12) sm sm rfl) rfl rfl<|Ca rfl (eH _ _)<|Fa 0 rfl underlying231 rfl sizeOf92<|av 3 _ rfl rfl isAgg92 sizeOf92 sm dR rfl rfl<|Fa 24 rfl underlying231 rfl sizeOf92<|av 3 _ rfl rfl isAgg92 sizeOf92 sm (gq (m:=12) (n:=12) sm sm rfl) rfl rfl<|Ca rfl (eH _ _)<|Ca rfl (dh _ _)<|La 5 rfl rfl aH<|Ca rfl (jT _ _)<|La 7 rfl rfl aH<|Ca rfl (jT _ _)<|aa<|?_
 refine ⟨_,_,rfl,hGF,by intro x hx;simp only[List.mem_cons,List.not_mem_nil,or_false]at hx;subst hx;rfl,by intro x hx;simp only[List.mem_cons,List.not_mem_nil,or_false]at hx;subst hx;rfl,fun adr=> ?_⟩
 refine Sa 9 hGF rfl rfl rfl aH<|aa<|Xa [0,1,2,3,4,5,6,7,8,9,10,11,12,13,14] ⟨15,10,92,(fe 0++fe 0).map U64⟩ [16] (bS rfl zv92 rfl)<|Fa 12 rfl underlying231 rfl sizeOf92<|av 2 _ rfl rfl isAgg92 sizeOf92 sm (kQ sm) rfl rfl<|Fa 24 rfl underlying231 rfl sizeOf92<|av 2 _ rfl rfl isAgg92 sizeOf92 sm (gq (m:=12) (n:=12) sm sm rfl) rfl rfl<|Ca rfl (eH _ _)<|Fa 12 rfl underlying231 rfl sizeOf92<|av 3 _ rfl rfl isAgg92 sizeOf92 sm (kQ sm) rfl rfl<|Fa 24 rfl underlying231 rfl sizeOf92<|av 3 _ rfl rfl isAgg92 sizeOf92 sm (gq (m:=12) (n:=12) sm sm rfl) rfl rfl<|Ca rfl (eH _ _)<|Ca rfl (dh _ _)<|La 6 rfl rfl aH<|Ca rfl (jT _ _)<|La 7 rfl rfl aH<|Ca rfl (jT _ _)<|aa<|?_
 refine ⟨_,_,rfl,hGF,by intro x hx;simp only[List.mem_cons,List.not_mem_nil,or_false]at hx;subst hx;rfl,by intro x hx;simp only[List.mem_cons,List.not_mem_nil,or_false]at hx;subst hx;rfl,fun adr=> ?_⟩
 refine Sa 10 hGF rfl rfl rfl aH<|aa<|Xd []<|La 5 rfl rfl aH<|La 10 rfl rfl aH<|Ca rfl (AO _)<|Ca rfl (eH _ _)<|La 8 rfl rfl aH<|La 7 rfl rfl aH<|Ca rfl (AO _)<|Ca rfl (eH _ _)<|La 9 rfl rfl aH<|La 6 rfl rfl aH<|Ca rfl (eH _ _)<|eo kt rfl rfl rfl sm sm sm rfl rfl<|Sa 4 hGF rfl rfl rfl de<|aa<|am<|Rr<|?_
 exact ay 4 rfl rfl rfl isAgg231 sizeOf231 sm (fun w hw=>⟨e6 (zq R2 [x.1,x.2.1,x.2.2,y.1,y.2.1,y.2.2,XI] (ta (tm j0 j3) (txi 6 (tsb (tsb (tm (ta j1 j2) (ta j4 j5)) (tm j1 j4)) (tm j2 j5)) rfl)) (ta (tm j0 j3) (tm j6 (ta (tm j1 j5) (tm j2 j4))))) (zq R2 [x.1,x.2.1,x.2.2,y.1,y.2.1,y.2.2,XI] (ta (tsb (tsb (tm (ta j0 j1) (ta j3 j4)) (tm j0 j3)) (tm j1 j4)) (txi 6 (tm j2 j5) rfl)) (ta (ta (tm j0 j4) (tm j1 j3)) (tm j6 (tm j2 j5)))) (zq R2 [x.1,x.2.1,x.2.2,y.1,y.2.1,y.2.2,XI] (ta (tsb (tsb (tm (ta j0 j2) (ta j3 j5)) (tm j0 j3)) (tm j2 j5)) (tm j1 j4)) (ta (ta (tm j0 j5) (tm j1 j4)) (tm j2 j3))),ac hw⟩)
def TO57:Tb prog Gt:=TO56.add (cB (g:=K6.mul) ent242 mm)
theorem mA(x:W6):PUR 276 [EV6 x] (EV6 (K6.mul x x)):=by
 intro w hw
 refine Hf func276 rfl hw<|fun hGF=>Xp<|Bx 1 hGF rfl<|fun b1=>Al 2 hGF zv231<|fun b2=>aa<|eT (E:=EE [2999999]) [0,1,2,3,4,5] [⟨6,3,92,(fe 0++fe 0).map U64⟩,⟨7,4,92,(fe 0++fe 0).map U64⟩] [8,9] dC rfl kr kr kr kr kr kr dc (by intro x hx;simp only[List.mem_cons,List.not_mem_nil,or_false]at hx;rcases hx with rfl|rfl<;>exact bS rfl zv92 rfl)<|Fa 0 rfl underlying231 rfl sizeOf92<|av 1 _ rfl rfl isAgg92 sizeOf92 sm dR rfl rfl<|Ca rfl (h9 _)<|Fa 24 rfl underlying231 rfl sizeOf92<|av 1 _ rfl rfl isAgg92 sizeOf92 sm (gq (m:=12) (n:=12) sm sm rfl) rfl rfl<|Ca rfl (h9 _)<|aa<|?_
 refine ⟨_,_,rfl,hGF,by intro x hx;simp only[List.mem_cons,List.not_mem_nil,or_false]at hx;rcases hx with rfl|rfl<;>rfl,by intro x hx;simp only[List.mem_cons,List.not_mem_nil,or_false]at hx;rcases hx with rfl|rfl<;>rfl,fun adr=> ?_⟩
 refine Sa 3 hGF rfl rfl rfl aH<|Sa 4 hGF rfl rfl rfl aH<|aa<|eT (E:=EE [2999999]) [0,1,2,3,4,5,6,7,8,9] [⟨10,5,92,(fe 0++fe 0).map U64⟩,⟨11,6,92,(fe 0++fe 0).map U64⟩] [12,13] dC rfl kr kr kr kr kr kr dc (by intro x hx;simp only[List.mem_cons,List.not_mem_nil,or_false]at hx;rcases hx with rfl|rfl<;>exact bS rfl zv92 rfl)<|Fa 0 rfl underlying231 rfl sizeOf92<|av 1 _ rfl rfl isAgg92 sizeOf92 sm dR rfl rfl<|Fa 12 rfl underlying231 rfl sizeOf92<|av 1 _ rfl rfl isAgg92 sizeOf92 sm (kQ sm) rfl rfl<|Ca rfl (dh _ _)<|Fa 12 rfl underlying231 rfl sizeOf92<|av 1 _ rfl rfl isAgg92 sizeOf92 sm (kQ sm) rfl rfl<|Fa 24 rfl underlying231 rfl sizeOf92<|av 1 _ rfl rfl isAgg92 sizeOf92 sm (gq (m:=12) (n:=12) sm sm rfl) rfl rfl<|Ca rfl (dh _ _)<|aa<|?_
 refine ⟨_,_,rfl,hGF,by intro x hx;simp only[List.mem_cons,List.not_mem_nil,or_false]at hx;rcases hx with rfl|rfl<;>rfl,by intro x hx;simp only[List.mem_cons,List.not_mem_nil,or_false]at hx;rcases hx with rfl|rfl<;>rfl,fun adr=> ?_⟩
 refine Sa 5 hGF rfl rfl rfl aH<|Sa 6 hGF rfl rfl rfl aH<|aa<|Xd []<|La 5 rfl rfl aH<|La 5 rfl rfl aH<|Ca rfl (eH _ _)<|La 6 rfl rfl aH<|La 6 rfl rfl aH<|Ca rfl (eH _ _)<|Sa 5 hGF rfl rfl rfl aH<|Sa 6 hGF rfl rfl rfl aH<|aa<|Xa [0,1,2,3,4,5,6,7,8] ⟨9,7,92,(fe 0++fe 0).map U64⟩ [10] (bS rfl zv92 rfl)<|Fa 0 rfl underlying231 rfl sizeOf92<|av 1 _ rfl rfl isAgg92 sizeOf92 sm dR rfl rfl<|Fa 12 rfl underlying231 rfl sizeOf92<|av 1 _ rfl rfl isAgg92 sizeOf92 sm (kQ sm) rfl rfl<|Ca rfl (jT _ _)<|Fa 24 rfl underlying231 rfl sizeOf92<|av 1 _ rfl rfl isAgg92 sizeOf92 sm (gq (m:=12) (n:=12) sm sm rfl) rfl rfl<|Ca rfl (eH _ _)<|Ca rfl (h9 _)<|aa<|?_
 refine ⟨_,_,rfl,hGF,by intro x hx;simp only[List.mem_cons,List.not_mem_nil,or_false]at hx;subst hx;rfl,by intro x hx;simp only[List.mem_cons,List.not_mem_nil,or_false]at hx;subst hx;rfl,fun adr=> ?_⟩
 refine Sa 7 hGF rfl rfl rfl aH<|aa<|Xd []<|La 3 rfl rfl aH<|La 6 rfl rfl aH<|Ca rfl (AO _)<|Ca rfl (eH _ _)<|La 5 rfl rfl aH<|La 4 rfl rfl aH<|Ca rfl (AO _)<|Ca rfl (eH _ _)<|La 7 rfl rfl aH<|La 5 rfl rfl aH<|Ca rfl (eH _ _)<|La 6 rfl rfl aH<|Ca rfl (eH _ _)<|La 3 rfl rfl aH<|Ca rfl (jT _ _)<|La 4 rfl rfl aH<|Ca rfl (jT _ _)<|eo kt rfl rfl rfl sm sm sm rfl rfl<|Sa 2 hGF rfl rfl rfl de<|aa<|am<|Rr<|?_
 exact ay 2 rfl rfl rfl isAgg231 sizeOf231 sm (fun w hw=>⟨e6 (zq R2 [x.1,x.2.1,x.2.2,XI] (ta (tm j0 j0) (txi 3 (ta (tm j1 j2) (tm j1 j2)) rfl)) (ta (tm j0 j0) (tm j3 (ta (tm j1 j2) (tm j2 j1))))) (zq R2 [x.1,x.2.1,x.2.2,XI] (ta (ta (tm j0 j1) (tm j0 j1)) (txi 3 (tm j2 j2) rfl)) (ta (ta (tm j0 j1) (tm j1 j0)) (tm j3 (tm j2 j2)))) (zq R2 [x.1,x.2.1,x.2.2,XI] (tsb (tsb (ta (ta (tm (ta (tsb j0 j1) j2) (ta (tsb j0 j1) j2)) (ta (tm j0 j1) (tm j0 j1))) (ta (tm j1 j2) (tm j1 j2))) (tm j0 j0)) (tm j2 j2)) (ta (ta (tm j0 j2) (tm j1 j1)) (tm j2 j0))),ac hw⟩)
def TO58:Tb prog Gt:=TO57.add (cF (g:=fun x=>K6.mul x x) ent276 mA)
theorem zd(x:W6)(c:W2):PUR 249 [EV6 x,EV2 c] (EV6 (sc6 x c)):=by
 intro w hw
 have hGF:BOk Gt (pl w):=gt_low.plain hw
 refine bV (G:=Gt) func249 rfl rfl (Hp (pl w) []) (bO (pl w) trivial ak) (au hGF)<|ae (E:=EE [252])<|Bx 2 hGF rfl<|fun b2=>Bx 3 hGF rfl<|fun b3=>Al 4 hGF zv231<|fun b4=>aa<|ae (E:=EE [252])<|Al 5 hGF zv288<|fun b5=>aa<|ah<|ae (E:=EE [252])<|La 2 rfl rfl de<|?_
 refine cV rfl rfl ent252 rfl rfl (fun w' hw'=>(lh x w' (hGF.g _ _ _ hw')).mono fun e' w'' h=> ?_)
 obtain ⟨c1,rfl,hg,h1,ho⟩:=h
 refine ⟨_,_,rfl,au hGF,hw'.news ak hg [(33,c1,((fe (x.1).1++fe (x.1).2)++((fe (x.2.1).1++fe (x.2.1).2)++(fe (x.2.2).1++fe (x.2.2).2))).map U64,231)] ?_ bN, ?_⟩
 ·intro n' b' c' t' hl
  rcases aC hl with ⟨_,e⟩|⟨_,hl⟩
  ·cases e;exact ⟨h1,ho⟩
  ·cases hl
 clear hw' hg h1 ho
 refine aa<|aj<|?_
 refine ef (fun _=>pl w) (fun _ _=>pl w) (fun _=>hGF) (fun _ _=>hGF) (fun _=>rfl) (fun _ _=>rfl) rfl rfl ent280 (MC c1 x) (fun v hv=>by obtain ⟨k,hk,rfl⟩:=List.mem_map.1 hv;rfl) rfl (fun k=>[(2,b2,((fe (x.1).1++fe (x.1).2)++((fe (x.2.1).1++fe (x.2.1).2)++(fe (x.2.2).1++fe (x.2.2).2))).map U64,231),(3,b3,(fe c.1++fe c.2).map U64,92),(4,b4,((fe 0++fe 0)++((fe 0++fe 0)++(fe 0++fe 0))).map U64,231),(5,b5,(FM (FF (fun j=>if j<k then ml2 (p3 x j) c else ze2)) 3).map U64,288),(33,c1,((fe (x.1).1++fe (x.1).2)++((fe (x.2.1).1++fe (x.2.1).2)++(fe (x.2.2).1++fe (x.2.2).2))).map U64,231)]) (fun _ _ _=>False) ⟨rfl,rfl,rfl,congrArg (fun l=>some (b5,l,_)) (congrArg (List.map U64) (vt fun j _=>(if_neg (Nat.not_lt_zero j)).symm)),rfl,trivial⟩ (fun k _ w' h=>aO (n:=33) rfl w' h) ?_ ?_ (fun _ _ _ _ _ h=>h.elim)
 ·intro k v hx R hR
  obtain ⟨hk,rfl⟩:=Lq x k v hx
  refine ae (E:=EE [252])<|Asg rfl<|aa<|bC (E:=EE [252])<|cO 7 (hR (pl w) rfl hGF).1 zv92 rfl rfl<|fun b7=>ao 7 (hR (pl w) rfl hGF).1 rfl rfl rfl sizeOf92 sm sm (bk _) rfl<|aa<|?_
  refine ⟨rfl,_,rfl, ?_⟩
  refine aj<|bC (E:=EE [252])<|Mv rfl<|La 7 rfl rfl aH<|La 3 rfl rfl aH<|Ca rfl (dh _ _)<|eK (k) (12*(k)) rfl rfl underlying288 sizeOf92 om om om rfl rfl<|kH 5 ((FM (FF (fun j=>if j<k+1 then ml2 (p3 x j) c else ze2)) 3).map U64) (hR (pl w) rfl hGF).2.1 rfl rfl rfl sizeOf92 sm (bk _) (by simp;omega) (s4 _ _ (ml2 (p3 x k) c) 3 (k) _ om rfl (fun j _=>xD (fun j=>ml2 (p3 x j) c) (fun _=>ze2) k j)) rfl<|aa<|?_
  repeat (refine a7 ?_)
  exact ⟨_,rfl,trv⟩
 ·intro D hD
  rw[tJ]
  refine ae (E:=EE [252])<|La 5 rfl rfl Dq<|Ca rfl (k6of _)<|Sa 4 hD rfl rfl rfl de<|aa<|am<|Rr<|?_
  exact cP (.inl rfl) ak (ay 4 rfl rfl rfl isAgg231 sizeOf231 sm (fun w hw=>⟨e6 rfl rfl rfl,ac hw⟩))
theorem k6v(x:W6):PUR 244 [EV6 x] (EV6 (v6 x)):=(bQ (l1 (V6 _)) (V6 _) (pE TO58 func244 [.inl [x.1.1,x.1.2,x.2.1.1,x.2.1.2,x.2.2.1,x.2.2.2]] (.inl (.inl [(v6 x).1.1,(v6 x).1.2,(v6 x).2.1.1,(v6 x).2.1.2,(v6 x).2.2.1,(v6 x).2.2.2])) (let t0:=xi2 (x.2.2.1,x.2.2.2);(.inl (.inl [t0.1,t0.2,x.1.1,x.1.2,x.2.1.1,x.2.1.2]),[])) [] kr aI rfl))
def TO59:Tb prog Gt:=TO58.add (cF (g:=v6) ent244 k6v)
def oth(x:W6):W6:=(i3a x.1 x.2.1 x.2.2,i3b x.1 x.2.1 x.2.2,i3c x.1 x.2.1 x.2.2)
theorem qc(x:W6):PUR 292 [EV6 x] (EV6 (oth x)):=(bQ (l1 (V6 _)) (V6 _) (pE TO59 func292 [.inl [x.1.1,x.1.2,x.2.1.1,x.2.1.2,x.2.2.1,x.2.2.2]] (.inl (.inl [(oth x).1.1,(oth x).1.2,(oth x).2.1.1,(oth x).2.1.2,(oth x).2.2.1,(oth x).2.2.2])) (let t0:=ml2 (x.1.1,x.1.2) (x.1.1,x.1.2);let t1:=ml2 (x.2.1.1,x.2.1.2) (x.2.2.1,x.2.2.2);let t2:=xi2 (t1.1,t1.2);let t3:=sb2 (t0.1,t0.2) (t2.1,t2.2);let t4:=ml2 (x.2.2.1,x.2.2.2) (x.2.2.1,x.2.2.2);let t5:=xi2 (t4.1,t4.2);let t6:=ml2 (x.1.1,x.1.2) (x.2.1.1,x.2.1.2);let t7:=sb2 (t5.1,t5.2) (t6.1,t6.2);let t8:=ml2 (x.2.1.1,x.2.1.2) (x.2.1.1,x.2.1.2);let t9:=ml2 (x.1.1,x.1.2) (x.2.2.1,x.2.2.2);let t10:=sb2 (t8.1,t8.2) (t9.1,t9.2);(.inl (.inl [t3.1,t3.2,t7.1,t7.2,t10.1,t10.2]),[])) [] kr aI rfl))
def TO60:Tb prog Gt:=TO59.add (cF (g:=oth) ent292 qc)
theorem Tu(x:W6):ad2 (xi2 (ad2 (ml2 x.2.1 (oth x).2.2) (ml2 x.2.2 (oth x).2.1))) (ml2 x.1 (oth x).1)=i3n x.1 x.2.1 x.2.2:=by
 show R2.add (xi2 (R2.add _ _)) _=R2.add _ (xi2 (R2.add _ _))
 rw[R2.add_comm,R2.add_comm (ml2 x.2.1 (oth x).2.2)]
 rfl
theorem FT(x:W6)(c:W2):PUR 249 [EV6 (oth x),EV2 c] (EV6 (sc6 (oth x) c)):=zd (oth x) c
theorem Cd(x:W6):PUR 277 [EV6 x] (EV6 (iv6 x)):=by
 intro w hw
 refine Hf func277 rfl hw<|fun hGF=>Xp<|Bx 1 hGF rfl<|fun b1=>Al 2 hGF zv231<|fun b2=>aa<|Xp<|La 1 rfl rfl de<|Ca rfl (qc _)<|Al 3 hGF zv231<|fun b3=>Sa 3 hGF rfl rfl rfl de<|aa<|Xa [0,1,2,3,4,5,6,7,8,9,10,11,12,13,14,15,16,17] ⟨18,4,92,(fe 0++fe 0).map U64⟩ [19] (bS rfl zv92 rfl)<|Fa 12 rfl underlying231 rfl sizeOf92<|av 1 _ rfl rfl isAgg92 sizeOf92 sm (kQ sm) rfl rfl<|Fa 24 rfl underlying231 rfl sizeOf92<|av 3 _ rfl rfl isAgg92 sizeOf92 sm (gq (m:=12) (n:=12) sm sm rfl) rfl rfl<|Ca rfl (dh _ _)<|Fa 24 rfl underlying231 rfl sizeOf92<|av 1 _ rfl rfl isAgg92 sizeOf92 sm (gq (m:=12) (n:=12) sm sm rfl) rfl rfl<|Fa 12 rfl underlying231 rfl sizeOf92<|av 3 _ rfl rfl isAgg92 sizeOf92 sm (kQ sm) rfl rfl<|Ca rfl (dh _ _)<|Ca rfl (eH _ _)<|Ca rfl (AO _)<|Fa 0 rfl underlying231 rfl sizeOf92<|av 1 _ rfl rfl isAgg92 sizeOf92 sm dR rfl rfl<|Fa 0 rfl underlying231 rfl sizeOf92<|av 3 _ rfl rfl isAgg92 sizeOf92 sm dR rfl rfl<|Ca rfl (dh _ _)<|Ca rfl (eH _ _)<|aa<|?_
 refine ⟨_,_,rfl,hGF,by intro x hx;simp only[List.mem_cons,List.not_mem_nil,or_false]at hx;subst hx;rfl,by intro x hx;simp only[List.mem_cons,List.not_mem_nil,or_false]at hx;subst hx;rfl,fun adr=> ?_⟩
 refine Sa 4 hGF rfl rfl rfl aH<|aa<|Xd []<|La 3 rfl rfl de<|La 4 rfl rfl aH<|Ca rfl (DR _)<|Ca rfl (FT x _)<|Sa 2 hGF rfl rfl rfl de<|aa<|am<|Rr<|?_
 exact ay 2 rfl rfl rfl isAgg231 sizeOf231 sm (fun w hw=>⟨by rw[Tu];rfl,ac hw⟩)
def TO61:Tb prog Gt:=TO60.add (cF (g:=iv6) ent277 Cd)
end Q6
end
section
def g2:W2:=pw2 XI th
theorem QX(a:Zp):a+0=a:=by grind
theorem wN(x:W2): ∀n,nm2 (pw2 x n)=nm2 x^n
 |0=>by
  show nm2 on2=_
  rw[p0,nm2,on2]
  show (1:Zp)*1+0*0=1
  rw[nY,ib];exact QX 1
 |n+1=>by rw[nt,fT,wN x n,ps]
theorem DE(x:W2):cj2 (cj2 x)=x:=bx rfl (Ad _)
theorem JT(c g:W2):ml2 (cj2 (ml2 (cj2 c) g)) g=ml2 c (nm2 g,0):=by
 rw[fI,DE,show ml2 (ml2 c (cj2 g)) g=ml2 c (ml2 (cj2 g) g)from R2.mul_assoc _ _ _,show ml2 (cj2 g) g=ml2 g (cj2 g)from R2.mul_comm _ _,PO]
end
section
theorem Ss(a:Zp):a-0=a:=by grind
theorem Td(a:Zp):0-a= -a:=by grind
theorem OW(a:Zp):0+a=a:=by grind
theorem sB{a b:Zp}(h:a+b=0): -a=b:=by grind
theorem U7:pw2 XI 2=(0,zp 2):=by decide+kernel
theorem D6(a b:Zp):ml2 (a,0) (0,b)=(0,a*b):=bx (by simp only[ml2];rw[ib,tL,Ss]) (by simp only[ml2];rw[ib,QX])
theorem Fh(a b:Zp):ml2 (0,a) (0,b)=(-(a*b),0):=bx (by simp only[ml2];rw[ib,Td]) (by simp only[ml2];rw[tL,ib,QX])
theorem im_4(c:Zp):pw2 (0,c) 4=(c^4,0):=by
 show ml2 (ml2 (ml2 (ml2 on2 (0,c)) (0,c)) (0,c)) (0,c)=_
 rw[show ml2 on2 (0,c)=(0,c)from R2.one_mul _,Fh,D6,Fh]
 exact bx (by grind) rfl
theorem im_3(c:Zp):pw2 (0,c) 3=(0,-(c^3)):=by
 show ml2 (ml2 (ml2 on2 (0,c)) (0,c)) (0,c)=_
 rw[show ml2 on2 (0,c)=(0,c)from R2.one_mul _,Fh,D6]
 exact bx rfl (by grind)
theorem Ml(c:Zp): ∀s,pw2 (0,c) (4*s)=(c^(4*s),0)
 |0=>by show on2=_;rw[Nat.mul_zero,p0];rfl
 |s+1=>by rw[Nat.mul_succ,rT,Ml c s,im_4,mZ,qG]
theorem Sg(c:Zp)(s:Nat):pw2 (0,c) (4*s+3)=(0,-(c^(4*s+3))):=by
 rw[rT,Ml,im_3,D6,qG]
 exact bx rfl (by grind)
def cjn(n:Nat)(x:W2):W2:=if n % 2=1 then cj2 x else x
theorem RP(n:Nat)(x:W2):cj2 (cjn n x)=cjn (n+1) x:=by
 rw[cjn,cjn]
 by_cases h:n % 2=1
 ·rw[if_pos h,if_neg om,DE]
 ·rw[if_neg h,if_pos om]
theorem wq(a b c:W2):ml2 (ml2 a b) c=ml2 a (ml2 b c):=R2.mul_assoc a b c
end
section
/-! ### The powers of p -/
theorem g8(x y:W12):bP (K12.mul x y)=K12.mul (bP x) (bP y):=by
 rw[←fb,←fb,←fb,K12.mul_pw]
theorem vG(x y:W12):bP (K12.add x y)=K12.add (bP x) (bP y):=by
 rw[←fb,←fb,←fb,iV]
def jF(x:W12):Nat→W12
 |0=>x
 |n+1=>bP (jF x n)
theorem oM(x:W12)(m:Nat): ∀n,jF x (m+n)=jF (jF x m) n
 |0=>rfl
 |n+1=>by rw[←Nat.add_assoc,jF,oM x m n];rfl
theorem ug(x y:W12): ∀n,jF (K12.mul x y) n=K12.mul (jF x n) (jF y n)
 |0=>rfl
 |n+1=>by rw[jF,ug x y n,g8];rfl
def AM(z:Zp)(x:W12):W12:=((ml2 x.1.1 (z^0,0),ml2 x.1.2.1 (z^2,0),ml2 x.1.2.2 (z^4,0)),(ml2 x.2.1 (z^1,0),ml2 x.2.2.1 (z^3,0),ml2 x.2.2.2 (z^5,0)))
theorem mX(c:W2)(a b:Zp)(k:Nat):ml2 (ml2 c (b^k,0)) (a^k,0)=ml2 c ((a*b)^k,0):=by
 rw[wq,mZ]
 have e:b^k*a^k=(a*b)^k:=by
  induction k with
  |zero=>rw[p0,p0,p0];exact nY
  |succ k ih=>rw[ps,ps,ps,←ih];grind
 rw[e]
theorem zX(a b:Zp)(x:W12):AM a (AM b x)=AM (a*b) x:=
 Prod.ext (Prod.ext (mX _ _ _ _) (Prod.ext (mX _ _ _ _) (mX _ _ _ _))) (Prod.ext (mX _ _ _ _) (Prod.ext (mX _ _ _ _) (mX _ _ _ _)))
def ZE:Zp:=nm2 GA
theorem UD(k:Nat):nm2 (pw2 GA k)=ZE^k:=wN GA k
theorem kA(c:W2)(k:Nat):ml2 (cj2 (ml2 (cj2 c) (pw2 GA k))) (pw2 GA k)=ml2 c (ZE^k,0):=by rw[JT,UD]
theorem pO(x:W12):bP (bP x)=AM ZE x:=
 Prod.ext (Prod.ext (kA _ _) (Prod.ext (kA _ _) (kA _ _))) (Prod.ext (kA _ _) (Prod.ext (kA _ _) (kA _ _)))
theorem PU:ZE=zp 2^sx:=by rw[ZE,GA,wN,E3]
theorem UC:sx*3=hf:=by decide+kernel
theorem Re{a:Zp}(h:a*a=1)(h1:a≠1):a= -1:=by
 have e:(a-1)*(a+1)=0:=by grind
 rcases kW e with e|e
 ·exact absurd (by grind) h1
 ·grind
theorem Q9:hf+hf=PP-1:=by decide+kernel
theorem JW:zp 2^hf= -1:=Re (by rw[←qG,Q9,fermat rN]) Dt
theorem Fc:ZE*(ZE*ZE)= -1:=by
 have e:ZE*(ZE*ZE)=ZE^3:=by generalize ZE=a;grind
 rw[e,PU,←Dn,UC,JW]
theorem A8(x:W12):jF x 6=AM (ZE*(ZE*ZE)) x:=by
 show bP (bP (bP (bP (bP (bP x)))))=_
 rw[pO x,pO (AM ZE x),pO,zX ZE ZE x,zX]
def ca(x:W12):W12:=(x.1,K6.neg x.2)
theorem sR(c:W2)(n:Nat):ml2 c ((-1:Zp)^(2*n),0)=c:=by
 have e:(-1:Zp)^(2*n)=1:=by
  induction n with
  |zero=>exact p0 _
  |succ n ih=>rw[Nat.mul_succ,qG,ih];generalize hm:(-1:Zp)=a;have:a*a=1:=by rw[←hm,z_nn,nY]
              grind
 rw[e];exact R2.mul_one c
theorem wW(c:W2)(n:Nat):ml2 c ((-1:Zp)^(2*n+1),0)=ng2 c:=by
 have e:ml2 c ((-1:Zp)^(2*n+1),0)=ml2 (ml2 c ((-1:Zp)^(2*n),0)) (-1,0):=by rw[wq,mZ,ps]
 rw[e,sR]
 generalize hm:(-1:Zp)=a
 refine bx ?_ ?_
 ·show c.1*a-c.2*0= -c.1
  rw[ib,Ss,←hm];grind
 ·show c.1*0+c.2*a= -c.2
  rw[ib,OW,←hm];grind
theorem iT(x:W12):jF x 6=ca x:=by
 rw[A8,Fc]
 exact Prod.ext (Prod.ext (sR _ 0) (Prod.ext (sR _ 1) (sR _ 2))) (Prod.ext (wW _ 0) (Prod.ext (wW _ 1) (wW _ 2)))
theorem n4(x:W12):ca (ca x)=x:=Prod.ext rfl (K6.neg_neg x.2)
theorem nL(x:W12):jF x 12=x:=by rw[show 12=6+6 from rfl,oM,iT,iT,n4]
/-! ### The conjugate's laws -/
theorem iW(x y:W12):ca (K12.mul x y)=K12.mul (ca x) (ca y):=by rw[←iT,←iT,←iT,ug]
theorem gP:ca K12.one=K12.one:=Prod.ext rfl K6.neg_zero
theorem wU:K12.one≠K12.zero:=by decide+kernel
theorem tvv{ρ:Nat→W6}{p:Po}{a:W6}(k:Nat)(ha:K6.d ρ p=a)(hk:ρ k=VV):K6.d ρ (jJ p (pv k))=v6 a:=by rw[K6.d_mul,ha,K6.d_var,hk];exact xZ a
theorem Gm{ρ:Nat→W6}{p q:Po}{a b:W6}(ha:K6.d ρ p=a)(hb:K6.d ρ q=b):K6.d ρ (gt p (k9 q))=sb6 a b:=by rw[K6.d_add,K6.d_neg,ha,hb,vK]
end
section
open Go.RowKit
theorem ent219:ai prog 219:=fun _ _=>kr
theorem ent180:ai prog 180:=fun _ _=>kr
theorem ent274:ai prog 274:=fun _ _=>kr
theorem ent236:ai prog 236:=fun _ _=>kr
theorem ent238:ai prog 238:=fun _ _=>kr
theorem ent235:ai prog 235:=fun _ _=>kr
theorem ent215:ai prog 215:=fun _ _=>kr
theorem ent179:ai prog 179:=fun _ _=>kr
namespace Q6
attribute [local simp] aW bd aU aP aD bf aL aK aB PLl cm cq N1l cr cp cu a8 bg aQ a6 bc eI
attribute [local simp] pt dp
abbrev ci(x:W12):Value:=aT (((fe (x.1.1).1++fe (x.1.1).2)++((fe (x.1.2.1).1++fe (x.1.2.1).2)++(fe (x.1.2.2).1++fe (x.1.2.2).2)))++((fe (x.2.1).1++fe (x.2.1).2)++((fe (x.2.2.1).1++fe (x.2.2.1).2)++(fe (x.2.2.2).1++fe (x.2.2.2).2))))
theorem zv233(w:World):(zeroValue 233).run prog w=.ok (aT (((fe 0++fe 0)++((fe 0++fe 0)++(fe 0++fe 0)))++((fe 0++fe 0)++((fe 0++fe 0)++(fe 0++fe 0))))) w:=by rw[kO];exact (zeroValue233 w).trans rr
theorem sJ:Two prog 233 ⟨ "C0",231,0,false, "", "",0⟩ ⟨ "C1",231,36,false, "", "",288⟩ 36 36 ((fe 0++fe 0)++((fe 0++fe 0)++(fe 0++fe 0))) ((fe 0++fe 0)++((fe 0++fe 0)++(fe 0++fe 0))):=⟨underlying233,rfl,rfl,sizeOf231,sizeOf231,zv233,sm,sm⟩
theorem e12{a b a' b':W6}(h1:a=a')(h2:b=b'):Ending.returned (ci (a,b))=.returned (ci (a',b')):=by rw[h1,h2]
theorem Jh{x y:W12}(h:x.1=y.1):decide (x.2=y.2)=decide (x=y):=decide_eq_decide.2 ⟨fun e=>Prod.ext h e,fun e=>by rw[e]⟩
theorem Jq{x y:W12}(h: ¬x.1=y.1):false=decide (x=y):=(decide_eq_false fun e=>h (by rw[e])).symm
def p12(x:W12):Nat→W2
 |0=>x.1.1
 |1=>x.2.1
 |2=>x.1.2.1
 |3=>x.2.2.1
 |4=>x.1.2.2
 |_=>x.2.2.2
def q12:Sh W12:=q6.two q6 6
theorem V12(x:W12):ci x=dn rid (.inl [x.1.1.1,x.1.1.2,x.1.2.1.1,x.1.2.1.2,x.1.2.2.1,x.1.2.2.2,x.2.1.1,x.2.1.2,x.2.2.1.1,x.2.2.1.2,x.2.2.2.1,x.2.2.2.2]):=by
 show Value.agg _=Value.agg _
 rw[clv,show cel [x.1.1.1,x.1.1.2,x.1.2.1.1,x.1.2.1.2,x.1.2.2.1,x.1.2.2.2,x.2.1.1,x.2.1.2,x.2.2.1.1,x.2.2.1.2,x.2.2.2.1,x.2.2.2.2]=fe x.1.1.1++(fe x.1.1.2++(fe x.1.2.1.1++(fe x.1.2.1.2++(fe x.1.2.2.1++(fe x.1.2.2.2++(fe x.2.1.1++(fe x.2.1.2++(fe x.2.2.1.1++(fe x.2.2.1.2++(fe x.2.2.2.1++fe x.2.2.2.2))))))))))from rfl]
 simp only[List.append_assoc]
end Q6
end
section
open Go.RowKit
namespace Q6
attribute [local simp] aW bd aU aP aD bf aL aK aB PLl cm cq N1l cr cp cu a8 bg aQ a6 bc eI
attribute [local simp] pt dp
theorem pW  :PUR 180 [] (ci K12.one):=(bQ rfl (V12 _) (pE TO61 func180 [] (.inl (.inl [K12.one.1.1.1,K12.one.1.1.2,K12.one.1.2.1.1,K12.one.1.2.1.2,K12.one.1.2.2.1,K12.one.1.2.2.2,K12.one.2.1.1,K12.one.2.1.2,K12.one.2.2.1.1,K12.one.2.2.1.2,K12.one.2.2.2.1,K12.one.2.2.2.2])) (let t0:=K6.one;(.inl (.inl [t0.1.1,t0.1.2,t0.2.1.1,t0.2.1.2,t0.2.2.1,t0.2.2.2,0,0,0,0,0,0]),[])) [] kr aI rfl))
theorem Cj{f:Nat}{g:W12}(en:ai prog f)(h:PUR f [] (ci g)):Snd prog Gt f (c0 q12.rd g):=uq q12.rd en (bQ rfl (V12 _).symm h)
def TO62:Tb prog Gt:=TO61.add (Cj (g:=K12.one) ent180 pW)
theorem qp(x y:W12):PUR 179 [ci x,ci y] (.bool (decide (x=y))):=by
 intro w hw
 have hGF:BOk Gt (pl w):=gt_low.plain hw
 by_cases h:x.1=y.1
 ·refine Hd func179 rfl hGF<|Xp<|Bx 2 hGF rfl<|fun b2=>Bx 3 hGF rfl<|fun b3=>Asg rfl<|aa<|Xp<|Fa 0 rfl underlying233 rfl sizeOf231<|av 2 _ rfl rfl isAgg231 sizeOf231 sm dR rfl rfl<|Fa 0 rfl underlying233 rfl sizeOf231<|av 3 _ rfl rfl isAgg231 sizeOf231 sm dR rfl rfl<|Cbl true rfl ent220 (n6 _ _) (decide_eq_true h)<|Mv rfl<|Fa 36 rfl underlying233 rfl sizeOf231<|av 2 _ rfl rfl isAgg231 sizeOf231 sm (iF sm) rfl rfl<|Fa 36 rfl underlying233 rfl sizeOf231<|av 3 _ rfl rfl isAgg231 sizeOf231 sm (iF sm) rfl rfl<|Ca rfl (n6 _ _)<|Pk rfl rfl rfl<|Asg rfl<|aa<|am<|Rr<|?_
  exact aE rfl rfl (fun w hw=>⟨rb (Jh h),ac hw⟩)
 ·refine Hd func179 rfl hGF<|Xp<|Bx 2 hGF rfl<|fun b2=>Bx 3 hGF rfl<|fun b3=>Asg rfl<|aa<|Xp<|Fa 0 rfl underlying233 rfl sizeOf231<|av 2 _ rfl rfl isAgg231 sizeOf231 sm dR rfl rfl<|Fa 0 rfl underlying233 rfl sizeOf231<|av 3 _ rfl rfl isAgg231 sizeOf231 sm dR rfl rfl<|Cbl false rfl ent220 (n6 _ _) (decide_eq_false h)<|Mv rfl<|Sk<|Sk<|Sk<|Sk<|Sk<|Pk rfl rfl rfl<|Asg rfl<|aa<|am<|Rr<|?_
  exact aE rfl rfl (fun w hw=>⟨rb (Jq h),ac hw⟩)
theorem iN{f:Nat}{g:W12→W12→Bool}(en:ai prog f)(h: ∀a b,PUR f [ci a,ci b] (.bool (g a b))):Snd prog Gt f (c2 q12.ag q12.ag rdB g):=ge q12.ag q12.ag rdB en (fun a b=>bQ (l2 (V12 _).symm (V12 _).symm) rfl (h a b))
def TO63:Tb prog Gt:=TO62.add (iN (g:=fun x y=>decide (x=y)) ent179 qp)
theorem gZ{f:Nat}{g:W12→W12→W12}(en:ai prog f)(h: ∀a b,PUR f [ci a,ci b] (ci (g a b))):Snd prog Gt f (c2 q12.ag q12.ag q12.rd g):=ge q12.ag q12.ag q12.rd en (fun a b=>bQ (l2 (V12 _).symm (V12 _).symm) (V12 _).symm (h a b))
theorem ol(x:W12):PUR 219 [ci x] (ci (ca x)):=(bQ (l1 (V12 _)) (V12 _) (pE TO63 func219 [.inl [x.1.1.1,x.1.1.2,x.1.2.1.1,x.1.2.1.2,x.1.2.2.1,x.1.2.2.2,x.2.1.1,x.2.1.2,x.2.2.1.1,x.2.2.1.2,x.2.2.2.1,x.2.2.2.2]] (.inl (.inl [(ca x).1.1.1,(ca x).1.1.2,(ca x).1.2.1.1,(ca x).1.2.1.2,(ca x).1.2.2.1,(ca x).1.2.2.2,(ca x).2.1.1,(ca x).2.1.2,(ca x).2.2.1.1,(ca x).2.2.1.2,(ca x).2.2.2.1,(ca x).2.2.2.2])) (let t0:=K6.neg ((x.2.1.1,x.2.1.2),(x.2.2.1.1,x.2.2.1.2),(x.2.2.2.1,x.2.2.2.2));(.inl (.inl [x.1.1.1,x.1.1.2,x.1.2.1.1,x.1.2.1.2,x.1.2.2.1,x.1.2.2.2,t0.1.1,t0.1.2,t0.2.1.1,t0.2.1.2,t0.2.2.1,t0.2.2.2]),[])) [] kr aI rfl))
theorem cK{f:Nat}{g:W12→W12}(en:ai prog f)(h: ∀a,PUR f [ci a] (ci (g a))):Snd prog Gt f (c1 q12.ag q12.rd g):=f8 q12.ag q12.rd en (fun a=>bQ (l1 (V12 _).symm) (V12 _).symm (h a))
def TO65:Tb prog Gt:=TO63.add (cK (g:=ca) ent219 ol)
theorem xg(x y:W12):PUR 236 [ci x,ci y] (ci (K12.mul x y)):=by
 intro w hw
 refine Hf func236 rfl hw<|fun hGF=>Xp<|Bx 2 hGF rfl<|fun b2=>Bx 3 hGF rfl<|fun b3=>Al 4 hGF zv233<|fun b4=>aa<|eT (E:=EE [2999999]) [0,1,2,3,4,5,6,7,8,9] [⟨10,5,231,((fe 0++fe 0)++((fe 0++fe 0)++(fe 0++fe 0))).map U64⟩,⟨11,6,231,((fe 0++fe 0)++((fe 0++fe 0)++(fe 0++fe 0))).map U64⟩] [12,13] dC rfl kr kr kr kr kr kr dc (by intro x hx;simp only[List.mem_cons,List.not_mem_nil,or_false]at hx;rcases hx with rfl|rfl<;>exact bS rfl zv231 rfl)<|Fa 0 rfl underlying233 rfl sizeOf231<|av 2 _ rfl rfl isAgg231 sizeOf231 sm dR rfl rfl<|Fa 0 rfl underlying233 rfl sizeOf231<|av 3 _ rfl rfl isAgg231 sizeOf231 sm dR rfl rfl<|Ca rfl (mm _ _)<|Fa 36 rfl underlying233 rfl sizeOf231<|av 2 _ rfl rfl isAgg231 sizeOf231 sm (iF sm) rfl rfl<|Fa 36 rfl underlying233 rfl sizeOf231<|av 3 _ rfl rfl isAgg231 sizeOf231 sm (iF sm) rfl rfl<|Ca rfl (mm _ _)<|aa<|?_
 refine ⟨_,_,rfl,hGF,by intro x hx;simp only[List.mem_cons,List.not_mem_nil,or_false]at hx;rcases hx with rfl|rfl<;>rfl,by intro x hx;simp only[List.mem_cons,List.not_mem_nil,or_false]at hx;rcases hx with rfl|rfl<;>rfl,fun adr=> ?_⟩
 refine Sa 5 hGF rfl rfl rfl de<|Sa 6 hGF rfl rfl rfl de<|aa<|Xa [0,1,2,3,4,5,6,7,8,9,10] ⟨11,7,231,((fe 0++fe 0)++((fe 0++fe 0)++(fe 0++fe 0))).map U64⟩ [12] (bS rfl zv231 rfl)<|Fa 0 rfl underlying233 rfl sizeOf231<|av 2 _ rfl rfl isAgg231 sizeOf231 sm dR rfl rfl<|Fa 36 rfl underlying233 rfl sizeOf231<|av 2 _ rfl rfl isAgg231 sizeOf231 sm (iF sm) rfl rfl<|Ca rfl (nq _ _)<|Fa 0 rfl underlying233 rfl sizeOf231<|av 3 _ rfl rfl isAgg231 sizeOf231 sm dR rfl rfl<|Fa 36 rfl underlying233 rfl sizeOf231<|av 3 _ rfl rfl isAgg231 sizeOf231 sm (iF sm) rfl rfl<|Ca rfl (nq _ _)<|Ca rfl (mm _ _)<|aa<|?_
 refine ⟨_,_,rfl,hGF,by intro x hx;simp only[List.mem_cons,List.not_mem_nil,or_false]at hx;subst hx;rfl,by intro x hx;simp only[List.mem_cons,List.not_mem_nil,or_false]at hx;subst hx;rfl,fun adr=> ?_⟩
 refine Sa 7 hGF rfl rfl rfl de<|aa<|Xd []<|La 5 rfl rfl de<|La 6 rfl rfl de<|Ca rfl (k6v _)<|Ca rfl (nq _ _)<|La 7 rfl rfl de<|La 5 rfl rfl de<|Ca rfl (ql _ _)<|La 6 rfl rfl de<|Ca rfl (ql _ _)<|cC sJ rfl rfl sm sm rfl rfl<|Sa 4 hGF rfl rfl rfl eQ<|aa<|am<|Rr<|?_
 exact ay 4 rfl rfl rfl isAgg233 sizeOf233 sm (fun w hw=>⟨e12 (zq K6 [x.1,x.2,y.1,y.2,VV] (ta (tm j0 j2) (tvv 4 (tm j1 j3) rfl)) (ta (tm j0 j2) (tm j4 (tm j1 j3)))) (zq K6 [x.1,x.2,y.1,y.2,VV] (Gm (Gm (tm (ta j0 j1) (ta j2 j3)) (tm j0 j2)) (tm j1 j3)) (ta (tm j0 j3) (tm j1 j2))),ac hw⟩)
def TO66:Tb prog Gt:=TO65.add (gZ (g:=K12.mul) ent236 xg)
theorem iO(x:W12):PUR 215 [ci x] (ci (K12.mul x x)):=by
 intro w hw
 refine Hf func215 rfl hw<|fun hGF=>Xp<|Bx 1 hGF rfl<|fun b1=>Al 2 hGF zv233<|fun b2=>aa<|Xp<|Fa 0 rfl underlying233 rfl sizeOf231<|av 1 _ rfl rfl isAgg231 sizeOf231 sm dR rfl rfl<|Fa 36 rfl underlying233 rfl sizeOf231<|av 1 _ rfl rfl isAgg231 sizeOf231 sm (iF sm) rfl rfl<|Ca rfl (mm _ _)<|Al 3 hGF zv231<|fun b3=>Sa 3 hGF rfl rfl rfl de<|aa<|Xa [0,1,2,3,4,5,6,7,8,9,10,11] ⟨12,4,231,((fe 0++fe 0)++((fe 0++fe 0)++(fe 0++fe 0))).map U64⟩ [13] (bS rfl zv231 rfl)<|Fa 0 rfl underlying233 rfl sizeOf231<|av 1 _ rfl rfl isAgg231 sizeOf231 sm dR rfl rfl<|Fa 36 rfl underlying233 rfl sizeOf231<|av 1 _ rfl rfl isAgg231 sizeOf231 sm (iF sm) rfl rfl<|Ca rfl (nq _ _)<|Fa 0 rfl underlying233 rfl sizeOf231<|av 1 _ rfl rfl isAgg231 sizeOf231 sm dR rfl rfl<|Fa 36 rfl underlying233 rfl sizeOf231<|av 1 _ rfl rfl isAgg231 sizeOf231 sm (iF sm) rfl rfl<|Ca rfl (k6v _)<|Ca rfl (nq _ _)<|Ca rfl (mm _ _)<|aa<|?_
 refine ⟨_,_,rfl,hGF,by intro x hx;simp only[List.mem_cons,List.not_mem_nil,or_false]at hx;subst hx;rfl,by intro x hx;simp only[List.mem_cons,List.not_mem_nil,or_false]at hx;subst hx;rfl,fun adr=> ?_⟩
 refine Sa 4 hGF rfl rfl rfl de<|aa<|Xd []<|La 4 rfl rfl de<|La 3 rfl rfl de<|Ca rfl (ql _ _)<|La 3 rfl rfl de<|Ca rfl (k6v _)<|Ca rfl (ql _ _)<|La 3 rfl rfl de<|La 3 rfl rfl de<|Ca rfl (nq _ _)<|cC sJ rfl rfl sm sm rfl rfl<|Sa 2 hGF rfl rfl rfl eQ<|aa<|am<|Rr<|?_
 exact ay 2 rfl rfl rfl isAgg233 sizeOf233 sm (fun w hw=>⟨e12 (zq K6 [x.1,x.2,VV] (Gm (Gm (tm (ta j0 j1) (ta j0 (tvv 2 j1 rfl))) (tm j0 j1)) (tvv 2 (tm j0 j1) rfl)) (ta (tm j0 j0) (tm j2 (tm j1 j1)))) (zq K6 [x.1,x.2,VV] (ta (tm j0 j1) (tm j0 j1)) (ta (tm j0 j1) (tm j1 j0))),ac hw⟩)
def TO67:Tb prog Gt:=TO66.add (cK (g:=fun x=>K12.mul x x) ent215 iO)
theorem Oi(x:W12):sb6 (K6.mul x.1 x.1) (v6 (K6.mul x.2 x.2))=qnm K6 VV x:=zq K6 [x.1,x.2,VV] (Gm (tm j0 j0) (tvv 2 (tm j1 j1) rfl)) (ta (tm j0 j0) (tn (tm j2 (tm j1 j1))))
theorem Su(x:W12)(n:W6):K6.mul x.1 n=K6.add (K6.mul x.1 n) (K6.mul VV (K6.mul (K6.neg x.2) K6.zero)):=zq K6 [x.1,x.2,n,VV] (tm j0 j2) (ta (tm j0 j2) (tm j3 (tm (tn j1) tz0)))
theorem VA(x:W12)(n:W6):K6.neg (K6.mul x.2 n)=K6.add (K6.mul x.1 K6.zero) (K6.mul (K6.neg x.2) n):=zq K6 [x.1,x.2,n] (tn (tm j1 j2)) (ta (tm j0 tz0) (tm (tn j1) j2))
theorem EK(x:W12):PUR 238 [ci x] (ci (iC x)):=by
 intro w hw
 refine Hf func238 rfl hw<|fun hGF=>Xp<|Bx 1 hGF rfl<|fun b1=>Al 2 hGF zv233<|fun b2=>aa<|Xa [0,1,2,3,4,5,6,7] ⟨8,3,231,((fe 0++fe 0)++((fe 0++fe 0)++(fe 0++fe 0))).map U64⟩ [9] (bS rfl zv231 rfl)<|Fa 0 rfl underlying233 rfl sizeOf231<|av 1 _ rfl rfl isAgg231 sizeOf231 sm dR rfl rfl<|Ca rfl (mA _)<|Fa 36 rfl underlying233 rfl sizeOf231<|av 1 _ rfl rfl isAgg231 sizeOf231 sm (iF sm) rfl rfl<|Ca rfl (mA _)<|Ca rfl (k6v _)<|Ca rfl (ql _ _)<|aa<|?_
 refine ⟨_,_,rfl,hGF,by intro x hx;simp only[List.mem_cons,List.not_mem_nil,or_false]at hx;subst hx;rfl,by intro x hx;simp only[List.mem_cons,List.not_mem_nil,or_false]at hx;subst hx;rfl,fun adr=> ?_⟩
 refine Sa 3 hGF rfl rfl rfl de<|aa<|Xp<|La 3 rfl rfl de<|Ca rfl (Cd _)<|Al 4 hGF zv231<|fun b4=>Sa 4 hGF rfl rfl rfl de<|aa<|Xd []<|Fa 0 rfl underlying233 rfl sizeOf231<|av 1 _ rfl rfl isAgg231 sizeOf231 sm dR rfl rfl<|La 4 rfl rfl de<|Ca rfl (mm _ _)<|Fa 36 rfl underlying233 rfl sizeOf231<|av 1 _ rfl rfl isAgg231 sizeOf231 sm (iF sm) rfl rfl<|La 4 rfl rfl de<|Ca rfl (mm _ _)<|Ca rfl (Ea _)<|cC sJ rfl rfl sm sm rfl rfl<|Sa 2 hGF rfl rfl rfl eQ<|aa<|am<|Rr<|?_
 exact ay 2 rfl rfl rfl isAgg233 sizeOf233 sm (fun w hw=>⟨by rw[Oi];exact e12 (Su _ _) (VA _ _),ac hw⟩)
def TO68:Tb prog Gt:=TO67.add (cK (g:=iC) ent238 EK)
end Q6
end
section
def GV:Nat→W2
 |0=>on2
 |n+1=>ml2 (cj2 (GV n)) GA
theorem Rp:cj2 on2=on2:=by decide+kernel
theorem Gd(y:W2): ∀k,cj2 (pw2 y k)=pw2 (cj2 y) k
 |0=>Rp
 |k+1=>by rw[nt,fI,Gd y k,nt]
theorem wl(a b:W2)(k:Nat):ml2 (pw2 a k) (pw2 b k)=pw2 (ml2 a b) k:=(R2.mul_pw a b k).symm
def frq(c:W2)(n k:Nat):W2:=ml2 (cjn n c) (pw2 (GV n) k)
theorem rL(c:W2)(n k:Nat):ml2 (cj2 (frq c n k)) (pw2 GA k)=frq c (n+1) k:=by
 rw[frq,fI,RP,wq,Gd,wl];rfl
theorem qW(c:W2)(k:Nat):frq c 0 k=c:=by
 have e:pw2 (GV 0) k=on2:=R2.one_pw k
 rw[frq,e];exact R2.mul_one c
theorem xY(x:W12): ∀n,jF x n=((frq x.1.1 n 0,frq x.1.2.1 n 2,frq x.1.2.2 n 4),(frq x.2.1 n 1,frq x.2.2.1 n 3,frq x.2.2.2 n 5))
 |0=>by rw[qW,qW,qW,qW,qW,qW];rfl
 |n+1=>by
  rw[jF,xY x n]
  exact Prod.ext (Prod.ext (rL _ _ _) (Prod.ext (rL _ _ _) (rL _ _ _))) (Prod.ext (rL _ _ _) (Prod.ext (rL _ _ _) (rL _ _ _)))
/-! ### The sixth root, as numbers -/
def sxh:Nat:=(sx-1) / 2
def CNn:Nat:=151655185184498381465642749684540099398075398968325446656007613510403227271200139370504932015952886146304766135027
theorem yO:2*sxh+1=sx:=by decide+kernel
theorem Do:4*(sxh / 4)+3=sxh:=by decide+kernel
theorem ON(c:Zp):pw2 (0,c) sxh=(0,-(c^sxh)):=by
 have h:=Sg c (sxh / 4)
 rw[Do]at h
 exact h
theorem Oc:pm 2 PP (64*6) sxh+CNn=PP:=by decide+kernel
theorem Pl: -(zp 2^sxh)=zp CNn:=sB (by
 rw[Ee 2 sxh (64*6) (CN eZ (by have:=sx_val;have:=yO;have:=mN;omega)),←fL,Oc,nA])
theorem wm:GA=(-(zp CNn),zp CNn):=by
 have e:pw2 XI sx=ml2 (pw2 (pw2 XI 2) sxh) XI:=by rw[←yM,←yO];rfl
 rw[GA,e,U7,ON,Pl]
 generalize zp CNn=a
 refine bx ?_ ?_
 ·show 0*1-a*1= -a
  rw[qN,qN,Td]
 ·show 0*1+a*1=a
  rw[qN,qN,OW]
end
section
theorem yF(x:W12): ∀n,K12.pw x (PP^n)=jF x n
 |0=>by rw[Nat.pow_zero,K12.pw_one];rfl
 |n+1=>by rw[Nat.pow_succ,K12.pw_mul,yF x n,fb];rfl
theorem xK(x:W12):K12.pw x (PP^6)=ca x:=(yF x 6).trans (iT x)
theorem Nz(x:W12):K12.pw x (PP^2)=bP (bP x):=yF x 2
theorem UE(x:W12):K12.pw x (PP^12)=x:=(yF x 12).trans (nL x)
theorem GX{x:W12}(h:x≠K12.zero){n:Nat}(e:K12.pw x (n+1)=x):K12.pw x n=K12.one:=by
 have k:K12.mul (K12.mul (K12.pw x n) x) (iC x)=K12.mul x (iC x):=congrArg (fun y=>K12.mul y (iC x)) e
 rw[K12.mul_assoc,mE h,K12.mul_one]at k
 exact k
theorem sW{x:W12}{m n:Nat}(h:K12.pw x m=K12.one)(hd:n % m=0):K12.pw x n=K12.one:=by
 have e:n=m*(n / m):=by have:=Nat.div_add_mod n m;omega
 rw[e,K12.pw_mul,h,K12.one_pw]
theorem TO:PP^12-1+1=PP^12:=by decide+kernel
theorem Sv:PP^12-2+1=PP^12-1:=by decide+kernel
theorem N6_s:PP^6-1+1=PP^6:=by decide+kernel
theorem xT{x:W12}(h:x≠K12.zero):K12.pw x (PP^12-1)=K12.one:=GX h (by rw[TO];exact UE x)
theorem Qf{x:W12}(h:x≠K12.zero){n m:Nat}(hm:n+1=m)(e:K12.pw x m=K12.one):iC x=K12.pw x n:=by
 subst hm
 exact K12.inv_one (mE h) ((K12.mul_comm _ _).trans e)
theorem VT{x:W12}(h:x≠K12.zero):iC x=K12.pw x (PP^12-2):=Qf h Sv (xT h)
theorem SV{z:W6}(h:z≠K6.zero):K12.pw (r6 z) (PP^6-1)=K12.one:=
 GX (fun e=>h (E4 e)) (by rw[N6_s,xK];exact Prod.ext rfl K6.neg_zero)
/-! ### As the reference reckons it -/
def tnd(u:Nat)(x:W12):W12:=ca (K12.pw x u)
def fi1(x:W12):W12:=K12.mul (ca x) (iC x)
def fi2(x:W12):W12:=K12.mul (bP (bP x)) x
def fi3(u:Nat)(x:W12):W12:=K12.mul (tnd u x) (ca x)
def fi4(u:Nat)(x:W12):W12:=K12.mul (tnd u x) (bP x)
def fi5(u:Nat)(x:W12):W12:=K12.mul (K12.mul (tnd u (tnd u x)) (bP (bP x))) (ca x)
def fi6(u:Nat)(x:W12):W12:=K12.mul (K12.mul (K12.mul (fi5 u (fi4 u (fi3 u (fi3 u x)))) x) x) x
def tz(u:Nat)(x:W12):W12:=fi6 u (fi2 (fi1 x))
def FEu(u p1 p2 p6 n:Nat):Nat:=(p6+n)*((p2+1)*((((u*p6+p6)*(u*p6+p6))*(u*p6+p1))*((u*p6)*(u*p6)+p2+p6)+1+1+1))
def FE:Nat:=FEu UG PP (PP^2) (PP^6) (PP^12-2)
section
variable {u p2 p6 n:Nat} (h2: ∀x,bP (bP x)=K12.pw x p2) (h6: ∀x,ca x=K12.pw x p6)
theorem Ug(x:W12)(m:Nat):K12.mul (K12.pw x m) x=K12.pw x (m+1):=rfl
theorem rO(h6: ∀x,ca x=K12.pw x p6)(x:W12):tnd u x=K12.pw x (u*p6):=by rw[tnd,h6,←K12.pw_mul]
theorem QM(h6: ∀x,ca x=K12.pw x p6){x:W12}(h:iC x=K12.pw x n):fi1 x=K12.pw x (p6+n):=by rw[fi1,h6,h,←K12.pw_add]
theorem Nn(h2: ∀x,bP (bP x)=K12.pw x p2)(x:W12):fi2 x=K12.pw x (p2+1):=by rw[fi2,h2,Ug]
theorem CI(h6: ∀x,ca x=K12.pw x p6)(x:W12):fi3 u x=K12.pw x (u*p6+p6):=by rw[fi3,rO h6,h6,←K12.pw_add]
theorem Ow{p1:Nat}(h1: ∀x,bP x=K12.pw x p1)(h6: ∀x,ca x=K12.pw x p6)(x:W12):fi4 u x=K12.pw x (u*p6+p1):=by rw[fi4,rO h6,h1,←K12.pw_add]
theorem RA(h2: ∀x,bP (bP x)=K12.pw x p2)(h6: ∀x,ca x=K12.pw x p6)(x:W12):fi5 u x=K12.pw x ((u*p6)*(u*p6)+p2+p6):=by
 rw[fi5,rO h6 (tnd u x),rO h6 x,←K12.pw_mul,h2,h6,←K12.pw_add,←K12.pw_add]
theorem Rm{p1:Nat}(h1: ∀x,bP x=K12.pw x p1)(h2: ∀x,bP (bP x)=K12.pw x p2)(h6: ∀x,ca x=K12.pw x p6)(x:W12):fi6 u x=K12.pw x ((((u*p6+p6)*(u*p6+p6))*(u*p6+p1))*((u*p6)*(u*p6)+p2+p6)+1+1+1):=by
 rw[fi6,CI h6 x,CI h6,←K12.pw_mul,Ow h1 h6,←K12.pw_mul,RA h2 h6,←K12.pw_mul]
 rfl
theorem Iu{p1:Nat}(h1: ∀x,bP x=K12.pw x p1)(h2: ∀x,bP (bP x)=K12.pw x p2)(h6: ∀x,ca x=K12.pw x p6){x:W12}(h:iC x=K12.pw x n):tz u x=K12.pw x (FEu u p1 p2 p6 n):=by
 rw[tz,Rm h1 h2 h6,Nn h2,QM h6 h,←K12.pw_mul,←K12.pw_mul]
 rfl
end
theorem oe{n:Nat}(h:n-1+1=n):K12.pw K12.zero n=K12.zero:=by rw[←h];exact K12.zero_pw _
theorem NW(x:W12):iC x=K12.pw x (PP^12-2):=by
 by_cases h:x=K12.zero
 ·rw[h,Is]
  exact (oe (by decide+kernel)).symm
 ·exact VT h
theorem CF(x:W12):tz UG x=K12.pw x FE:=Iu (fun x=>(fb x).symm) (fun x=>(Nz x).symm) (fun x=>(xK x).symm) (NW x)
theorem JY:FE*ORD % (PP^12-1)=0:=by decide+kernel
theorem Hh:FE % (PP^6-1)=0:=by decide+kernel
theorem xh:FE-1+1=FE:=by decide+kernel
theorem UP_r:(UG+PP) % ORD=0:=by decide+kernel
def FN(e:Nat)(x:W12):W12:=K12.pw x e
section
variable {e:Nat}
theorem pG(x y:W12):FN e (K12.mul x y)=K12.mul (FN e x) (FN e y):=K12.mul_pw x y e
theorem ll:FN e K12.one=K12.one:=K12.one_pw e
theorem yX(h6:e % (PP^6-1)=0){z:W6}(h:z≠K6.zero):FN e (r6 z)=K12.one:=sW (SV h) h6
theorem Pb(hr:e*ORD % (PP^12-1)=0){x:W12}(h:x≠K12.zero):K12.pw (FN e x) ORD=K12.one:=by
 rw[FN,←K12.pw_mul]
 exact sW (xT h) hr
theorem U1(x:W12):FN e (bP x)=K12.pw (FN e x) PP:=by
 rw[FN,FN,←fb,←K12.pw_mul,Nat.mul_comm,K12.pw_mul]
theorem Cx:r6 K6.one=K12.one:=rfl
theorem M4(h6:e % (PP^6-1)=0)(x:W12):FN e (K12.neg x)=FN e x:=by
 have k:K12.neg x=K12.mul (r6 (K6.neg K6.one)) x:=by
  rw[←DB,Cx,K12.neg_mul,K12.one_mul]
 rw[k,pG,yX h6 (by decide+kernel),K12.one_mul]
end
/-! ### Upright lines -/
theorem RG{i t y:W2}(hi:ml2 t i=on2)(k:ml2 y y=ml2 (ml2 t t) XI):False:=by
 have hh:ml2 i t=on2:=(R2.mul_comm i t).trans hi
 have a1:ml2 (ml2 i y) (ml2 i y)=ml2 (ml2 i i) (ml2 y y):=R2.mul_four i y i y
 have a2:ml2 (ml2 i i) (ml2 t t)=ml2 (ml2 i t) (ml2 i t):=R2.mul_four i i t t
 have a3:ml2 (ml2 i i) (ml2 (ml2 t t) XI)=ml2 (ml2 (ml2 i i) (ml2 t t)) XI:=(R2.mul_assoc _ _ _).symm
 have a4:ml2 (ml2 on2 on2) XI=XI:=(congrArg (fun q=>ml2 q XI) (R2.one_mul on2)).trans (R2.one_mul XI)
 exact KA (ml2 i y) (a1.trans (by rw[k,a3,a2,hh,a4]))
theorem xi4:((zp 4,zp 4):W2)=ml2 (ml2 (zp 2,0) (zp 2,0)) XI:=by decide+kernel
theorem Ih:((zp 2,0):W2)≠ze2:=by decide+kernel
theorem Wq{s:W2×W2}(h:E2w.on s):s.1≠ze2:=fun e=>by
 have k:ml2 s.2 s.2=ad2 (ml2 s.1 (ml2 s.1 s.1)) (zp 4,zp 4):=h
 rw[e,GH]at k
 have k2:ml2 s.2 s.2=(zp 4,zp 4):=k.trans (R2.zero_add _)
 exact RG (cQ Ih) (k2.trans xi4)
theorem Nk{s:W2×W2}(h:E2w.on s)(c:W2):((ng2 s.1,c,ze2):W6)≠K6.zero:=fun e=>Wq h (by
 have k:ng2 s.1=ze2:=congrArg Prod.fst e
 rw[←R2.neg_neg s.1]
 exact (congrArg ng2 k).trans R2.neg_zero)
theorem Fg(s:W2×W2)(q:Zp×Zp):E12.sub (HB.m q).1 (HE.m s).1=r6 (ng2 s.1,re2 q.1,ze2):=by
 have e:(HB.m q).1=r6 (ze2,re2 q.1,ze2):=JD (re2 q.1)
 rw[e,vV]
 show K12.add (r6 (ze2,re2 q.1,ze2)) (K12.neg (r6 (s.1,ze2,ze2)))=_
 rw[DB,Pv]
 exact congrArg r6 (Prod.ext (R2.zero_add _) (Prod.ext (by show ad2 (re2 q.1) (ng2 ze2)=re2 q.1;exact (congrArg (ad2 (re2 q.1)) R2.neg_zero).trans (R2.add_zero _)) (R2.add_neg ze2)))
def Sp2(A:Pt W12):Prop:= ∃S:Pt W2,E2w.onP S∧A=HE.p S
def Sp1(A:Pt W12):Prop:= ∃S:Pt Zp,E1.onP S∧A=HB.p S
theorem FZ{e:Nat}(h6:e % (PP^6-1)=0):E12.Fz (FN e) Sp2 Sp1 where
 mul:=pG
 one:=ll
 neg:=M4 h6
 aon:=fun {_} h=>by obtain ⟨S,hS,rfl⟩:=h;exact HE.p_on hS
 aad:=fun {_ _} h k=>by
  obtain ⟨S,hS,rfl⟩:=h
  obtain ⟨T,hT,rfl⟩:=k
  exact ⟨_,E2w.ad_on hS hT,(HE.p_ad hS hT).symm⟩
 ane:=fun {_} h=>by obtain ⟨S,hS,rfl⟩:=h;exact ⟨_,E2w.ne_on hS,(HE.p_ne S).symm⟩
 pon:=fun {_} h=>by obtain ⟨S,hS,rfl⟩:=h;exact HB.p_on hS
 pad:=fun {_ _} h k=>by
  obtain ⟨S,hS,rfl⟩:=h
  obtain ⟨T,hT,rfl⟩:=k
  exact ⟨_,E1.ad_on hS hT,(HB.p_ad hS hT).symm⟩
 pne:=fun {_} h=>by obtain ⟨S,hS,rfl⟩:=h;exact ⟨_,E1.ne_on hS,(HB.p_ne S).symm⟩
 van:=fun {a p} h k=>by
  obtain ⟨S,hS,u⟩:=h
  obtain ⟨T,hT,f⟩:=k
  cases S with
  |none=>cases u
  |some s=>
   cases T with
   |none=>cases f
   |some q=>
    have u:a=HE.m s:=Option.some.inj u
    have f:p=HB.m q:=Option.some.inj f
    subst u f
    rw[Fg]
    exact yX h6 (Nk hS _)
end
section
section
variable {α β:Type} {C:Ec α} {D:Ec β} (T:Hw C D)
theorem Hw.ln(a p:α×α)(s:α):D.ln (T.m a) (D.R.mul T.w (T.f s)) (T.m p)=D.R.mul (D.R.mul T.w (D.R.mul T.w T.w)) (T.f (C.ln a s p)):=by
 unfold Ec.ln
 rw[T.fs,T.fs,T.fm,T.fs]
 exact zx D.R [T.w,T.f a.1,T.f a.2,T.f s,T.f p.1,T.f p.2] 0x44556566b355656683556945566a355667 0x55656644b383594a37
theorem Hw.gl [DecidableEq α] [DecidableEq β]{A B P:Pt α}(hA:C.onP A)(hB:C.onP B){F:β→β}(hF: ∀a b,F (D.R.mul a b)=D.R.mul (F a) (F b))(hw:F (D.R.mul T.w (D.R.mul T.w T.w))=D.R.one):F (D.gl (T.p A) (T.p B) (T.p P))=F (T.f (C.gl A B P)):=by
 cases A with
 |none=>rw[C.gl_l,T.f1];rfl
 |some a=>
  cases B with
  |none=>rw[C.gl_m,T.f1];rfl
  |some b=>
   cases P with
   |none=>rw[C.gl_r,T.f1];rfl
   |some p=>
    by_cases ho:C.opp a b
    ·rw[C.gl_opp ho,T.f1]
     exact congrArg F (D.gl_opp (T.opp.2 ho) _)
    ·have hs:=C.sl_slope hA hB ho
     rw[C.gl_sl hA hB ho hs]
     refine (congrArg F (D.gl_sl (T.m_on hA) (T.m_on hB) (fun h=>ho (T.opp.1 h)) (T.sl hs) (T.m p))).trans ?_
     rw[T.ln,hF,hw,D.R.one_mul]
theorem Rg.last{α:Type}(R:Rg α){a b k c h k':α}(x:R.mul (R.mul a b) k=R.mul c h)(y:R.mul k' k=R.one)(z:R.mul h k'=R.one):R.mul a b=c:=
 zl R [a,b,k,c,h,k'] 0x567 0x445b59a535672592 0x9 0x445b55678535675b8595ab (lca (lca (lcm x) (lcm y)) (lcm z))
end
/-! ### The power of p, as a map of the curve -/
theorem CX(x:W12):bP (K12.neg x)=K12.neg (bP x):=by
 have e:K12.add (bP x) (bP (K12.neg x))=K12.zero:=by
  rw[←vG,K12.add_neg,←fb]
  exact oe (by decide+kernel)
 exact K12.neg_of e
theorem rE:bP K12.zero=K12.zero:=by rw[←fb];exact oe (by decide+kernel)
theorem AZ{x:W12}(h:bP x=K12.zero):x=K12.zero:=by
 have e:=nL x
 rw[show 12=1+11 from rfl,oM,show jF x 1=bP x from rfl,h]at e
 rw[←e]
 have k: ∀n,jF K12.zero n=K12.zero:=fun n=>by
  induction n with
  |zero=>rfl
  |succ n ih=>rw[jF,ih,rE]
 exact k 11
theorem vH(c:W2):bP (em c)=em (cj2 c):=by rw[←fb,vF,Gi]
theorem TT:ml2 (ml2 (ml2 PW (ml2 PW PW)) (ml2 PW (ml2 PW PW))) (cj2 (zp 4,zp 4))=(zp 4,zp 4):=by decide+kernel
theorem TV:ml2 PW GA=on2:=by rw[wm];decide+kernel
def TW12:Tw E12 where
 f:=bP
 w:=em PW
 fa:=vG
 fm:=g8
 fn:=CX
 f0:=rE
 fi:=fun _ h=>AZ h
 wn:=by decide+kernel
 wb:=by
  show K12.mul (K12.mul (K12.mul (em PW) (K12.mul (em PW) (em PW))) (K12.mul (em PW) (K12.mul (em PW) (em PW)))) (bP (em (zp 4,zp 4)))=em (zp 4,zp 4)
  rw[vH,dX,dX,dX,dX,TT]
theorem rl(S:Pt W2):TW12.p (HE.p S)=HE.p (TW2.p S):=by
 cases S with
 |none=>rfl
 |some s=>
  refine congrArg some ?_
  show TW12.m (HE.m s)=HE.m (TW2.m s)
  rw[vV,vV]
  refine Prod.ext ?_ ?_
  ·show K12.mul (K12.mul (em PW) (em PW)) (bP (em s.1))=em (ml2 (ml2 PW PW) (cj2 s.1))
   rw[vH,dX,dX]
  ·show K12.mul (K12.mul (em PW) (K12.mul (em PW) (em PW))) (bP (em s.2))=em (ml2 (ml2 PW (ml2 PW PW)) (cj2 s.2))
   rw[vH,dX,dX,dX]
theorem WW_1:WW=wk 1:=wk1.symm
theorem VI:K12.mul (em PW) (bP WW)=WW:=by
 rw[←fb,WW_1,Mm,←K12.mul_assoc,dX,TV]
 exact K12.one_mul _
theorem Fv(a:Zp):cj2 (re2 a)=re2 a:=bx rfl (by show-(0:Zp)=0;exact z_n0')
theorem yo(S:Pt Zp):TW12.p (HB.p S)=HB.p S:=by
 cases S with
 |none=>rfl
 |some q=>
  refine congrArg some ?_
  have h:=VI
  refine Prod.ext ?_ ?_
  ·show K12.mul (K12.mul (em PW) (em PW)) (bP (K12.mul (K12.mul WW WW) (em (re2 q.1))))=K12.mul (K12.mul WW WW) (em (re2 q.1))
   rw[g8,g8,vH,Fv,←K12.mul_assoc,K12.mul_four,h]
  ·show K12.mul (K12.mul (em PW) (K12.mul (em PW) (em PW))) (bP (K12.mul (K12.mul WW (K12.mul WW WW)) (em (re2 q.2))))=K12.mul (K12.mul WW (K12.mul WW WW)) (em (re2 q.2))
   rw[g8,g8,g8,vH,Fv,←K12.mul_assoc,K12.mul_four (em PW) (K12.mul (em PW) (em PW)),K12.mul_four (em PW) (em PW) (bP WW) (bP WW),h]
/-! ### The loop's value -/
def MLv(l:List Bool)(P:Pt Zp)(Q:Pt W2):W12:=(E12.mil (HE.p Q) (HB.p P) l (K12.one,HE.p Q)).1
section
variable {e:Nat} (h6:e % (PP^6-1)=0) (hr:e*ORD % (PP^12-1)=0) (he:e-1+1=e)
theorem FN_0(he:e-1+1=e):FN e K12.zero=K12.zero:=oe he
theorem Lo(he:e-1+1=e){x y:W12}(h:K12.mul (FN e x) y=K12.one):x≠K12.zero:=fun z=>by
 rw[z,FN_0 he,K12.zero_mul]at h
 exact wU h.symm
theorem tm1{α:Type} [DecidableEq α](C:Ec α)(Q:Pt α):C.times Q 1=Q:=rfl
theorem Qs{Q:Pt W2}(hQ:E2w.onP Q)(h:E2w.ne (E2w.times Q UG)=TW2.p Q):E12.times (HE.p Q) UG=E12.ne (TW12.p (HE.p Q)):=by
 rw[←HE.p_times hQ,rl,←h,HE.p_ne,E12.ne_ne]
theorem U9(h6:e % (PP^6-1)=0):FN e (E12.R.mul TW12.w (E12.R.mul TW12.w TW12.w))=E12.R.one:=by
 have k:E12.R.mul TW12.w (E12.R.mul TW12.w TW12.w)=r6 (ml2 PW (ml2 PW PW),ze2,ze2):=by
  show K12.mul (em PW) (K12.mul (em PW) (em PW))=_
  rw[dX,dX];rfl
 rw[k]
 exact yX h6 (by decide+kernel)
theorem Ke(h6:e % (PP^6-1)=0){A B P:Pt W12}(hA:E12.onP A)(hB:E12.onP B):FN e (E12.gl (TW12.p A) (TW12.p B) (TW12.p P))=K12.pw (FN e (E12.gl A B P)) PP:=
 (TW12.gl hA hB (F:=FN e) pG (U9 h6)).trans (U1 _)
theorem MD{x:W12}(h:K12.pw x ORD=K12.one):K12.mul (K12.pw x UG) (K12.pw x PP)=K12.one:=by
 rw[←K12.pw_add]
 exact sW h UP_r
theorem SW(h6:e % (PP^6-1)=0)(hr:e*ORD % (PP^12-1)=0)(he:e-1+1=e){l:List Bool}(hl:bU l 1=UG){P P':Pt Zp}(hP:E1.onP P)(hP':E1.onP P'){Q:Pt W2}(hQ:E2w.onP Q)(hu:E2w.ne (E2w.times Q UG)=TW2.p Q):
 K12.mul (FN e (MLv l P Q)) (FN e (MLv l P' Q))=FN e (MLv l (E1.ad P P') Q):=by
 have Z:=FZ h6
 have sQ:Sp2 (HE.p Q):=⟨Q,hQ,rfl⟩
 have s0:Sp2 none:=⟨none,True.intro,rfl⟩
 have sP:Sp1 (HB.p P):=⟨P,hP,rfl⟩
 have sP':Sp1 (HB.p P'):=⟨P',hP',rfl⟩
 have sT:Sp2 (TW12.p (HE.p Q)):=⟨TW2.p Q,TW2.p_on hQ,rl Q⟩
 have k:=Z.lin1 sQ s0 sP sP' l (K12.one,HE.p Q) (K12.one,HE.p Q) (K12.one,HE.p Q) 1 rfl rfl rfl (by rw[tm1,ll];show K12.mul (K12.mul K12.one K12.one) _=K12.mul K12.one (K12.pw _ 1);rw[K12.pw_one,K12.one_mul,K12.one_mul])
 rw[hl,Qs hQ hu,←HB.p_ad hP hP']at k
 have i:=Z.swap.inv sP sP' sT
 have t:=Ke h6 (P:=HE.p Q) (HB.p_on hP) (HB.p_on hP')
 rw[yo,yo]at t
 have z:=Z.swap.inv sP sP' sQ
 have o:=MD (Pb hr (Lo he z))
 rw[←t]at o
 exact K12.last k i o
theorem ML_2(h6:e % (PP^6-1)=0)(hr:e*ORD % (PP^12-1)=0)(he:e-1+1=e){l:List Bool}(hl:bU l 1=UG){P:Pt Zp}(hP:E1.onP P){Q Q':Pt W2}(hQ:E2w.onP Q)(hQ':E2w.onP Q')(hu:E2w.ne (E2w.times Q UG)=TW2.p Q)(hu':E2w.ne (E2w.times Q' UG)=TW2.p Q'):
 K12.mul (FN e (MLv l P Q)) (FN e (MLv l P Q'))=FN e (MLv l P (E2w.ad Q Q')):=by
 have Z:=FZ h6
 have sQ:Sp2 (HE.p Q):=⟨Q,hQ,rfl⟩
 have sQ':Sp2 (HE.p Q'):=⟨Q',hQ',rfl⟩
 have s0:Sp2 none:=⟨none,True.intro,rfl⟩
 have sP:Sp1 (HB.p P):=⟨P,hP,rfl⟩
 have sT:Sp2 (TW12.p (HE.p Q)):=⟨TW2.p Q,TW2.p_on hQ,rl Q⟩
 have sT':Sp2 (TW12.p (HE.p Q')):=⟨TW2.p Q',TW2.p_on hQ',rl Q'⟩
 have k:=Z.lin2 sQ sQ' s0 sP l (K12.one,HE.p Q) (K12.one,HE.p Q') (K12.one,E12.ad (HE.p Q) (HE.p Q')) 1 rfl rfl rfl (by rw[tm1,tm1,ll];show K12.mul (K12.mul K12.one K12.one) _=K12.mul K12.one (K12.pw _ 1);rw[K12.pw_one,K12.one_mul,K12.one_mul])
 rw[hl,Qs hQ hu,Qs hQ' hu',←HE.p_ad hQ hQ',Z.opp sT sT']at k
 have i:=Z.inv sT sT' sP
 have t:=Ke h6 (P:=HB.p P) (HE.p_on hQ) (HE.p_on hQ')
 rw[yo]at t
 have z:=Z.inv sQ sQ' sP
 have o:=MD (Pb hr (Lo he z))
 rw[←t]at o
 exact K12.last k i o
theorem KP{α:Type} [DecidableEq α](C:Ec α){Q P:Pt α}(h: ∀A B,C.gl A B P=C.R.one): ∀(l:List Bool) (st:α×Pt α),st.1=C.R.one→(C.mil Q P l st).1=C.R.one
 |[],_,e=>e
 |d::r,st,e=>by
  refine KP C h r _ ?_
  cases d with
  |false=>show C.R.mul (C.R.mul st.1 st.1) (C.gl _ _ P)=C.R.one;rw[h,e,C.R.mul_one,C.R.mul_one]
  |true=>show C.R.mul (C.R.mul (C.R.mul st.1 st.1) (C.gl _ _ P)) (C.gl _ _ P)=C.R.one;rw[h,h,e,C.R.mul_one,C.R.mul_one,C.R.mul_one]
theorem LF{α:Type} [DecidableEq α](C:Ec α){P:Pt α}: ∀(l:List Bool) (st:α×Pt α),st.1=C.R.one→st.2=none→(C.mil none P l st).1=C.R.one
 |[],_,e,_=>e
 |d::r,st,e,f=>by
  refine LF C r _ ?_ ?_
  ·cases d with
   |false=>show C.R.mul (C.R.mul st.1 st.1) (C.gl st.2 st.2 P)=C.R.one;rw[f,C.gl_l,e,C.R.mul_one,C.R.mul_one]
   |true=>show C.R.mul (C.R.mul (C.R.mul st.1 st.1) (C.gl st.2 st.2 P)) (C.gl _ none P)=C.R.one;rw[f,C.gl_l,C.gl_m,e,C.R.mul_one,C.R.mul_one,C.R.mul_one]
  ·cases d with
   |false=>show C.ad st.2 st.2=none;rw[f];rfl
   |true=>show C.ad (C.ad st.2 st.2) none=none;rw[f];rfl
theorem B1(l:List Bool)(Q:Pt W2):MLv l none Q=K12.one:=KP E12 (fun A B=>E12.gl_r A B) l _ rfl
theorem Mb(l:List Bool)(P:Pt Zp):MLv l P none=K12.one:=LF E12 l _ rfl rfl
theorem LI(h6:e % (PP^6-1)=0)(hr:e*ORD % (PP^12-1)=0)(he:e-1+1=e){l:List Bool}(hl:bU l 1=UG){P:Pt Zp}(hP:E1.onP P){Q:Pt W2}(hQ:E2w.onP Q)(hu:E2w.ne (E2w.times Q UG)=TW2.p Q): ∀k,FN e (MLv l (E1.times P k) Q)=K12.pw (FN e (MLv l P Q)) k
 |0=>by rw[show E1.times P 0=none from rfl,B1];exact ll
 |k+1=>by
  have i:=LI h6 hr he hl hP hQ hu k
  rw[show E1.times P (k+1)=E1.ad (E1.times P k) P from rfl,←SW h6 hr he hl (E1.times_on hP k) hP hQ hu,i]
  rfl
theorem tw_t{Q:Pt W2}(hQ:E2w.onP Q)(hu:E2w.ne (E2w.times Q UG)=TW2.p Q)(k:Nat):E2w.ne (E2w.times (E2w.times Q k) UG)=TW2.p (E2w.times Q k):=TW2.psi_out hQ hu k
theorem LC(h6:e % (PP^6-1)=0)(hr:e*ORD % (PP^12-1)=0)(he:e-1+1=e){l:List Bool}(hl:bU l 1=UG){P:Pt Zp}(hP:E1.onP P){Q:Pt W2}(hQ:E2w.onP Q)(hu:E2w.ne (E2w.times Q UG)=TW2.p Q): ∀k,FN e (MLv l P (E2w.times Q k))=K12.pw (FN e (MLv l P Q)) k
 |0=>by rw[show E2w.times Q 0=none from rfl,Mb];exact ll
 |k+1=>by
  have i:=LC h6 hr he hl hP hQ hu k
  rw[show E2w.times Q (k+1)=E2w.ad (E2w.times Q k) Q from rfl,←ML_2 h6 hr he hl hP (E2w.times_on hQ k) hQ (tw_t hQ hu k) hu,i]
  rfl
end
end
section
def LN(r:W2×W2)(s:W2)(q:Zp×Zp):W12:=((sb2 (ml2 s r.1) r.2,ng2 (ml2 s (re2 q.1)),ze2),(ze2,re2 q.2,ze2))
theorem HB_m(q:Zp×Zp):HB.m q=(r6 (ze2,re2 q.1,ze2),(K6.zero,(ze2,re2 q.2,ze2))):=Prod.ext (JD (re2 q.1)) (VJ (re2 q.2))
theorem n0:ng2 ze2=ze2:=R2.neg_zero
theorem a0(x:W2):ad2 x ze2=x:=R2.add_zero x
theorem l0(x:W2):ad2 ze2 x=x:=R2.zero_add x
theorem QK(r:W2×W2)(s:W2)(q:Zp×Zp):E12.ln (HE.m r) (em s) (HB.m q)=LN r s q:=by
 have e1:E12.sub (HB.m q).1 (HE.m r).1=r6 (ng2 r.1,re2 q.1,ze2):=Fg r q
 have e2:K12.mul (em s) (r6 (ng2 r.1,re2 q.1,ze2))=r6 (ml2 (ng2 r.1) s,ml2 (re2 q.1) s,ze2):=by
  rw[K12.mul_comm,tV]
  exact congrArg r6 (Prod.ext rfl (Prod.ext rfl (GH s)))
 have e3:E12.sub (HB.m q).2 (HE.m r).2=((ng2 r.2,ze2,ze2),(ze2,re2 q.2,ze2)):=by
  rw[HB_m,vV]
  show K12.add (K6.zero,(ze2,re2 q.2,ze2)) (K12.neg (em r.2))=_
  refine Prod.ext (Prod.ext ?_ (Prod.ext ?_ ?_)) (Prod.ext ?_ (Prod.ext ?_ ?_))
  ·exact l0 _
  ·show ad2 ze2 (ng2 ze2)=ze2;rw[n0];exact l0 _
  ·show ad2 ze2 (ng2 ze2)=ze2;rw[n0];exact l0 _
  ·show ad2 ze2 (ng2 ze2)=ze2;rw[n0];exact l0 _
  ·show ad2 (re2 q.2) (ng2 ze2)=re2 q.2;rw[n0];exact a0 _
  ·show ad2 ze2 (ng2 ze2)=ze2;rw[n0];exact l0 _
 unfold Ec.ln
 rw[e1,e3]
 show K12.add ((ng2 r.2,ze2,ze2),(ze2,re2 q.2,ze2)) (K12.neg (K12.mul (em s) (r6 (ng2 r.1,re2 q.1,ze2))))=LN r s q
 rw[e2]
 refine Prod.ext (Prod.ext ?_ (Prod.ext ?_ ?_)) (Prod.ext ?_ (Prod.ext ?_ ?_))
 ·show ad2 (ng2 r.2) (ng2 (ml2 (ng2 r.1) s))=sb2 (ml2 s r.1) r.2
  rw[ly]
  exact zx R2 [r.1,r.2,s] 0x43735368 0x458637
 ·show ad2 ze2 (ng2 (ml2 (re2 q.1) s))=ng2 (ml2 s (re2 q.1))
  rw[l0,show ml2 (re2 q.1) s=ml2 s (re2 q.1)from R2.mul_comm _ _]
 ·show ad2 ze2 (ng2 ze2)=ze2;rw[n0];exact l0 _
 ·show ad2 ze2 (ng2 ze2)=ze2;rw[n0];exact l0 _
 ·show ad2 (re2 q.2) (ng2 ze2)=re2 q.2;rw[n0];exact a0 _
 ·show ad2 ze2 (ng2 ze2)=ze2;rw[n0];exact l0 _
def LG(a b:Pt W2)(q:Zp×Zp):W12:=match a,b with
 |some a,some b=>if a.1=b.1∧ad2 a.2 b.2=ze2 then K12.one else LN a (E2w.slope a b) q
 |_,_=>K12.one
theorem GS{a b:W2×W2}{s:W2}(ha:E2w.on a)(hb:E2w.on b)(ho: ¬E2w.opp a b)(hs:E2w.Sl a b s)(q:Zp×Zp):LG (some a) (some b) q=LN a s q:=by
 rw[←E2w.sl_one (E2w.sl_slope ha hb ho) hs ho]
 exact if_neg ho
theorem LG_o{a b:W2×W2}(h:E2w.opp a b)(q:Zp×Zp):LG (some a) (some b) q=K12.one:=if_pos h
theorem Mj{A B:Pt W2}(hA:E2w.onP A)(hB:E2w.onP B)(q:Zp×Zp):E12.gl (HE.p A) (HE.p B) (HB.p (some q))=LG A B q:=by
 cases A with
 |none=>rfl
 |some a=>
  cases B with
  |none=>rfl
  |some b=>
   by_cases ho:E2w.opp a b
   ·rw[LG_o ho]
    exact E12.gl_opp (HE.opp.2 ho) _
   ·have hs:=E2w.sl_slope hA hB ho
    rw[GS hA hB ho hs]
    have h:=HE.sl hs
    rw[show E12.R.mul HE.w (HE.f (E2w.slope a b))=em (E2w.slope a b)from K12.one_mul _]at h
    refine (E12.gl_sl (HE.m_on hA) (HE.m_on hB) (fun k=>ho (HE.opp.1 k)) h (HB.m q)).trans ?_
    exact QK a (E2w.slope a b) q
def MSW(q:Zp×Zp)(Q:Pt W2)(d:Bool)(st:W12×Pt W2):W12×Pt W2:=
 if d then (K12.mul (K12.mul (K12.mul st.1 st.1) (LG st.2 st.2 q)) (LG (E2w.ad st.2 st.2) Q q),E2w.ad (E2w.ad st.2 st.2) Q)else (K12.mul (K12.mul st.1 st.1) (LG st.2 st.2 q),E2w.ad st.2 st.2)
def MLW(q:Zp×Zp)(Q:Pt W2):List Bool→W12×Pt W2→W12×Pt W2
 |[],st=>st
 |d::r,st=>MLW q Q r (MSW q Q d st)
theorem Dw(q:Zp×Zp){Q:Pt W2}(hQ:E2w.onP Q): ∀(l:List Bool) (f:W12) (R:Pt W2),E2w.onP R→E12.mil (HE.p Q) (HB.p (some q)) l (f,HE.p R)=((MLW q Q l (f,R)).1,HE.p (MLW q Q l (f,R)).2)
 |[],_,_,_=>rfl
 |d::r,f,R,hR=>by
  have h2:=E2w.ad_on hR hR
  have g1:=Mj hR hR q
  have e2:E12.ad (HE.p R) (HE.p R)=HE.p (E2w.ad R R):=(HE.p_ad hR hR).symm
  cases d with
  |false=>
   show E12.mil (HE.p Q) (HB.p (some q)) r (K12.mul (K12.mul f f) (E12.gl (HE.p R) (HE.p R) (HB.p (some q))),E12.ad (HE.p R) (HE.p R))=((MLW q Q r (K12.mul (K12.mul f f) (LG R R q),E2w.ad R R)).1,HE.p (MLW q Q r (K12.mul (K12.mul f f) (LG R R q),E2w.ad R R)).2)
   rw[g1,e2]
   exact Dw q hQ r _ _ h2
  |true=>
   have g2:=Mj h2 hQ q
   have e3:E12.ad (HE.p (E2w.ad R R)) (HE.p Q)=HE.p (E2w.ad (E2w.ad R R) Q):=(HE.p_ad h2 hQ).symm
   show E12.mil (HE.p Q) (HB.p (some q)) r (K12.mul (K12.mul (K12.mul f f) (E12.gl (HE.p R) (HE.p R) (HB.p (some q)))) (E12.gl (E12.ad (HE.p R) (HE.p R)) (HE.p Q) (HB.p (some q))),E12.ad (E12.ad (HE.p R) (HE.p R)) (HE.p Q))=((MLW q Q r (K12.mul (K12.mul (K12.mul f f) (LG R R q)) (LG (E2w.ad R R) Q q),E2w.ad (E2w.ad R R) Q)).1,HE.p (MLW q Q r (K12.mul (K12.mul (K12.mul f f) (LG R R q)) (LG (E2w.ad R R) Q q),E2w.ad (E2w.ad R R) Q)).2)
   rw[g1,e2,g2,e3]
   exact Dw q hQ r _ _ (E2w.ad_on h2 hQ)
theorem TP(l:List Bool)(q:Zp×Zp){Q:Pt W2}(hQ:E2w.onP Q):MLv l (some q) Q=(MLW q Q l (K12.one,Q)).1:=congrArg Prod.fst (Dw q hQ l K12.one Q hQ)
end
end Go.Proofs.YtfgacclgjklgnaaGreatDoor
