/- L8 -/
import Derived.Test.YtfgacclgjklgnaaGreatDoorL7
import Derived.Test.YtfgacclgjklgnaaGreatDoorX2
import Derived.Test.YtfgacclgjklgnaaGreatDoorXW
import Derived.Test.YtfgacclgjklgnaaGreatDoorL4
import Derived.Test.YtfgacclgjklgnaaGreatDoorL6
import Derived.Test.YtfgacclgjklgnaaGreatDoorX3
import Derived.Test.YtfgacclgjklgnaaGreatDoorL2
set_option maxRecDepth 100000
set_option maxHeartbeats 1000000
namespace Go.Proofs.YtfgacclgjklgnaaGreatDoor
open Go.Proofs.Tryz
section
open J2
open Go.RowKit
attribute [local simp] aW bd aU aP aD bf aL aK aB PLl cm cq N1l cr cp cu a8 bg aQ a6 bc bj dp gu jv
theorem ent144:ai prog 144:=fun _ _=>kr
theorem ent194:ai prog 194:=fun _ _=>kr
theorem ent146:ai prog 146:=fun _ _=>kr
theorem N9  :PUR 95 [] (.string SUb):=by
 intro w hw
 refine Hf func95 rfl hw<|fun hGF=>Xp<|Asg rfl<|aa<|Xp<|Asg rfl<|aa<|am<|Rr<|?_
 exact aE rfl rfl (fun w hw=>⟨rfl,ac hw⟩)
theorem Tm(p q:GP)(hq:A2 p HBs=q)(b cap:Nat)(w:World)(hw:Gt w)(h:w.rangeAt b 0 (HBs.map U8)):CLS 195 [PtV p,.slice (spt b) HBs.length cap].toArray w (fun r w'=>r=.returned (PtV q)∧Grow w w'):=by
 subst hq
 exact KO p _ cap HBs dc w hw (BytesAt.range h)
def gCl(p:GP):GP:=A2 p HBs
theorem Rq(p:GP)(bs:L8):(A2 p bs).P=E2w.times p.P (BN bs bs.length):=rfl
theorem Ty(p:GP):(gCl p).P=E2w.times p.P HEF:=by rw[gCl,Rq,UT]
theorem QR(p:GP):PUR 145 [PtV p] (PtV (gCl p)):=by
 intro w hw
 refine Hf func145 rfl hw<|fun hGF=>ae (E:=EE [1000022])<|Bx 1 hGF rfl<|fun b1=>Al 2 hGF zv94<|fun b2=>aa<|ae (E:=EE [1000022])<|La 1 rfl rfl bG<|iw 4 HBs hGF rfl rfl rfl dc dc underlying22 sizeOf5 zeroValue5 rfl rfl<|fun b4=>nc 4 rfl hGF rfl rfl underlying22 underlying5 rfl rfl<|Cc rfl ent195 (fun w' hC hG=>Tm p (gCl p) rfl _ _ w' hG (aO (n:=4) rfl w' hC))<|Sa 2 hGF rfl rfl rfl bG<|aa<|am<|Rr<|?_
 exact ay 2 rfl rfl rfl isAgg94 sizeOf94 sm (fun w hw=>⟨rfl,ac hw⟩)
def PE2(f:Nat→W2):List (List Value):=(List.range 2).map fun (k:Nat)=>[EV2 (f k)]
theorem tQ(f:Nat→W2):(PE2 f).length=2:=by rw[PE2,List.length_map,List.length_range]
theorem yh(f:Nat→W2)(k:Nat)(h:k<2):(PE2 f)[k]? =some [EV2 (f k)]:=by
 rw[PE2,List.getElem?_map,List.getElem?_range h];rfl
theorem P2(f:Nat→W2)(k:Nat)(v:List Value)(h:(PE2 f)[k]? =some v):k<2∧v=[EV2 (f k)]:=by
 have hk:k<2:=by
  rcases Nat.lt_or_ge k 2 with hk|hk
  ·exact hk
  ·rw[List.getElem?_eq_none (by rw[tQ];exact hk)]at h;cases h
 exact ⟨hk,(Option.some.inj ((yh f k hk).symm.trans h)).symm⟩
def RdE(bb b cap:Nat)(f:Nat→W2):Cls:=fun w=>w.cell? ⟨bb,0,none⟩=some (.slice (spt b) 2 cap)∧w.rangeAt b 0 ((RW 12 (RPr f) 2).map U64)
theorem jO(bb b cap:Nat)(f:Nat→W2):eG prog Gt 194 [pnt bb] (PE2 f) (RdE bb b cap f):=by
 intro l J Jx hJ hJx hRd hGx hY w hj
 have okJ: ∀k,BOk Gt (Bi w (fun Y=>J Y k)):=fun k=>⟨fun _ _ _ h=>(hRd _ _ _ h.rid).1,hJ k⟩
 have okX: ∀k,BOk Gt (Bi w (fun Y=>Jx Y k)):=fun k=>⟨fun _ _ _ h=>hGx _ _ _ h.rid,hJx k⟩
 have c1: ∀k L w',Hp (Bi w (fun Y=>J Y k)) L w'→RdE bb b cap f w':=fun k L w' h=>(hRd _ _ _ h.rid).2
 refine cb (G:=Gt) func194 rfl rfl (Hp (Bi w (fun Y=>J Y 0)) []) (bO (Bi w _) hj (hJ 0)) (au (okJ 0))<|Xp<|bz rfl isAgg246 (fun w h=>(c1 _ _ w h).1) rfl rfl<|a5 rfl (fun _=>az underlying246 _ _ _ _) rfl rfl<|Mv rfl<|aa<|aj<|fB (ι:={i:Nat // i≤2}) (fun y=>[(0,.func (.yield l) #[] #[]),(1,pnt bb),(5,.slice (spt b) 2 cap),(6,I ((2:Nat):Int)),(7,I (y.1:Int))]) (fun y=>Bi w (fun Y=>J Y y.1)) (fun y=>[]) (fun y=>2-y.1) ⟨0,Nat.zero_le _⟩ (fun _=>okJ _) rfl trv trivial<|?_
 rintro ⟨i,hi⟩
 dsimp only
 refine Xp<|Bnr rfl rfl (fun _=>aF _ _ _)<|aa<|ah<|?_
 refine bZ rfl (fun hc=> ?_) (fun hc=> ?_)
 ·have hi2:i<2:=by simp at hc;omega
  refine ap<|ah<|aj<|Xp<|i3 (s:=12) i rfl rfl underlying246 sizeOf92 om om rfl rfl<|dv (cs:=(fe (f i).1++fe (f i).2).map U64) rfl isAgg92 sizeOf92 sm (fun w h=>iY (c1 _ _ w h).2 om (gu _ _)) rfl rfl<|Al 4 (okJ _) zv92<|fun b4=>Sa 4 (okJ _) rfl rfl rfl aH<|aa<|Xp<|Mv rfl<|La 4 rfl rfl aH<|?_
  refine cX (hY.b (k:=i) (yh f i om) w) (okJ _) (okX _) rfl rfl rfl rfl rfl ?_ ?_
  ·refine aY rfl (fun _=>aJ _) rfl rfl<|aa<|aq rfl<|ap<|Xq<|Bnr rfl rfl (fun _=>aA _ _ _ oi)<|Mv rfl<|aa<|?_
   repeat (refine a7 ?_)
   exact aR<|⟨rfl,⟨i+1,om⟩,_,by show 2-(i+1)<2-i;omega,rfl,trv,trivial⟩
  ·refine aY rfl (fun _=>aJ _) rfl rfl<|aa<|aV rfl<|am<|Rr<|?_
   repeat (first|refine cZ ?_|refine bY ?_|refine cU rfl ?_|refine bq ?_|refine bt ?_)
   exact cR rfl (fun w hw=>⟨⟨_,rfl⟩,.inr ⟨_,bD (hJx _) hw.rid⟩⟩)
 ·obtain rfl:i=2:=by simp at hc;omega
  refine be ?_
  repeat (first|refine cZ ?_|refine bY ?_|refine cU rfl ?_|refine bq ?_|refine bt ?_)
  refine cn rfl (fun w hw=>⟨⟨_,rfl⟩,.inl ?_⟩)
  have:=bD (hJ _) hw.rid
  rw[tQ]
  exact this
theorem LU{u:W2}{A:W2×W2}(h:SwA u A): ∃p:GP,p.P=some A∧PUR 196 [EV2 u] (PtV p):=by
 obtain ⟨x,r,s,rfl⟩:=h
 exact ⟨_,rfl,pmap s⟩
def gS(p:Nat→GP):Nat→GP
 |0=>cI
 |k+1=>BQ (gS p k) (p k)
theorem gS_P{p:Nat→GP}{A B:W2×W2}(h0:(p 0).P=some A)(h1:(p 1).P=some B):(gS p 2).P=E2w.ad (some A) (some B):=by
 show E2w.ad (E2w.ad none (p 0).P) (p 1).P=_
 rw[h0,h1];rfl
theorem I3(msg dst:L8)(hbad:Xm.FBad msg dst 2)(a1:Option Addr)(cap1:Nat)(a2:Option Addr)(cap2:Nat)(w:World)(hl1:msg.length≤65600)(hc1:msg.length≤cap1)(hl2:dst.length≤1000)(hc2:dst.length≤cap2)(hw:Gt w)(hb1:BytesAt w a1 msg)(hb2:BytesAt w a2 dst):CLS 144 [.slice a1 msg.length cap1,.slice a2 dst.length cap2].toArray w (fun e w'=>e=.returned (.tuple #[.nilFunc,I 130])∧Grow w w'):=by
 refine Hf func144 rfl hw<|fun hGF=>ae (E:=EE [193,2000193])<|Asg rfl<|Asg rfl<|aa<|ae (E:=EE [193,2000193])<|Mv rfl<|Mv rfl<|?_
 refine bI rfl rfl ent193 rfl rfl (fun w' hw'=>(Xm.pfc a1 cap1 msg a2 cap2 dst 2 w' om hc1 om hc2 (hGF.g _ _ _ hw') (hb1.grow (ac hw')) (hb2.grow (ac hw'))).mono fun e w'' h=> ?_)
 obtain ⟨v,rfl,hg,hq⟩:=h
 obtain rfl:=hq.bad hbad
 refine ⟨_,_,rfl,au hGF,hw'.grow ak hg,fun _ h=>h, ?_⟩
 clear hq hg hw'
 refine Mv rfl<|Ext rfl rfl<|Ext rfl rfl<|eP 6 hGF zeroValue246 rfl rfl<|fun b6=>cM 6 hGF rfl rfl rfl sizeOf246 rfl dc rfl<|Asg rfl<|aa<|ah<|ae (E:=EE [193,2000193])<|Mv rfl<|Bnb true rfl rfl (fun _=>aX _ _ _) (rfl)<|aa<|aV rfl<|ae (E:=EE [193,2000193])<|Mv rfl<|Asg rfl<|Asg rfl<|aa<|am<|Rr<|?_
 exact cY rfl rfl rfl (fun w hw=>⟨rfl,ac hw⟩)
theorem N3(msg dst:L8)(hbad: ¬Xm.FBad msg dst 2)(a1:Option Addr)(cap1:Nat)(a2:Option Addr)(cap2:Nat)(w:World)(hl1:msg.length≤65600)(hc1:msg.length≤cap1)(hl2:dst.length≤1000)(hc2:dst.length≤cap2)(hw:Gt w)(hb1:BytesAt w a1 msg)(hb2:BytesAt w a2 dst):CLS 144 [.slice a1 msg.length cap1,.slice a2 dst.length cap2].toArray w (fun e w'=> ∃b cap b1,e=.returned (.tuple #[.func (.func 194) #[] #[pnt b1],I 0])∧Grow w w'∧w.heap.size≤b∧w'.rangeAt b 0 (U2c msg dst)∧w.heap.size≤b1∧w'.rangeAt b1 0 [.slice (spt b) 2 cap]):=by
 refine Hf func144 rfl hw<|fun hGF=>ae (E:=EE [193,2000193])<|Asg rfl<|Asg rfl<|aa<|ae (E:=EE [193,2000193])<|Mv rfl<|Mv rfl<|?_
 refine bI rfl rfl ent193 rfl rfl (fun w' hw'=>(Xm.pfc a1 cap1 msg a2 cap2 dst 2 w' om hc1 om hc2 (hGF.g _ _ _ hw') (hb1.grow (ac hw')) (hb2.grow (ac hw'))).mono fun e w'' h=> ?_)
 obtain ⟨v,rfl,hg,hq⟩:=h
 obtain ⟨b,cap,rfl,hbs,hbr⟩:=BM hq hbad
 refine ⟨_,_,rfl,au (pH hGF),Mn hw' ak hg hbs (GF hbr) hbr,fun _ h=>kk h, ?_⟩
 have hbs0:w.heap.size≤b:=Nat.le_trans (ac hw').size hbs
 clear hq hg hw' hbs hbr
 refine Mv rfl<|Ext rfl rfl<|Ext rfl rfl<|eP 6 (pH hGF) zeroValue246 rfl rfl<|fun b6=>cM 6 (pH hGF) rfl rfl rfl sizeOf246 rfl dc rfl<|Asg rfl<|aa<|ah<|ae (E:=EE [193,2000193])<|Mv rfl<|Bnb false rfl rfl (fun _=>aX _ _ _) (rfl)<|aa<|aq rfl<|ap<|ae (E:=EE [193,2000193])<|eV rfl rfl rfl rfl<|Asg rfl<|Asg rfl<|aa<|am<|Rr<|?_
 exact cY rfl rfl rfl (fun w hw=>⟨b,cap,b6,rfl,hbl hw,hbs0,Dz hw,(hw.own 6 b6 _ _ rfl).2.elim id False.elim,(hw.own 6 b6 _ _ rfl).1.range⟩)
theorem AU(f:Nat→W2)(p:Nat→GP)(hm0: ∀k,k<2→PUR 196 [EV2 (f k)] (PtV (p k)))(b1 b cap:Nat)(w:World)(hw:Gt w)(hRs: ∀w',Grow w w'→RdE b1 b cap f w'):
 CLS 146 [.func (.func 194) #[] #[pnt b1]].toArray w (fun r w'=>r=.returned (PtV (gS p 2))∧Grow w w'):=by
 have hGF:BOk Gt (pl w):=gt_low.plain hw
 refine bV (G:=Gt) func146 rfl rfl (Hp (pl w) []) (bO (pl w) trivial ak) (au hGF)<|Xp<|Al 2 hGF zv94<|fun b2=>aa<|Xp<|Al 3 hGF zv94<|fun b3=>aa<|ah<|Xp<|Mv rfl<|aa<|aj<|?_
 refine ef (fun _=>pl w) (fun _ _=>pl w) (fun _=>hGF) (fun _ _=>hGF) (fun _=>rfl) (fun _ _=>rfl) rfl rfl ent194 (jO b1 b cap f) (fun x hx=>by obtain ⟨k,hk,rfl⟩:=List.mem_map.1 hx;rfl) rfl (fun k=>[(2,b2,(GL (cI)).map U64,94),(3,b3,(GL (gS p k)).map U64,94)]) (fun _ _ _=>False) trv (fun k _ w' h=>hRs w' (h.below (fun _ h=>h))) ?_ ?_ (fun _ _ _ _ _ h=>h.elim)
 ·intro k v hx R hR
  obtain ⟨hk,rfl⟩:=P2 f k v hx
  have hm:=hm0 k hk
  refine Xq<|cO 4 (hR (pl w) rfl hGF).1 zv92 rfl rfl<|fun b4=>ao 4 (hR (pl w) rfl hGF).1 rfl rfl rfl sizeOf92 sm sm (bk _) rfl<|aa<|?_
  refine ⟨rfl,_,rfl, ?_⟩
  refine aj<|Xe []<|La 3 rfl rfl bG<|La 4 rfl rfl aH<|Ca rfl (hm)<|Ca rfl (xW _ _)<|ao 3 (hR (pl w) rfl hGF).2.1 rfl rfl rfl sizeOf94 sm sm (bk _) rfl<|aa<|?_
  repeat (refine a7 ?_)
  exact ⟨_,rfl,trv⟩
 ·intro D hD
  rw[tQ]
  refine Xp<|La 3 rfl rfl bG<|Sa 2 hD rfl rfl rfl bG<|aa<|am<|Rr<|?_
  exact cP (.inl rfl) ak (ay 2 rfl rfl rfl isAgg94 sizeOf94 sm (fun w hw=>⟨rfl,ac hw⟩))
theorem Ot{B:Bs}{L:Hl}{Y:Nat→Prop}{w w':World}{b d:Nat}{cs ds:List Value}(h:Hq B L Y w)(hr:Rides B.J)(hg:Grow w w')(hb:w.heap.size≤b)(hb':b<w'.heap.size)(hc:w'.rangeAt b 0 cs)(hd:w.heap.size≤d)(hd':d<w'.heap.size)(he:w'.rangeAt d 0 ds):Hq (pj (pj B b cs) d ds) L Y w':=by
 have k:=Mn h hr hg hb hb' hc
 refine ⟨k.os,k.tape,k.output,k.size,k.keep,k.own,k.inj,k.apart,k.high,k.lt,k.rid,fun e=> ?_,hd',he⟩
 rcases e with e|e
 ·have:=h.ownlt e;omega
 ·have:=h.lt _ e;omega
theorem Qo{w w':World}{b1 b cap:Nat}{f:Nat→W2}(h1:w.rangeAt b1 0 [.slice (spt b) 2 cap])(h2:w.rangeAt b 0 ((RW 12 (RPr f) 2).map U64))(hg:Grow w w'):RdE b1 b cap f w':=⟨(mj h1 hg) 0 _ rfl,mj h2 hg⟩
theorem AW(msg dst:L8)(hbad:Xm.FBad msg dst 2)(a1:Option Addr)(cap1:Nat)(a2:Option Addr)(cap2:Nat)(w:World)(hl1:msg.length≤65600)(hc1:msg.length≤cap1)(hl2:dst.length≤1000)(hc2:dst.length≤cap2)(hw:Gt w)(hb1:BytesAt w a1 msg)(hb2:BytesAt w a2 dst):CLS 94 [.slice a1 msg.length cap1,.slice a2 dst.length cap2].toArray w (fun e w'=>e=.returned (.tuple #[PtV cI,I 130])∧Grow w w'):=by
 refine Hf func94 rfl hw<|fun hGF=>ae (E:=EE [144,2000144])<|Al 4 hGF zv94<|fun b4=>Asg rfl<|aa<|ae (E:=EE [144,2000144])<|Mv rfl<|Mv rfl<|?_
 refine bI rfl rfl ent144 rfl rfl (fun w' hw'=>(I3 msg dst hbad a1 cap1 a2 cap2 w' hl1 hc1 hl2 hc2 (hGF.g _ _ _ hw') (hb1.grow (ac hw')) (hb2.grow (ac hw'))).mono fun e w'' h=> ?_)
 obtain ⟨rfl,hg⟩:=h
 refine ⟨_,_,rfl,au hGF,hw'.grow ak hg,fun _ h=>h, ?_⟩
 clear hg hw'
 refine Mv rfl<|Ext rfl rfl<|Ext rfl rfl<|Asg rfl<|Asg rfl<|aa<|ah<|ae (E:=EE [144,2000144])<|Mv rfl<|Bnb true rfl rfl (fun _=>aX _ _ _) (rfl)<|aa<|aV rfl<|ae (E:=EE [144,2000144])<|iI n8 rfl rfl<|Mv rfl<|Sa 4 hGF rfl rfl rfl bG<|Asg rfl<|aa<|am<|Rr<|?_
 exact aZ 4 rfl rfl rfl rfl isAgg94 sizeOf94 sm (fun w hw=>⟨rfl,ac hw⟩)
theorem GQ(msg dst:L8)(hbad: ¬Xm.FBad msg dst 2)(p:Nat→GP)(hm0: ∀k,k<2→PUR 196 [EV2 (U2n msg dst k)] (PtV (p k)))(a1:Option Addr)(cap1:Nat)(a2:Option Addr)(cap2:Nat)(w:World)(hl1:msg.length≤65600)(hc1:msg.length≤cap1)(hl2:dst.length≤1000)(hc2:dst.length≤cap2)(hw:Gt w)(hb1:BytesAt w a1 msg)(hb2:BytesAt w a2 dst):CLS 94 [.slice a1 msg.length cap1,.slice a2 dst.length cap2].toArray w (fun e w'=>e=.returned (.tuple #[PtV (gCl (gS p 2)),I 0])∧Grow w w'):=by
 refine Hf func94 rfl hw<|fun hGF=>ae (E:=EE [144,2000144])<|Al 4 hGF zv94<|fun b4=>Asg rfl<|aa<|ae (E:=EE [144,2000144])<|Mv rfl<|Mv rfl<|?_
 refine bI rfl rfl ent144 rfl rfl (fun w' hw'=>(N3 msg dst hbad a1 cap1 a2 cap2 w' hl1 hc1 hl2 hc2 (hGF.g _ _ _ hw') (hb1.grow (ac hw')) (hb2.grow (ac hw'))).mono fun e w'' h=> ?_)
 obtain ⟨b,cap,b1,rfl,hg,hbs,hbr,hds,hdr⟩:=h
 refine ⟨_,_,rfl,au (pH (pH hGF)),Ot hw' ak hg hbs (GF hbr) hbr hds (block_lt_of_cell (hdr 0 _ rfl)) hdr,fun _ h=>kk (kk h), ?_⟩
 clear hg hw' hbs hbr hds hdr
 refine Mv rfl<|Ext rfl rfl<|Ext rfl rfl<|Asg rfl<|Asg rfl<|aa<|ah<|ae (E:=EE [144,2000144])<|Mv rfl<|Bnb false rfl rfl (fun _=>aX _ _ _) (rfl)<|aa<|aq rfl<|ap<|ae (E:=EE [144,2000144])<|Mv rfl<|Cc rfl ent146 (fun w' hC hG=>AU (U2n msg dst) p hm0 b1 b cap w' hG (fun w'' hg=>Qo (Dz hC) (Dz (kk hC)) hg))<|Ca rfl (QR _)<|Sa 4 (pH (pH hGF)) rfl rfl rfl bG<|Asg rfl<|aa<|am<|Rr<|?_
 exact aZ 4 rfl rfl rfl rfl isAgg94 sizeOf94 sm (fun w hw=>⟨rfl,hbl hw⟩)
theorem phs:PHs:=by
 refine ⟨fun msg dst hb=>⟨cI,rfl,fun a1 cap1 a2 cap2 w=>AW msg dst hb a1 cap1 a2 cap2 w⟩,fun msg dst A B hb h=> ?_⟩
 obtain ⟨p0,e0,h0⟩:=LU h.s0
 obtain ⟨p1,e1,h1⟩:=LU h.s1
 refine ⟨gCl (gS (fun k=>if k=0 then p0 else p1) 2), ?_,fun a1 cap1 a2 cap2 w=>GQ msg dst hb _ (fun k hk=> ?_) a1 cap1 a2 cap2 w⟩
 ·rw[Ty,gS_P (A:=A) (B:=B) e0 e1]
 ·match k,hk with
  |0,_=>exact h0
  |1,_=>exact h1
end
section
open Go.RowKit
theorem df(P:Pt Zp):(EN1 P).length=48:=by
 cases P with
 |none=>rfl
 |some p=>exact (ot _ _).trans (aB _)
theorem ck(P:Pt W2):(EN2 P).length=96:=by
 cases P with
 |none=>rfl
 |some p=>exact (ot _ _).trans (by rw[List.length_append,aB,aB])
attribute [local simp] aW bd aU aP aD bf aL aK aB PLl cm cq N1l cr cp cu a8 bg aQ a6 bc J1.bj J2.bj bL eX df ck
attribute [local simp] gg
theorem ent14:ai prog 14:=fun _ _=>kr
theorem ent20:ai prog 20:=fun _ _=>kr
theorem ent33:ai prog 33:=fun _ _=>kr
theorem ent34:ai prog 34:=fun _ _=>kr
theorem ent29:ai prog 29:=fun _ _=>kr
theorem ent37:ai prog 37:=fun _ _=>kr
theorem ent64:ai prog 64:=fun _ _=>kr
theorem ent72:ai prog 72:=fun _ _=>kr
theorem ent44:ai prog 44:=fun _ _=>kr
theorem ent70:ai prog 70:=fun _ _=>kr
theorem ent71:ai prog 71:=fun _ _=>kr
theorem ent126:ai prog 126:=fun _ _=>kr
theorem ent127:ai prog 127:=fun _ _=>kr
theorem ent183:ai prog 183:=fun _ _=>kr
theorem ent184:ai prog 184:=fun _ _=>kr
theorem zv30(w:World):(zeroValue 30).run prog w=.ok (.agg ((List.replicate 48 (0#8)).map U8).toArray) w:=(zeroValue30 w).trans rr
theorem zv33(w:World):(zeroValue 33).run prog w=.ok (.agg ((List.replicate 96 (0#8)).map U8).toArray) w:=(zeroValue33 w).trans rr
theorem Pq(x:Zr):PUR 13 [RV x] (.agg ((EN1 (J1.qY J1.qO x).P).map U8).toArray):=by
 intro w hw
 refine Hf func13 rfl hw<|fun hGF=>Xp<|Bx 1 hGF rfl<|fun b1=>Al 2 hGF zv30<|fun b2=>aa<|Xd []<|Ca rfl (J1.DA)<|La 1 rfl rfl cw<|Ca rfl (J1.tf _ x)<|Ca rfl (Gh _)<|ao 2 hGF rfl rfl rfl sizeOf30 (by simp[*]) sm (bi _) rfl<|aa<|am<|Rr<|?_
 exact ay 2 rfl rfl rfl isAgg30 sizeOf30 sm (fun w hw=>⟨rfl,ac hw⟩)
theorem Wh:SUb.data.toList=SUs.map (fun x=>UInt8.ofBitVec x):=rfl
def HsC(msg:L8)(p:J2.GP)(c:Int):Prop:= ∀(a1:Option Addr) (cap1:Nat) (a2:Option Addr) (cap2:Nat) (w:World),msg.length≤65600→msg.length≤cap1→SUs.length≤1000→SUs.length≤cap2→Gt w→BytesAt w a1 msg→BytesAt w a2 SUs→CLS 94 [.slice a1 msg.length cap1,.slice a2 SUs.length cap2].toArray w (fun e w'=>e=.returned (.tuple #[J2.PtV p,I c])∧Grow w w')
structure Ms(msg:L8)(p:J2.GP)(c:Int):Prop where
 h:HsC msg p c
 r:E2w.times p.P ORD=none
theorem VR{msg:L8}(h: ¬Xm.FBad msg SUs 2): ∃p:J2.GP,Ms msg p 0:=by
 obtain ⟨A,B,hs⟩:=Ce msg SUs
 obtain ⟨p,hp,hc⟩:=phs.ok _ _ _ _ h hs
 exact ⟨p,hc,Ta (B3 hs) hp⟩
theorem NJ(msg:L8)(p:J2.GP)(c:Int)(hM:Ms msg p c)(a:Option Addr)(cap:Nat)(w:World)(hl:msg.length≤65600)(hc:msg.length≤cap)(hw:Gt w)(hb:BytesAt w a msg):CLS 44 [.slice a msg.length cap].toArray w (fun r w'=>r=.returned (.tuple #[J2.PtV p,I c])∧Grow w w'):=by
 refine Hf func44 rfl hw<|fun hGF=>ae (E:=EE [1000022])<|Al 2 hGF J2.zv94<|fun b2=>Asg rfl<|aa<|ae (E:=EE [1000022])<|Mv rfl<|Ca rfl (N9)<|?_
 refine xz 6 (xs:=SUs) rfl hGF rfl underlying9 underlying22 underlying5 Wh rfl rfl (fun b6 c6 k6 e6 l6 t6=> ?_)
 refine Cc rfl ent94 (fun w' hC hG=>hM.h a cap _ _ w' hl hc dc l6 hG (hb.grow (ac hC)) (cz (aO (n:=6) rfl w' hC) t6))<|Ext rfl rfl<|Ext rfl rfl<|Sa 2 hGF rfl rfl rfl bG<|Asg rfl<|aa<|am<|Rr<|?_
 exact aZ 2 rfl rfl rfl rfl isAgg94 sizeOf94 sm (fun w hw=>⟨rfl,ac hw⟩)
theorem u5(x:Zr)(msg:L8)(p:J2.GP)(hM:Ms msg p 0)(a:Option Addr)(cap:Nat)(w:World)(hl:msg.length≤65600)(hc:msg.length≤cap)(hw:Gt w)(hb:BytesAt w a msg):CLS 14 [RV x,.slice a msg.length cap].toArray w (fun r w'=>r=.returned (.tuple #[.agg ((EN2 (J2.qY p x).P).map U8).toArray,I 0])∧Grow w w'):=by
 refine Hf func14 rfl hw<|fun hGF=>Xp<|Bx 2 hGF rfl<|fun b2=>Al 4 hGF zv33<|fun b4=>Asg rfl<|aa<|Xp<|Mv rfl<|Cc rfl ent44 (fun w' hC hG=>NJ msg p _ hM a cap w' hl hc hG (hb.grow (ac hC)))<|Mv rfl<|Ext rfl rfl<|Ext rfl rfl<|Al 6 hGF J2.zv94<|fun b6=>Sa 6 hGF rfl rfl rfl bG<|Asg rfl<|aa<|ah<|Xp<|Mv rfl<|Bnb false rfl rfl (fun _=>aX _ _ _) (rfl)<|aa<|aq rfl<|ap<|Xp<|La 6 rfl rfl bG<|La 2 rfl rfl cw<|Ca rfl (J2.tf _ x)<|Ca rfl (Cu _)<|ao 4 hGF rfl rfl rfl sizeOf33 (by simp[*]) sm (bi _) rfl<|Asg rfl<|aa<|am<|Rr<|?_
 exact aZ 4 rfl rfl rfl rfl isAgg33 sizeOf33 sm (fun w hw=>⟨rfl,ac hw⟩)
theorem HW(bs:L8)(hn:bs.length=48)(P:Pt Zp)(h0:P=none)(hD:D1 bs 0 P):PUR 20 [.agg ((bs).map U8).toArray] (.tuple #[J1.PtV J1.cI,I 160]):=by
 intro w hw
 refine Hf func20 rfl hw<|fun hGF=>Xp<|Bx 1 hGF rfl<|fun b1=>Al 2 hGF J1.zv54<|fun b2=>Asg rfl<|aa<|Xp<|cf (l:=0) (h':=48) rfl underlying30 sizeOf5 rfl rfl dc dc rfl rfl<|Cc rfl ent55 (fun w' hC hG=>GJ _ 48 48 bs hn _ P hD dc w' hG (BytesAt.range (aO (n:=1) rfl w' hC)))<|Mv rfl<|Ext rfl rfl<|Ext rfl rfl<|Al 4 hGF J1.zv54<|fun b4=>Sa 4 hGF rfl rfl rfl bT<|Asg rfl<|aa<|ah<|aj<|Xp<|Mv rfl<|Bnb false rfl rfl (fun _=>aX _ _ _) (rfl)<|Asg rfl<|aa<|aq rfl<|Xp<|La 4 rfl rfl bT<|Cbl true rfl ent26 (J1.sS _) (decide_eq_true h0)<|Asg rfl<|aa<|aV rfl<|Xp<|Ca rfl (J1.kS)<|Sa 2 hGF rfl rfl rfl bT<|Asg rfl<|aa<|am<|Rr<|?_
 exact aZ 2 rfl rfl rfl rfl isAgg54 sizeOf54 sm (fun w hw=>⟨rfl,ac hw⟩)
theorem Rj(bs:L8)(hn:bs.length=48)(P:Pt Zp)(h0: ¬P=none)(hD:D1 bs 0 P):PUR 20 [.agg ((bs).map U8).toArray] (.tuple #[J1.PtV (cA1 P (qT hD)),I 0]):=by
 intro w hw
 refine Hf func20 rfl hw<|fun hGF=>Xp<|Bx 1 hGF rfl<|fun b1=>Al 2 hGF J1.zv54<|fun b2=>Asg rfl<|aa<|Xp<|cf (l:=0) (h':=48) rfl underlying30 sizeOf5 rfl rfl dc dc rfl rfl<|Cc rfl ent55 (fun w' hC hG=>GJ _ 48 48 bs hn _ P hD dc w' hG (BytesAt.range (aO (n:=1) rfl w' hC)))<|Mv rfl<|Ext rfl rfl<|Ext rfl rfl<|Al 4 hGF J1.zv54<|fun b4=>Sa 4 hGF rfl rfl rfl bT<|Asg rfl<|aa<|ah<|aj<|Xp<|Mv rfl<|Bnb false rfl rfl (fun _=>aX _ _ _) (rfl)<|Asg rfl<|aa<|aq rfl<|Xp<|La 4 rfl rfl bT<|Cbl false rfl ent26 (J1.sS _) (decide_eq_false h0)<|Asg rfl<|aa<|aq rfl<|ap<|Xp<|La 4 rfl rfl bT<|Sa 2 hGF rfl rfl rfl bT<|Asg rfl<|aa<|am<|Rr<|?_
 exact aZ 2 rfl rfl rfl rfl isAgg54 sizeOf54 sm (fun w hw=>⟨rfl,ac hw⟩)
theorem Ni(bs:L8)(hn:bs.length=96)(c:Int)(P:Pt W2)(hD:D2 bs c P):PUR 72 [.agg ((bs).map U8).toArray] (.tuple #[J2.PtV (cA2 P (iH hD)),I c]):=by
 intro w hw
 refine Hf func72 rfl hw<|fun hGF=>Xp<|Bx 1 hGF rfl<|fun b1=>Al 2 hGF J2.zv94<|fun b2=>Asg rfl<|aa<|Xp<|cf (l:=0) (h':=96) rfl underlying33 sizeOf5 rfl rfl dc dc rfl rfl<|Cc rfl ent128 (fun w' hC hG=>MY _ 96 96 bs hn _ P hD dc w' hG (BytesAt.range (aO (n:=1) rfl w' hC)))<|Ext rfl rfl<|Ext rfl rfl<|Sa 2 hGF rfl rfl rfl bG<|Asg rfl<|aa<|am<|Rr<|?_
 exact aZ 2 rfl rfl rfl rfl isAgg94 sizeOf94 sm (fun w hw=>⟨rfl,ac hw⟩)
end
section
open Go.RowKit
attribute [local simp] aW bd aU aP aD bf aL aK aB PLl cm cq N1l cr cp cu a8 bg aQ a6 bc J1.bj J2.bj bL eX df ck
attribute [local simp] gg
theorem Jp{w w':World}{b o:Nat}{c:List Value}(h:w.rangeAt b o c)(hg:Grow w w'):w'.rangeAt b o c:=fun j v hv=>(hg.cell (block_lt_of_cell (h j v hv))).trans (h j v hv)
theorem n5{n m x y:Nat}{c d:List Value}{s t:TypeId}(hx:x≠y): ∀n' m' b c1 t1 c2 t2,lkB [(n,x,c,s),(m,y,d,t)] n'=some (b,c1,t1)→lkB [(n,x,c,s),(m,y,d,t)] m'=some (b,c2,t2)→n'=m':=by
 intro n' m' b c1 t1 c2 t2 h1 h2
 rcases aC h1 with ⟨e1,k1⟩|⟨_,h1⟩
 ·rcases aC h2 with ⟨e2,_⟩|⟨_,h2⟩
  ·exact e1.trans e2.symm
  ·rcases aC h2 with ⟨_,k2⟩|⟨_,h2⟩
   ·cases k1;cases k2;exact absurd rfl hx
   ·cases h2
 ·rcases aC h1 with ⟨e1,k1⟩|⟨_,h1⟩
  ·rcases aC h2 with ⟨_,k2⟩|⟨_,h2⟩
   ·cases k1;cases k2;exact absurd rfl hx
   ·rcases aC h2 with ⟨e2,_⟩|⟨_,h2⟩
    ·exact e1.trans e2.symm
    ·cases h2
  ·cases h1
def KsAt(w:World)(b s n:Nat)(K:Nat→L8):Prop:= ∀i,i<n→w.rangeAt b (0+s*i) ((K i).map U8)
theorem KsAt.up{w w':World}{b s n:Nat}{K:Nat→L8}(h:KsAt w b s n K)(hg:Grow w w'):KsAt w' b s n K:=fun i hi=>Jp (h i hi) hg
namespace J1
def gSm(p:Nat→GP):Nat→GP
 |0=>cI
 |i+1=>BQ (gSm p i) (p i)
def PEs(p:Nat→GP)(e:Nat→Int)(n:Nat):List (List Value):=(List.range n).map fun (k:Nat)=>[PtV (p k),I (e k)]
theorem jj(p:Nat→GP)(e:Nat→Int)(n:Nat):(PEs p e n).length=n:=by rw[PEs,List.length_map,List.length_range]
theorem lJ(p:Nat→GP)(e:Nat→Int){n k:Nat}(h:k<n):(PEs p e n)[k]? =some [PtV (p k),I (e k)]:=by
 rw[PEs,List.getElem?_map,List.getElem?_range h];rfl
theorem xk(p:Nat→GP)(e:Nat→Int){n k:Nat}{v:List Value}(h:(PEs p e n)[k]? =some v):k<n∧v=[PtV (p k),I (e k)]:=by
 have hk:k<n:=by
  rcases Nat.lt_or_ge k n with hk|hk
  ·exact hk
  ·rw[List.getElem?_eq_none (by rw[jj];exact hk)]at h;cases h
 exact ⟨hk,(Option.some.inj ((lJ p e hk).symm.trans h)).symm⟩
structure RdK(b1 b2 b cap n:Nat)(K:Nat→L8)(w:World):Prop where
 l:w.cell? ⟨b1,0,none⟩=some (.slice (spt b) n cap)
 f:w.cell? ⟨b2,0,none⟩=some (.func (.func 20) #[] #[])
 k:KsAt w b 48 n K
def Vd(K:Nat→L8)(p:Nat→GP)(e:Nat→Int)(n:Nat):Prop:= ∀i,i<n→(K i).length=48∧PUR 20 [.agg ((K i).map U8).toArray] (.tuple #[PtV (p i),I (e i)])
theorem wL(a:Option Addr)(l c f:Nat)(w:World)(hw:Gt w):CLS 126 [.slice a l c,.func (.func f) #[] #[]].toArray w (fun e w'=> ∃b1 b2,e=.returned (.func (.func 183) #[] #[pnt b1,pnt b2])∧Grow w w'∧w.heap.size≤b1∧w.heap.size≤b2∧b1≠b2∧OwnB w' b1 [.slice a l c] 69∧OwnB w' b2 [.func (.func f) #[] #[]] 56):=by
 refine Hf func126 rfl hw<|fun hGF=>Xp<|fN 2 hGF rfl rfl rfl<|fun b2=>fN 3 hGF rfl rfl rfl<|fun b3=>Asg rfl<|aa<|Xp<|eV rfl rfl rfl rfl<|Asg rfl<|aa<|am<|Rr<|?_
 exact aE rfl rfl (fun w hw=>⟨b2,b3,rfl,ac hw,(hw.own 2 b2 _ _ rfl).2.elim id False.elim,(hw.own 3 b3 _ _ rfl).2.elim id False.elim,fun e=>(by subst e;exact absurd (hw.inj 2 3 _ _ _ _ _ rfl rfl) dc),(hw.own 2 b2 _ _ rfl).1,(hw.own 3 b3 _ _ rfl).1⟩)
theorem jO(b1 b2 b cap n:Nat)(hn:n≤1000)(K:Nat→L8)(p:Nat→GP)(e:Nat→Int)(hP:Vd K p e n):eG prog Gt 183 [pnt b1,pnt b2] (PEs p e n) (RdK b1 b2 b cap n K):=by
 intro l J Jx hJ hJx hRd hGx hY w hj
 have okJ: ∀k,BOk Gt (Bi w (fun Y=>J Y k)):=fun k=>⟨fun _ _ _ h=>(hRd _ _ _ h.rid).1,hJ k⟩
 have okX: ∀k,BOk Gt (Bi w (fun Y=>Jx Y k)):=fun k=>⟨fun _ _ _ h=>hGx _ _ _ h.rid,hJx k⟩
 have c1: ∀k L w',Hp (Bi w (fun Y=>J Y k)) L w'→RdK b1 b2 b cap n K w':=fun k L w' h=>(hRd _ _ _ h.rid).2
 refine cb (G:=Gt) func183 rfl rfl (Hp (Bi w (fun Y=>J Y 0)) []) (bO (Bi w _) hj (hJ 0)) (au (okJ 0))<|Xp<|bz rfl isAgg69 (fun w h=>(c1 _ _ w h).l) rfl rfl<|a5 rfl (fun _=>az underlying69 _ _ _ _) rfl rfl<|Mv rfl<|aa<|aj<|fB (ι:={i:Nat // i≤n}) (fun y=>[(0,.func (.yield l) #[] #[]),(1,pnt b1),(2,pnt b2),(6,.slice (spt b) n cap),(7,I (n:Int)),(8,I (y.1:Int))]) (fun y=>Bi w (fun Y=>J Y y.1)) (fun y=>[]) (fun y=>n-y.1) ⟨0,Nat.zero_le _⟩ (fun _=>okJ _) rfl trv trivial<|?_
 rintro ⟨i,hi⟩
 dsimp only
 refine Xp<|Bnr rfl rfl (fun _=>aF _ _ _)<|aa<|ah<|?_
 refine bZ rfl (fun hc=> ?_) (fun hc=> ?_)
 ·have hi2:i<n:=by simp at hc;omega
  refine ap<|ah<|aj<|Xp<|i3 (s:=48) i rfl rfl underlying69 sizeOf30 om om rfl rfl<|?_
  have hKi:=(hP i hi2).1
  refine dv (cs:=(K i).map U8) rfl isAgg30 sizeOf30 (by rw[List.length_map];exact hKi) (fun w h=>(c1 _ _ w h).k i hi2) rfl rfl<|Al 5 (okJ _) zv30<|fun b5=>ao 5 (okJ _) rfl rfl rfl sizeOf30 (by rw[List.length_map];exact hKi) sm (bi _) rfl<|aa<|Xp<|Mv rfl<|bz rfl isAgg56 (fun w h=>(c1 _ _ w h).f) rfl rfl<|a9 5 rfl rfl isAgg30 sizeOf30 (by rw[List.length_map];exact hKi) rfl rfl<|uC rfl rfl ent20 (hP i hi2).2 (okJ _) rfl rfl rfl<|Ext rfl rfl<|Ext rfl rfl<|?_
  refine cX (hY.b (k:=i) (lJ p e hi2) w) (okJ _) (okX _) rfl rfl rfl rfl rfl ?_ ?_
  ·refine aY rfl (fun _=>aJ _) rfl rfl<|aa<|aq rfl<|ap<|Xq<|Bnr rfl rfl (fun _=>aA _ _ _ oi)<|Mv rfl<|aa<|?_
   repeat (refine a7 ?_)
   exact aR<|⟨rfl,⟨i+1,om⟩,_,by show n-(i+1)<n-i;omega,rfl,trv,trivial⟩
  ·refine aY rfl (fun _=>aJ _) rfl rfl<|aa<|aV rfl<|am<|Rr<|?_
   repeat (first|refine cZ ?_|refine bY ?_|refine cU rfl ?_|refine bq ?_|refine bt ?_)
   exact cR rfl (fun w hw=>⟨⟨_,rfl⟩,.inr ⟨_,bD (hJx _) hw.rid⟩⟩)
 ·obtain rfl:i=n:=by simp at hc;omega
  refine be ?_
  repeat (first|refine cZ ?_|refine bY ?_|refine cU rfl ?_|refine bq ?_|refine bt ?_)
  refine cn rfl (fun w hw=>⟨⟨_,rfl⟩,.inl ?_⟩)
  have:=bD (hJ _) hw.rid
  rw[jj]
  exact this
theorem mU:lf prog 54 "Add" 142:=fun _ _=>kr
theorem xe(n:Nat)(h0:0<n)(hn:n≤512)(K:Nat→L8)(p:Nat→GP)(e:Nat→Int)(hP:Vd K p e n)(j:Nat)(hjn:j≤n)(he0: ∀i,i<j→e i=0)(heb:j<n→¬e j=0)(b cap:Nat)(w:World)(hw:Gt w)(hK:KsAt w b 48 n K):CLS 70 [.slice (spt b) n cap,.func (.func 20) #[] #[]].toArray w (fun r w'=>r=.returned (.tuple #[PtV (if j=n then gSm p n else cI),I (if j=n then 0 else e j)])∧Grow w w'):=by
 have hGF:BOk Gt (pl w):=gt_low.plain hw
 refine bV (G:=Gt) func70 rfl rfl (Hp (pl w) []) (bO (pl w) trivial ak) (au hGF)<|ae (E:=EE [126])<|Al 4 hGF J1.zv54<|fun b4=>Asg rfl<|aa<|gz<|ae (E:=EE [126])<|Al 6 hGF J1.zv54<|fun b6=>Al 7 hGF J1.zv54<|fun b7=>aa<|ah<|ae (E:=EE [126])<|Mv rfl<|a5 rfl (fun _=>az underlying69 _ _ _ _) rfl rfl<|Bnb false rfl rfl (fun _=>cy _ _ _) (beq_eq_false_iff_ne.2 om)<|Mv rfl<|Mv rfl<|a5 rfl (fun _=>az underlying69 _ _ _ _) rfl rfl<|Bnb false rfl rfl (fun _=>ba _ _ _) (decide_eq_false om)<|Pk rfl rfl rfl<|aa<|aq rfl<|ap<|ae (E:=EE [126])<|eP 8 hGF zeroValue34 rfl rfl<|fun b8=>cM 8 hGF rfl rfl rfl sizeOf34 rfl dc rfl<|aa<|ah<|i9<|ah<|ae (E:=EE [126])<|Mv rfl<|Mv rfl<|?_
 refine cV rfl rfl ent126 rfl rfl (fun w' hw'=>(wL _ _ _ _ w' (hGF.g _ _ _ hw')).mono fun e' w'' h=> ?_)
 obtain ⟨b1,b2,rfl,hg,h1,h2,h3,ho1,ho2⟩:=h
 refine ⟨_,_,rfl,au hGF,hw'.news ak hg [(33,b1,[.slice (spt b) n cap],69),(34,b2,[.func (.func 20) #[] #[]],56)] ?_ (n5 h3), ?_⟩
 ·intro n' b' c' t' hl
  rcases aC hl with ⟨_,e⟩|⟨_,hl⟩
  ·cases e;exact ⟨h1,ho1⟩
  rcases aC hl with ⟨_,e⟩|⟨_,hl⟩
  ·cases e;exact ⟨h2,ho2⟩
  ·cases hl
 clear hw' hg h1 h2 h3 ho1 ho2
 refine aa<|aj<|?_
 refine pR (fun k=>k≤j) (fun _=>pl w) (fun _ _=>pl w) (fun _=>hGF) (fun _ _=>hGF) (fun _=>rfl) (fun _ _=>rfl) rfl rfl ent183 (jO b1 b2 b cap n om K p e hP) (fun v hv=>by obtain ⟨k,hk,rfl⟩:=List.mem_map.1 hv;rfl) rfl (fun k=>[(4,b4,(GL (cI)).map U64,54),(6,b6,(GL (gSm p k)).map U64,54),(7,b7,(GL (cI)).map U64,54),(8,b8,[I (0)],34),(33,b1,[.slice (spt b) n cap],69),(34,b2,[.func (.func 20) #[] #[]],56)]) (fun cd _ L'=>cd=.exit 0∧j<n∧i6 L' ([(4,b4,(GL (cI)).map U64,54),(6,b6,(GL (cI)).map U64,54),(7,b7,(GL (cI)).map U64,54),(8,b8,[I (e j)],34),(33,b1,[.slice (spt b) n cap],69),(34,b2,[.func (.func 20) #[] #[]],56)])) (Nat.zero_le _) trv (fun k _ w' h=>⟨cv (n:=33) rfl rfl w' h,cv (n:=34) rfl rfl w' h,hK.up (h.below (fun _ h=>h))⟩) ?_ ?_ ?_ ?_
 ·intro k v hx hQ R hR
  obtain ⟨hk,rfl⟩:=xk p e hx
  rcases Nat.lt_or_ge k j with hkj|hkj
  ·have he:=he0 k hkj
   refine ae (E:=EE [126])<|cO 9 (hR (pl w) rfl hGF).1 J1.zv54 rfl rfl<|fun b9=>ao 9 (hR (pl w) rfl hGF).1 rfl rfl rfl sizeOf54 sm sm (bk _) rfl<|aa<|bC (E:=EE [126])<|Asg rfl<|aa<|?_
   refine ⟨rfl,_,rfl, ?_⟩
   refine aj<|ae (E:=EE [126])<|Mv rfl<|aa<|aj<|ae (E:=EE [126])<|Bnb true rfl rfl (fun _=>cy _ _ _) ((by rw[he];rfl))<|Asg rfl<|aa<|aV rfl<|bC (E:=EE [126])<|La 6 rfl rfl bT<|cE rfl underlying54 rfl rfl<|La 9 rfl rfl bT<|jB rfl rfl mU rfl ent142 (xW _ _) rfl rfl<|ao 6 (hR (pl w) rfl hGF).2.1 rfl rfl rfl sizeOf54 sm sm (bk _) rfl<|aa<|?_
   repeat (refine a7 ?_)
   exact ⟨_,rfl,Jk (Q:=fun k=>k≤j) om ⟨rfl,rfl,rfl,rfl,rfl,rfl,trivial⟩⟩
  ·obtain rfl:k=j:=Nat.le_antisymm hQ hkj
   have he:=heb hk
   refine ae (E:=EE [126])<|cO 9 (hR (pl w) rfl hGF).1 J1.zv54 rfl rfl<|fun b9=>ao 9 (hR (pl w) rfl hGF).1 rfl rfl rfl sizeOf54 sm sm (bk _) rfl<|aa<|bC (E:=EE [126])<|Asg rfl<|aa<|?_
   refine ⟨rfl,_,rfl, ?_⟩
   refine aj<|ae (E:=EE [126])<|Mv rfl<|aa<|aj<|ae (E:=EE [126])<|Bnb false rfl rfl (fun _=>cy _ _ _) (beq_eq_false_iff_ne.2 he)<|Asg rfl<|aa<|aq rfl<|ae (E:=EE [126])<|La 7 rfl rfl bT<|Mv rfl<|ao 6 (hR (pl w) rfl hGF).2.1 rfl rfl rfl sizeOf54 sm sm (bk _) rfl<|cM 8 (hR (pl w) rfl hGF).2.1 rfl rfl rfl sizeOf34 rfl dc rfl<|aa<|be<|?_
   repeat (first|refine bY ?_|refine cU rfl ?_)
   exact ⟨_,rfl,rfl,hk,trv⟩
 ·intro hQ D hD
  rw[jj]at*
  obtain rfl:j=n:=Nat.le_antisymm hjn hQ
  refine kq (E:=EE [126]) (fun X=>X=Hp (B2 (pl w) D) [(8,b8,[I (0)],34)]) (mkB [4]) (rkB [35]) [0,1,2,3] dC rfl kr kr kr<|gc rfl rfl<|La 6 rfl rfl bT<|aa<|mt (X:=Hp (B2 (pl w) D) [(8,b8,[I (0)],34)]) rfl (db hD.r trv) (fun _=>rfl)<|ch 8 rfl rfl rfl isAgg34 rfl rfl<|aa<|kp rfl<|Sa 4 hD rfl rfl rfl bT<|aa<|?_
  refine ⟨fun _ X hX _=>by subst hX;exact db hD.r trv, ?_⟩
  refine gc rfl rfl<|Asg rfl<|aa<|ik<|am<|?_
  repeat (first|refine bq ?_|refine bt ?_|refine dO ?_)
  exact cP (.inl rfl) ak (aZ 4 rfl rfl rfl rfl isAgg54 sizeOf54 sm (fun w hw=>⟨by rw[if_pos rfl,if_pos rfl],ac hw⟩))
 ·intro D hb
  repeat (first|refine a7 ?_|refine aR ?_|refine zR ?_)
  exact mp hb
 ·rintro D cd k L' hD ⟨rfl,hlt,hsub⟩
  refine LP (db hD.r hsub) (au hD)<|kq (E:=EE [126]) (fun X=>X=Hp (B2 (pl w) D) [(8,b8,[I (e j)],34)]) (mkB [4]) (rkB [35]) [0,1,2,3] dC rfl kr kr kr<|gc rfl rfl<|La 6 rfl rfl bT<|aa<|mt (X:=Hp (B2 (pl w) D) [(8,b8,[I (e j)],34)]) rfl (db hD.r trv) (fun _=>rfl)<|ch 8 rfl rfl rfl isAgg34 rfl rfl<|aa<|kp rfl<|Sa 4 hD rfl rfl rfl bT<|aa<|?_
  refine ⟨fun _ X hX _=>by subst hX;exact db hD.r trv, ?_⟩
  refine gc rfl rfl<|Asg rfl<|aa<|ik<|am<|?_
  repeat (first|refine bq ?_|refine bt ?_|refine dO ?_)
  exact cP (.inl rfl) ak (aZ 4 rfl rfl rfl rfl isAgg54 sizeOf54 sm (fun w hw=>⟨by rw[if_neg om,if_neg om],ac hw⟩))
theorem vq(n:Nat)(hn:n=0)(v:Value)(a:Option Addr)(cap:Nat)(w:World)(hw:Gt w):CLS 70 [.slice a n cap,v].toArray w (fun r w'=>r=.returned (.tuple #[PtV cI,I 161])∧Grow w w'):=by
 refine Hf func70 rfl hw<|fun hGF=>ae (E:=EE [126])<|Al 4 hGF J1.zv54<|fun b4=>Asg rfl<|aa<|gz<|ae (E:=EE [126])<|Al 6 hGF J1.zv54<|fun b6=>Al 7 hGF J1.zv54<|fun b7=>aa<|ah<|ae (E:=EE [126])<|Mv rfl<|a5 rfl (fun _=>az underlying69 _ _ _ _) rfl rfl<|Bnb true rfl rfl (fun _=>cy _ _ _) (beq_iff_eq.2 om)<|Mv rfl<|Sk<|Sk<|Sk<|Pk rfl rfl rfl<|aa<|aV rfl<|ae (E:=EE [126])<|La 7 rfl rfl bT<|Sa 4 hGF rfl rfl rfl bT<|Asg rfl<|aa<|am<|?_
 repeat (first|refine bq ?_|refine bt ?_|refine dO ?_)
 exact aZ 4 rfl rfl rfl rfl isAgg54 sizeOf54 sm (fun w hw=>⟨rfl,ac hw⟩)
end J1
namespace J2
def gSm(p:Nat→GP):Nat→GP
 |0=>cI
 |i+1=>BQ (gSm p i) (p i)
def PEs(p:Nat→GP)(e:Nat→Int)(n:Nat):List (List Value):=(List.range n).map fun (k:Nat)=>[PtV (p k),I (e k)]
theorem jj(p:Nat→GP)(e:Nat→Int)(n:Nat):(PEs p e n).length=n:=by rw[PEs,List.length_map,List.length_range]
theorem lJ(p:Nat→GP)(e:Nat→Int){n k:Nat}(h:k<n):(PEs p e n)[k]? =some [PtV (p k),I (e k)]:=by
 rw[PEs,List.getElem?_map,List.getElem?_range h];rfl
theorem xk(p:Nat→GP)(e:Nat→Int){n k:Nat}{v:List Value}(h:(PEs p e n)[k]? =some v):k<n∧v=[PtV (p k),I (e k)]:=by
 have hk:k<n:=by
  rcases Nat.lt_or_ge k n with hk|hk
  ·exact hk
  ·rw[List.getElem?_eq_none (by rw[jj];exact hk)]at h;cases h
 exact ⟨hk,(Option.some.inj ((lJ p e hk).symm.trans h)).symm⟩
structure RdK(b1 b2 b cap n:Nat)(K:Nat→L8)(w:World):Prop where
 l:w.cell? ⟨b1,0,none⟩=some (.slice (spt b) n cap)
 f:w.cell? ⟨b2,0,none⟩=some (.func (.func 72) #[] #[])
 k:KsAt w b 96 n K
def Vd(K:Nat→L8)(p:Nat→GP)(e:Nat→Int)(n:Nat):Prop:= ∀i,i<n→(K i).length=96∧PUR 72 [.agg ((K i).map U8).toArray] (.tuple #[PtV (p i),I (e i)])
theorem wL(a:Option Addr)(l c f:Nat)(w:World)(hw:Gt w):CLS 127 [.slice a l c,.func (.func f) #[] #[]].toArray w (fun e w'=> ∃b1 b2,e=.returned (.func (.func 184) #[] #[pnt b1,pnt b2])∧Grow w w'∧w.heap.size≤b1∧w.heap.size≤b2∧b1≠b2∧OwnB w' b1 [.slice a l c] 72∧OwnB w' b2 [.func (.func f) #[] #[]] 134):=by
 refine Hf func127 rfl hw<|fun hGF=>Xp<|fN 2 hGF rfl rfl rfl<|fun b2=>fN 3 hGF rfl rfl rfl<|fun b3=>Asg rfl<|aa<|Xp<|eV rfl rfl rfl rfl<|Asg rfl<|aa<|am<|Rr<|?_
 exact aE rfl rfl (fun w hw=>⟨b2,b3,rfl,ac hw,(hw.own 2 b2 _ _ rfl).2.elim id False.elim,(hw.own 3 b3 _ _ rfl).2.elim id False.elim,fun e=>(by subst e;exact absurd (hw.inj 2 3 _ _ _ _ _ rfl rfl) dc),(hw.own 2 b2 _ _ rfl).1,(hw.own 3 b3 _ _ rfl).1⟩)
theorem jO(b1 b2 b cap n:Nat)(hn:n≤1000)(K:Nat→L8)(p:Nat→GP)(e:Nat→Int)(hP:Vd K p e n):eG prog Gt 184 [pnt b1,pnt b2] (PEs p e n) (RdK b1 b2 b cap n K):=by
 intro l J Jx hJ hJx hRd hGx hY w hj
 have okJ: ∀k,BOk Gt (Bi w (fun Y=>J Y k)):=fun k=>⟨fun _ _ _ h=>(hRd _ _ _ h.rid).1,hJ k⟩
 have okX: ∀k,BOk Gt (Bi w (fun Y=>Jx Y k)):=fun k=>⟨fun _ _ _ h=>hGx _ _ _ h.rid,hJx k⟩
 have c1: ∀k L w',Hp (Bi w (fun Y=>J Y k)) L w'→RdK b1 b2 b cap n K w':=fun k L w' h=>(hRd _ _ _ h.rid).2
 refine cb (G:=Gt) func184 rfl rfl (Hp (Bi w (fun Y=>J Y 0)) []) (bO (Bi w _) hj (hJ 0)) (au (okJ 0))<|Xp<|bz rfl isAgg72 (fun w h=>(c1 _ _ w h).l) rfl rfl<|a5 rfl (fun _=>az underlying72 _ _ _ _) rfl rfl<|Mv rfl<|aa<|aj<|fB (ι:={i:Nat // i≤n}) (fun y=>[(0,.func (.yield l) #[] #[]),(1,pnt b1),(2,pnt b2),(6,.slice (spt b) n cap),(7,I (n:Int)),(8,I (y.1:Int))]) (fun y=>Bi w (fun Y=>J Y y.1)) (fun y=>[]) (fun y=>n-y.1) ⟨0,Nat.zero_le _⟩ (fun _=>okJ _) rfl trv trivial<|?_
 rintro ⟨i,hi⟩
 dsimp only
 refine Xp<|Bnr rfl rfl (fun _=>aF _ _ _)<|aa<|ah<|?_
 refine bZ rfl (fun hc=> ?_) (fun hc=> ?_)
 ·have hi2:i<n:=by simp at hc;omega
  refine ap<|ah<|aj<|Xp<|i3 (s:=96) i rfl rfl underlying72 sizeOf33 om om rfl rfl<|?_
  have hKi:=(hP i hi2).1
  refine dv (cs:=(K i).map U8) rfl isAgg33 sizeOf33 (by rw[List.length_map];exact hKi) (fun w h=>(c1 _ _ w h).k i hi2) rfl rfl<|Al 5 (okJ _) zv33<|fun b5=>ao 5 (okJ _) rfl rfl rfl sizeOf33 (by rw[List.length_map];exact hKi) sm (bi _) rfl<|aa<|Xp<|Mv rfl<|bz rfl isAgg134 (fun w h=>(c1 _ _ w h).f) rfl rfl<|a9 5 rfl rfl isAgg33 sizeOf33 (by rw[List.length_map];exact hKi) rfl rfl<|uC rfl rfl ent72 (hP i hi2).2 (okJ _) rfl rfl rfl<|Ext rfl rfl<|Ext rfl rfl<|?_
  refine cX (hY.b (k:=i) (lJ p e hi2) w) (okJ _) (okX _) rfl rfl rfl rfl rfl ?_ ?_
  ·refine aY rfl (fun _=>aJ _) rfl rfl<|aa<|aq rfl<|ap<|Xq<|Bnr rfl rfl (fun _=>aA _ _ _ oi)<|Mv rfl<|aa<|?_
   repeat (refine a7 ?_)
   exact aR<|⟨rfl,⟨i+1,om⟩,_,by show n-(i+1)<n-i;omega,rfl,trv,trivial⟩
  ·refine aY rfl (fun _=>aJ _) rfl rfl<|aa<|aV rfl<|am<|Rr<|?_
   repeat (first|refine cZ ?_|refine bY ?_|refine cU rfl ?_|refine bq ?_|refine bt ?_)
   exact cR rfl (fun w hw=>⟨⟨_,rfl⟩,.inr ⟨_,bD (hJx _) hw.rid⟩⟩)
 ·obtain rfl:i=n:=by simp at hc;omega
  refine be ?_
  repeat (first|refine cZ ?_|refine bY ?_|refine cU rfl ?_|refine bq ?_|refine bt ?_)
  refine cn rfl (fun w hw=>⟨⟨_,rfl⟩,.inl ?_⟩)
  have:=bD (hJ _) hw.rid
  rw[jj]
  exact this
theorem mU:lf prog 94 "Add" 152:=fun _ _=>kr
theorem xe(n:Nat)(h0:0<n)(hn:n≤512)(K:Nat→L8)(p:Nat→GP)(e:Nat→Int)(hP:Vd K p e n)(j:Nat)(hjn:j≤n)(he0: ∀i,i<j→e i=0)(heb:j<n→¬e j=0)(b cap:Nat)(w:World)(hw:Gt w)(hK:KsAt w b 96 n K):CLS 71 [.slice (spt b) n cap,.func (.func 72) #[] #[]].toArray w (fun r w'=>r=.returned (.tuple #[PtV (if j=n then gSm p n else cI),I (if j=n then 0 else e j)])∧Grow w w'):=by
 have hGF:BOk Gt (pl w):=gt_low.plain hw
 refine bV (G:=Gt) func71 rfl rfl (Hp (pl w) []) (bO (pl w) trivial ak) (au hGF)<|ae (E:=EE [127])<|Al 4 hGF J2.zv94<|fun b4=>Asg rfl<|aa<|gz<|ae (E:=EE [127])<|Al 6 hGF J2.zv94<|fun b6=>Al 7 hGF J2.zv94<|fun b7=>aa<|ah<|ae (E:=EE [127])<|Mv rfl<|a5 rfl (fun _=>az underlying72 _ _ _ _) rfl rfl<|Bnb false rfl rfl (fun _=>cy _ _ _) (beq_eq_false_iff_ne.2 om)<|Mv rfl<|Mv rfl<|a5 rfl (fun _=>az underlying72 _ _ _ _) rfl rfl<|Bnb false rfl rfl (fun _=>ba _ _ _) (decide_eq_false om)<|Pk rfl rfl rfl<|aa<|aq rfl<|ap<|ae (E:=EE [127])<|eP 8 hGF zeroValue34 rfl rfl<|fun b8=>cM 8 hGF rfl rfl rfl sizeOf34 rfl dc rfl<|aa<|ah<|i9<|ah<|ae (E:=EE [127])<|Mv rfl<|Mv rfl<|?_
 refine cV rfl rfl ent127 rfl rfl (fun w' hw'=>(wL _ _ _ _ w' (hGF.g _ _ _ hw')).mono fun e' w'' h=> ?_)
 obtain ⟨b1,b2,rfl,hg,h1,h2,h3,ho1,ho2⟩:=h
 refine ⟨_,_,rfl,au hGF,hw'.news ak hg [(33,b1,[.slice (spt b) n cap],72),(34,b2,[.func (.func 72) #[] #[]],134)] ?_ (n5 h3), ?_⟩
 ·intro n' b' c' t' hl
  rcases aC hl with ⟨_,e⟩|⟨_,hl⟩
  ·cases e;exact ⟨h1,ho1⟩
  rcases aC hl with ⟨_,e⟩|⟨_,hl⟩
  ·cases e;exact ⟨h2,ho2⟩
  ·cases hl
 clear hw' hg h1 h2 h3 ho1 ho2
 refine aa<|aj<|?_
 refine pR (fun k=>k≤j) (fun _=>pl w) (fun _ _=>pl w) (fun _=>hGF) (fun _ _=>hGF) (fun _=>rfl) (fun _ _=>rfl) rfl rfl ent184 (jO b1 b2 b cap n om K p e hP) (fun v hv=>by obtain ⟨k,hk,rfl⟩:=List.mem_map.1 hv;rfl) rfl (fun k=>[(4,b4,(GL (cI)).map U64,94),(6,b6,(GL (gSm p k)).map U64,94),(7,b7,(GL (cI)).map U64,94),(8,b8,[I (0)],34),(33,b1,[.slice (spt b) n cap],72),(34,b2,[.func (.func 72) #[] #[]],134)]) (fun cd _ L'=>cd=.exit 0∧j<n∧i6 L' ([(4,b4,(GL (cI)).map U64,94),(6,b6,(GL (cI)).map U64,94),(7,b7,(GL (cI)).map U64,94),(8,b8,[I (e j)],34),(33,b1,[.slice (spt b) n cap],72),(34,b2,[.func (.func 72) #[] #[]],134)])) (Nat.zero_le _) trv (fun k _ w' h=>⟨cv (n:=33) rfl rfl w' h,cv (n:=34) rfl rfl w' h,hK.up (h.below (fun _ h=>h))⟩) ?_ ?_ ?_ ?_
 ·intro k v hx hQ R hR
  obtain ⟨hk,rfl⟩:=xk p e hx
  rcases Nat.lt_or_ge k j with hkj|hkj
  ·have he:=he0 k hkj
   refine ae (E:=EE [127])<|cO 9 (hR (pl w) rfl hGF).1 J2.zv94 rfl rfl<|fun b9=>ao 9 (hR (pl w) rfl hGF).1 rfl rfl rfl sizeOf94 sm sm (bk _) rfl<|aa<|bC (E:=EE [127])<|Asg rfl<|aa<|?_
   refine ⟨rfl,_,rfl, ?_⟩
   refine aj<|ae (E:=EE [127])<|Mv rfl<|aa<|aj<|ae (E:=EE [127])<|Bnb true rfl rfl (fun _=>cy _ _ _) ((by rw[he];rfl))<|Asg rfl<|aa<|aV rfl<|bC (E:=EE [127])<|La 6 rfl rfl bG<|cE rfl underlying94 rfl rfl<|La 9 rfl rfl bG<|jB rfl rfl mU rfl ent152 (xW _ _) rfl rfl<|ao 6 (hR (pl w) rfl hGF).2.1 rfl rfl rfl sizeOf94 sm sm (bk _) rfl<|aa<|?_
   repeat (refine a7 ?_)
   exact ⟨_,rfl,Jk (Q:=fun k=>k≤j) om ⟨rfl,rfl,rfl,rfl,rfl,rfl,trivial⟩⟩
  ·obtain rfl:k=j:=Nat.le_antisymm hQ hkj
   have he:=heb hk
   refine ae (E:=EE [127])<|cO 9 (hR (pl w) rfl hGF).1 J2.zv94 rfl rfl<|fun b9=>ao 9 (hR (pl w) rfl hGF).1 rfl rfl rfl sizeOf94 sm sm (bk _) rfl<|aa<|bC (E:=EE [127])<|Asg rfl<|aa<|?_
   refine ⟨rfl,_,rfl, ?_⟩
   refine aj<|ae (E:=EE [127])<|Mv rfl<|aa<|aj<|ae (E:=EE [127])<|Bnb false rfl rfl (fun _=>cy _ _ _) (beq_eq_false_iff_ne.2 he)<|Asg rfl<|aa<|aq rfl<|ae (E:=EE [127])<|La 7 rfl rfl bG<|Mv rfl<|ao 6 (hR (pl w) rfl hGF).2.1 rfl rfl rfl sizeOf94 sm sm (bk _) rfl<|cM 8 (hR (pl w) rfl hGF).2.1 rfl rfl rfl sizeOf34 rfl dc rfl<|aa<|be<|?_
   repeat (first|refine bY ?_|refine cU rfl ?_)
   exact ⟨_,rfl,rfl,hk,trv⟩
 ·intro hQ D hD
  rw[jj]at*
  obtain rfl:j=n:=Nat.le_antisymm hjn hQ
  refine kq (E:=EE [127]) (fun X=>X=Hp (B2 (pl w) D) [(8,b8,[I (0)],34)]) (mkB [4]) (rkB [35]) [0,1,2,3] dC rfl kr kr kr<|gc rfl rfl<|La 6 rfl rfl bG<|aa<|mt (X:=Hp (B2 (pl w) D) [(8,b8,[I (0)],34)]) rfl (db hD.r trv) (fun _=>rfl)<|ch 8 rfl rfl rfl isAgg34 rfl rfl<|aa<|kp rfl<|Sa 4 hD rfl rfl rfl bG<|aa<|?_
  refine ⟨fun _ X hX _=>by subst hX;exact db hD.r trv, ?_⟩
  refine gc rfl rfl<|Asg rfl<|aa<|ik<|am<|?_
  repeat (first|refine bq ?_|refine bt ?_|refine dO ?_)
  exact cP (.inl rfl) ak (aZ 4 rfl rfl rfl rfl isAgg94 sizeOf94 sm (fun w hw=>⟨by rw[if_pos rfl,if_pos rfl],ac hw⟩))
 ·intro D hb
  repeat (first|refine a7 ?_|refine aR ?_|refine zR ?_)
  exact mp hb
 ·rintro D cd k L' hD ⟨rfl,hlt,hsub⟩
  refine LP (db hD.r hsub) (au hD)<|kq (E:=EE [127]) (fun X=>X=Hp (B2 (pl w) D) [(8,b8,[I (e j)],34)]) (mkB [4]) (rkB [35]) [0,1,2,3] dC rfl kr kr kr<|gc rfl rfl<|La 6 rfl rfl bG<|aa<|mt (X:=Hp (B2 (pl w) D) [(8,b8,[I (e j)],34)]) rfl (db hD.r trv) (fun _=>rfl)<|ch 8 rfl rfl rfl isAgg34 rfl rfl<|aa<|kp rfl<|Sa 4 hD rfl rfl rfl bG<|aa<|?_
  refine ⟨fun _ X hX _=>by subst hX;exact db hD.r trv, ?_⟩
  refine gc rfl rfl<|Asg rfl<|aa<|ik<|am<|?_
  repeat (first|refine bq ?_|refine bt ?_|refine dO ?_)
  exact cP (.inl rfl) ak (aZ 4 rfl rfl rfl rfl isAgg94 sizeOf94 sm (fun w hw=>⟨by rw[if_neg om,if_neg om],ac hw⟩))
theorem vq(n:Nat)(hn:n=0)(v:Value)(a:Option Addr)(cap:Nat)(w:World)(hw:Gt w):CLS 71 [.slice a n cap,v].toArray w (fun r w'=>r=.returned (.tuple #[PtV cI,I 161])∧Grow w w'):=by
 refine Hf func71 rfl hw<|fun hGF=>ae (E:=EE [127])<|Al 4 hGF J2.zv94<|fun b4=>Asg rfl<|aa<|gz<|ae (E:=EE [127])<|Al 6 hGF J2.zv94<|fun b6=>Al 7 hGF J2.zv94<|fun b7=>aa<|ah<|ae (E:=EE [127])<|Mv rfl<|a5 rfl (fun _=>az underlying72 _ _ _ _) rfl rfl<|Bnb true rfl rfl (fun _=>cy _ _ _) (beq_iff_eq.2 om)<|Mv rfl<|Sk<|Sk<|Sk<|Pk rfl rfl rfl<|aa<|aV rfl<|ae (E:=EE [127])<|La 7 rfl rfl bG<|Sa 4 hGF rfl rfl rfl bG<|Asg rfl<|aa<|am<|?_
 repeat (first|refine bq ?_|refine bt ?_|refine dO ?_)
 exact aZ 4 rfl rfl rfl rfl isAgg94 sizeOf94 sm (fun w hw=>⟨rfl,ac hw⟩)
end J2
end
section
open Go.RowKit
attribute [local simp] aW bd aU aP aD bf aL aK aB PLl cm cq N1l cr cp cu a8 bg aQ a6 bc J1.bj J2.bj bL eX df ck
attribute [local simp] gg
attribute [local simp] Q6.fy
open Q6 in
theorem WE{P:Pt Zp}(hP:E1.onP P){Q:Pt W2}(hQ:E2w.onP Q)(hq:E2w.times Q ORD=none):K12.mul (PR L63 FE P Q) (PR L63 FE (E1.ne P) Q)=K12.one:=by
 rw[PR_1 Hh JY xh uV hP (E1.ne_on hP) hQ hq,E1.ad_ne,Tk]
theorem TG{a b:Nat}(h:K12.pw EG a=K12.pw EG b):a % ORD=b % ORD:=by
 have e:b+b*(ORD-1)=b*ORD:=by rw[Nat.add_comm,←Nat.mul_succ,show (ORD-1).succ=ORD from by decide+kernel]
 have k:K12.pw EG (a+b*(ORD-1))=K12.one:=by
  rw[K12.pw_add,h,←K12.pw_add,e,BS]
  exact Nat.mul_mod_left _ _
 have k2:=(BS _).1 k
 have k3:a+b*(ORD-1)+b=a+b*ORD:=by rw[Nat.add_assoc,Nat.add_comm _ b,e]
 have k4:=congrArg (· % ORD) k3
 rw[Nat.add_mul_mod_self_right,Nat.add_mod,k2,Nat.zero_add,Nat.mod_mod]at k4
 exact k4.symm
theorem H7(x:Nat){Q S:Pt W2}(hQ:E2w.onP Q)(hq:E2w.times Q ORD=none)(hS:E2w.onP S)(hs:E2w.times S ORD=none):K12.mul (PR L63 FE (E1.times (some G1p) x) Q) (PR L63 FE (E1.ne (some G1p)) S)=K12.one↔S=E2w.times Q x:=by
 obtain ⟨h,rfl⟩:=wF hQ hq
 obtain ⟨s,rfl⟩:=wF hS hs
 have u:=WE (P:=some G1p) gj hS hs
 have e:PR L63 FE (some G1p) (E2w.times (some G2p) s)=K12.pw EG s:=by
  have k1:=sF 1 s
  rw[Nat.one_mul,show E1.times (some G1p) 1=some G1p from rfl]at k1
  exact k1
 rw[e]at u
 rw[sF,←E2w.times_mul i8]
 constructor
 ·intro k
  have k1:K12.pw EG (x*h)=K12.pw EG s:=by
   rw[←K12.mul_one (K12.pw EG (x*h)),←u,K12.mul_comm (K12.pw EG s),←K12.mul_assoc,k,K12.one_mul]
  have k2:=TG k1
  rw[←E2w.times_mod i8 iZ s,←k2,E2w.times_mod i8 iZ,Nat.mul_comm]
 ·intro k
  have k1:=sF 1 s
  have k2:=sF 1 (h*x)
  rw[←k,k1,Nat.one_mul,Nat.one_mul]at k2
  rw[Nat.mul_comm x,←k2]
  exact u
def v2p(a b:J1.GP×J2.GP):Nat→J1.GP×J2.GP
 |0=>a
 |_=>b
theorem SI{a b:J1.GP×J2.GP}(ha:E2w.times a.2.P ORD=none)(hb:E2w.times b.2.P ORD=none): ∀i,i<2→E2w.times (v2p a b i).2.P ORD=none
 |0,_=>ha
 |1,_=>hb
theorem R4(a b:J1.GP×J2.GP):Q6.PRN (v2p a b) 2=K12.mul (PR L63 FE a.1.P a.2.P) (PR L63 FE b.1.P b.2.P):=by
 rw[Q6.PRN,Q6.PRN,Q6.PRN,K12.one_mul];rfl
theorem WF(K:J1.GP)(bs:L8)(hn:bs.length=96)(S:Pt W2)(hD:D2 bs 0 S)(msg:L8)(H:J2.GP)(hM:Ms msg H 0)(a:Option Addr)(cap:Nat)(hl:msg.length≤65600)(hc:msg.length≤cap)(hK: ∀(d:Nat) (w':World),Gt w'→w'.rangeAt d 0 ((RW 54 (fun i=>Q6.PRv (v2p (K,H) (J1.gB J1.qO,cA2 S (iH hD)) i)) 2).map U64)→CLS 118 [.slice (spt d) 2 2].toArray w' (fun y w''=>y=.returned (.bool true)∧Grow w' w''))(w:World)(hw:Gt w)(hb:BytesAt w a msg):CLS 64 [J1.PtV K,.slice a msg.length cap,.agg ((bs).map U8).toArray].toArray w (fun r w'=>r=.returned (I 0)∧Grow w w'):=by
 refine Hf func64 rfl hw<|fun hGF=>Xp<|Bx 3 hGF rfl<|fun b3=>Bx 5 hGF rfl<|fun b5=>Asg rfl<|aa<|Xp<|a9 5 rfl rfl isAgg33 sizeOf33 (by simp[*]) rfl rfl<|Ca rfl (Ni bs hn _ S hD)<|Mv rfl<|Ext rfl rfl<|Ext rfl rfl<|Al 7 hGF J2.zv94<|fun b7=>Sa 7 hGF rfl rfl rfl bG<|Asg rfl<|aa<|ah<|Xp<|Mv rfl<|Bnb false rfl rfl (fun _=>aX _ _ _) (rfl)<|aa<|aq rfl<|ap<|Xp<|Mv rfl<|Cc rfl ent44 (fun w' hC hG=>NJ msg H _ hM a cap w' hl hc hG (hb.grow (ac hC)))<|Mv rfl<|Ext rfl rfl<|Ext rfl rfl<|Al 9 hGF J2.zv94<|fun b9=>Sa 9 hGF rfl rfl rfl bG<|Asg rfl<|aa<|ah<|Xp<|Mv rfl<|Bnb false rfl rfl (fun _=>aX _ _ _) (rfl)<|aa<|aq rfl<|ap<|?_
 refine ah<|Xd []<|La 3 rfl rfl bT<|La 9 rfl rfl bG<|cC Q6.tH rfl rfl sm sm rfl rfl<|Ca rfl (J1.DA)<|Ca rfl (J1.lO _)<|La 7 rfl rfl bG<|cC Q6.tH rfl rfl sm sm rfl rfl<|ep (s:=54) 33 (fun i=>Q6.PRv (v2p (K,H) (J1.gB J1.qO,cA2 S (iH hD)) i)) (List.replicate 54 (0#64)) hGF rfl rfl rfl (fun i _=>Q6.fy _) dc dc underlying183 sizeOf182 sm Q6.zv182 rfl rfl<|fun b33=>Cc rfl ent118 (fun w' hC hG=>hK b33 w' hG (aO (n:=33) rfl w' hC))<|aY rfl (fun _=>aJ _) rfl rfl<|aa<|aq rfl<|ap<|Xp<|Asg rfl<|aa<|am<|Rr<|?_
 exact aE rfl rfl (fun w hw=>⟨rfl,ac hw⟩)
theorem U4(K:J1.GP)(bs:L8)(hn:bs.length=96)(S:Pt W2)(hD:D2 bs 0 S)(msg:L8)(H:J2.GP)(hM:Ms msg H 0)(a:Option Addr)(cap:Nat)(hl:msg.length≤65600)(hc:msg.length≤cap)(hK: ∀(d:Nat) (w':World),Gt w'→w'.rangeAt d 0 ((RW 54 (fun i=>Q6.PRv (v2p (K,H) (J1.gB J1.qO,cA2 S (iH hD)) i)) 2).map U64)→CLS 118 [.slice (spt d) 2 2].toArray w' (fun y w''=>y=.returned (.bool false)∧Grow w' w''))(w:World)(hw:Gt w)(hb:BytesAt w a msg):CLS 64 [J1.PtV K,.slice a msg.length cap,.agg ((bs).map U8).toArray].toArray w (fun r w'=>r=.returned (I 162)∧Grow w w'):=by
 refine Hf func64 rfl hw<|fun hGF=>Xp<|Bx 3 hGF rfl<|fun b3=>Bx 5 hGF rfl<|fun b5=>Asg rfl<|aa<|Xp<|a9 5 rfl rfl isAgg33 sizeOf33 (by simp[*]) rfl rfl<|Ca rfl (Ni bs hn _ S hD)<|Mv rfl<|Ext rfl rfl<|Ext rfl rfl<|Al 7 hGF J2.zv94<|fun b7=>Sa 7 hGF rfl rfl rfl bG<|Asg rfl<|aa<|ah<|Xp<|Mv rfl<|Bnb false rfl rfl (fun _=>aX _ _ _) (rfl)<|aa<|aq rfl<|ap<|Xp<|Mv rfl<|Cc rfl ent44 (fun w' hC hG=>NJ msg H _ hM a cap w' hl hc hG (hb.grow (ac hC)))<|Mv rfl<|Ext rfl rfl<|Ext rfl rfl<|Al 9 hGF J2.zv94<|fun b9=>Sa 9 hGF rfl rfl rfl bG<|Asg rfl<|aa<|ah<|Xp<|Mv rfl<|Bnb false rfl rfl (fun _=>aX _ _ _) (rfl)<|aa<|aq rfl<|ap<|?_
 refine ah<|Xd []<|La 3 rfl rfl bT<|La 9 rfl rfl bG<|cC Q6.tH rfl rfl sm sm rfl rfl<|Ca rfl (J1.DA)<|Ca rfl (J1.lO _)<|La 7 rfl rfl bG<|cC Q6.tH rfl rfl sm sm rfl rfl<|ep (s:=54) 33 (fun i=>Q6.PRv (v2p (K,H) (J1.gB J1.qO,cA2 S (iH hD)) i)) (List.replicate 54 (0#64)) hGF rfl rfl rfl (fun i _=>Q6.fy _) dc dc underlying183 sizeOf182 sm Q6.zv182 rfl rfl<|fun b33=>Cc rfl ent118 (fun w' hC hG=>hK b33 w' hG (aO (n:=33) rfl w' hC))<|aY rfl (fun _=>aJ _) rfl rfl<|aa<|aV rfl<|Xp<|Asg rfl<|aa<|am<|Rr<|?_
 exact aE rfl rfl (fun w hw=>⟨rfl,ac hw⟩)
theorem BV(K:J1.GP)(x:Nat)(hx:K.P=E1.times (some G1p) x)(bs:L8)(hn:bs.length=96)(S:Pt W2)(hD:D2 bs 0 S)(hs:E2w.times S ORD=none)(msg:L8)(H:J2.GP)(hM:Ms msg H 0)(a:Option Addr)(cap:Nat)(hl:msg.length≤65600)(hc:msg.length≤cap)(e:Int)(he:(S=E2w.times H.P x∧e=0)∨(¬S=E2w.times H.P x∧e=162))(w:World)(hw:Gt w)(hb:BytesAt w a msg):CLS 64 [J1.PtV K,.slice a msg.length cap,.agg ((bs).map U8).toArray].toArray w (fun r w'=>r=.returned (I e)∧Grow w w'):=by
 have hk: ∀(d:Nat) (w':World),Gt w'→w'.rangeAt d 0 ((RW 54 (fun i=>Q6.PRv (v2p (K,H) (J1.gB J1.qO,cA2 S (iH hD)) i)) 2).map U64)→CLS 118 [.slice (spt d) 2 2].toArray w' (fun y w''=>y=.returned (.bool (decide (S=E2w.times H.P x)))∧Grow w' w''):=fun d w' hG hr=>by
  have k:=Q6.Px 2 (v2p (K,H) (J1.gB J1.qO,cA2 S (iH hD))) d 2 dc (SI hM.r hs) w' hG hr
  have e1:decide (Q6.PRN (v2p (K,H) (J1.gB J1.qO,cA2 S (iH hD))) 2=K12.one)=decide (S=E2w.times H.P x):=by
   refine decide_eq_decide.2 ?_
   rw[R4]
   show K12.mul (PR L63 FE K.P H.P) (PR L63 FE (E1.ne (some G1p)) S)=K12.one↔_
   rw[hx]
   exact H7 x H.on hM.r (iH hD) hs
  rw[e1]at k
  exact k
 rcases he with ⟨h1,rfl⟩|⟨h1,rfl⟩
 ·rw[decide_eq_true h1]at hk
  exact WF K bs hn S hD msg H hM a cap hl hc hk w hw hb
 ·rw[decide_eq_false h1]at hk
  exact U4 K bs hn S hD msg H hM a cap hl hc hk w hw hb
theorem UF(w:World)(K:J1.GP)(kb:L8)(hkn:kb.length=48)(hk:PUR 20 [.agg ((kb).map U8).toArray] (.tuple #[J1.PtV K,I 0]))(a:Option Addr)(l cap:Nat)(bs:L8)(hn:bs.length=96)(e:Int)(hV: ∀w',Gt w'→Grow w w'→CLS 64 [J1.PtV K,.slice a l cap,.agg ((bs).map U8).toArray].toArray w' (fun r w''=>r=.returned (I e)∧Grow w' w''))(hw:Gt w):CLS 29 [.agg ((kb).map U8).toArray,.slice a l cap,.agg ((bs).map U8).toArray].toArray w (fun r w'=>r=.returned (I e)∧Grow w w'):=by
 refine Hf func29 rfl hw<|fun hGF=>Xp<|Bx 3 hGF rfl<|fun b3=>Bx 5 hGF rfl<|fun b5=>Asg rfl<|aa<|Xp<|a9 3 rfl rfl isAgg30 sizeOf30 (by simp[*]) rfl rfl<|Ca rfl (hk)<|Mv rfl<|Ext rfl rfl<|Ext rfl rfl<|Al 7 hGF J1.zv54<|fun b7=>Sa 7 hGF rfl rfl rfl bT<|Asg rfl<|aa<|ah<|Xp<|Mv rfl<|Bnb false rfl rfl (fun _=>aX _ _ _) (rfl)<|aa<|aq rfl<|ap<|Xp<|La 7 rfl rfl bT<|Mv rfl<|a9 5 rfl rfl isAgg33 sizeOf33 (by simp[*]) rfl rfl<|Cc rfl ent64 (fun w' hC hG=>hV w' hG (ac hC))<|Asg rfl<|aa<|am<|Rr<|?_
 exact aE rfl rfl (fun w hw=>⟨rfl,ac hw⟩)
theorem R8(w:World)(K:J1.GP)(e0:Option Addr)(n0 c0:Nat)(hS: ∀w',Gt w'→Grow w w'→CLS 70 [.slice e0 n0 c0,.func (.func 20) #[] #[]].toArray w' (fun r w''=>r=.returned (.tuple #[J1.PtV K,I 0])∧Grow w' w''))(a:Option Addr)(l cap:Nat)(bs:L8)(hn:bs.length=96)(e:Int)(hV: ∀w',Gt w'→Grow w w'→CLS 64 [J1.PtV K,.slice a l cap,.agg ((bs).map U8).toArray].toArray w' (fun r w''=>r=.returned (I e)∧Grow w' w''))(hw:Gt w):CLS 37 [.slice e0 n0 c0,.slice a l cap,.agg ((bs).map U8).toArray].toArray w (fun r w'=>r=.returned (I e)∧Grow w w'):=by
 refine Hf func37 rfl hw<|fun hGF=>Xp<|Bx 5 hGF rfl<|fun b5=>Asg rfl<|aa<|Xp<|Mv rfl<|Cc rfl ent70 (fun w' hC hG=>hS w' hG (ac hC))<|Mv rfl<|Ext rfl rfl<|Ext rfl rfl<|Al 7 hGF J1.zv54<|fun b7=>Sa 7 hGF rfl rfl rfl bT<|Asg rfl<|aa<|ah<|Xp<|Mv rfl<|Bnb false rfl rfl (fun _=>aX _ _ _) (rfl)<|aa<|aq rfl<|ap<|Xp<|La 7 rfl rfl bT<|Mv rfl<|a9 5 rfl rfl isAgg33 sizeOf33 (by simp[*]) rfl rfl<|Cc rfl ent64 (fun w' hC hG=>hV w' hG (ac hC))<|Asg rfl<|aa<|am<|Rr<|?_
 exact aE rfl rfl (fun w hw=>⟨rfl,ac hw⟩)
theorem CP(w:World)(K:J1.GP)(c:Int)(h0: ¬c=0)(e0:Option Addr)(n0 c0:Nat)(hS: ∀w',Gt w'→Grow w w'→CLS 70 [.slice e0 n0 c0,.func (.func 20) #[] #[]].toArray w' (fun r w''=>r=.returned (.tuple #[J1.PtV K,I c])∧Grow w' w''))(hw:Gt w):CLS 33 [.slice e0 n0 c0].toArray w (fun r w'=>r=.returned (.tuple #[.agg ((List.replicate 48 (0#8)).map U8).toArray,I c])∧Grow w w'):=by
 refine Hf func33 rfl hw<|fun hGF=>Xp<|Al 2 hGF zv30<|fun b2=>Asg rfl<|aa<|Xp<|Mv rfl<|Cc rfl ent70 (fun w' hC hG=>hS w' hG (ac hC))<|Mv rfl<|Ext rfl rfl<|Ext rfl rfl<|Al 4 hGF J1.zv54<|fun b4=>Sa 4 hGF rfl rfl rfl bT<|Asg rfl<|aa<|ah<|Xp<|Mv rfl<|Bnb true rfl rfl (fun _=>aX _ _ _) (bne_iff_ne.2 h0)<|aa<|aV rfl<|Xp<|gJ zv30 underlying30 sizeOf5 rfl rfl<|Mv rfl<|Sx 2 hGF rfl rfl rfl t30t List.length_replicate (bi _)<|Asg rfl<|aa<|am<|Rr<|?_
 exact aZ 2 rfl rfl rfl rfl isAgg30 sizeOf30 sm (fun w hw=>⟨rfl,ac hw⟩)
theorem HM(w:World)(K:J1.GP)(e0:Option Addr)(n0 c0:Nat)(hS: ∀w',Gt w'→Grow w w'→CLS 70 [.slice e0 n0 c0,.func (.func 20) #[] #[]].toArray w' (fun r w''=>r=.returned (.tuple #[J1.PtV K,I 0])∧Grow w' w''))(hw:Gt w):CLS 33 [.slice e0 n0 c0].toArray w (fun r w'=>r=.returned (.tuple #[.agg ((EN1 K.P).map U8).toArray,I 0])∧Grow w w'):=by
 refine Hf func33 rfl hw<|fun hGF=>Xp<|Al 2 hGF zv30<|fun b2=>Asg rfl<|aa<|Xp<|Mv rfl<|Cc rfl ent70 (fun w' hC hG=>hS w' hG (ac hC))<|Mv rfl<|Ext rfl rfl<|Ext rfl rfl<|Al 4 hGF J1.zv54<|fun b4=>Sa 4 hGF rfl rfl rfl bT<|Asg rfl<|aa<|ah<|Xp<|Mv rfl<|Bnb false rfl rfl (fun _=>aX _ _ _) (rfl)<|aa<|aq rfl<|ap<|Xp<|La 4 rfl rfl bT<|Ca rfl (Gh _)<|ao 2 hGF rfl rfl rfl sizeOf30 (by simp[*]) sm (bi _) rfl<|Asg rfl<|aa<|am<|Rr<|?_
 exact aZ 2 rfl rfl rfl rfl isAgg30 sizeOf30 sm (fun w hw=>⟨rfl,ac hw⟩)
theorem J3(w:World)(K:J2.GP)(e0:Option Addr)(n0 c0:Nat)(hS: ∀w',Gt w'→Grow w w'→CLS 71 [.slice e0 n0 c0,.func (.func 72) #[] #[]].toArray w' (fun r w''=>r=.returned (.tuple #[J2.PtV K,I 0])∧Grow w' w''))(hw:Gt w):CLS 34 [.slice e0 n0 c0].toArray w (fun r w'=>r=.returned (.tuple #[.agg ((EN2 K.P).map U8).toArray,I 0])∧Grow w w'):=by
 refine Hf func34 rfl hw<|fun hGF=>Xp<|Al 2 hGF zv33<|fun b2=>Asg rfl<|aa<|Xp<|Mv rfl<|Cc rfl ent71 (fun w' hC hG=>hS w' hG (ac hC))<|Mv rfl<|Ext rfl rfl<|Ext rfl rfl<|Al 4 hGF J2.zv94<|fun b4=>Sa 4 hGF rfl rfl rfl bG<|Asg rfl<|aa<|ah<|Xp<|Mv rfl<|Bnb false rfl rfl (fun _=>aX _ _ _) (rfl)<|aa<|aq rfl<|ap<|Xp<|La 4 rfl rfl bG<|Ca rfl (Cu _)<|ao 2 hGF rfl rfl rfl sizeOf33 (by simp[*]) sm (bi _) rfl<|Asg rfl<|aa<|am<|Rr<|?_
 exact aZ 2 rfl rfl rfl rfl isAgg33 sizeOf33 sm (fun w hw=>⟨rfl,ac hw⟩)
end
section
namespace Sh
abbrev tN:BitVec 32→Nat:=BitVec.toNat
abbrev M32:Nat:=4294967296
def tn(x a b:Nat):Nat:=Nat.lor (Nat.mod (Nat.shiftLeft x a) M32) (Nat.shiftRight x b)
def s1N(x:Nat):Nat:=Nat.xor (Nat.xor (tn x 26 6) (tn x 21 11)) (tn x 7 25)
def s0N(x:Nat):Nat:=Nat.xor (Nat.xor (tn x 30 2) (tn x 19 13)) (tn x 10 22)
def l0N(x:Nat):Nat:=Nat.xor (Nat.xor (tn x 25 7) (tn x 14 18)) (Nat.shiftRight x 3)
def l1N(x:Nat):Nat:=Nat.xor (Nat.xor (tn x 15 17) (tn x 13 19)) (Nat.shiftRight x 10)
def aN(a b:Nat):Nat:=Nat.mod (Nat.add a b) M32
def w4N(bl:List Nat)(i:Nat):Nat:=Nat.lor (Nat.lor (Nat.lor (Nat.mod (Nat.shiftLeft (Nat.mod (bl.getD (4*i) 0) M32) 24) M32) (Nat.mod (Nat.shiftLeft (Nat.mod (bl.getD (4*i+1) 0) M32) 16) M32)) (Nat.mod (Nat.shiftLeft (Nat.mod (bl.getD (4*i+2) 0) M32) 8) M32)) (Nat.mod (bl.getD (4*i+3) 0) M32)
def W1N(bl:List Nat):Nat→List Nat
 |0=>List.replicate 64 0
 |k+1=>(W1N bl k).set k (w4N bl k)
def w5N(ws:List Nat)(i:Nat):Nat:=aN (aN (aN (l1N (ws.getD (i-2) 0)) (ws.getD (i-7) 0)) (l0N (ws.getD (i-15) 0))) (ws.getD (i-16) 0)
def W2N(bl:List Nat):Nat→List Nat
 |0=>W1N bl 16
 |k+1=>(W2N bl k).set (16+k) (w5N (W2N bl k) (16+k))
structure VN where
 (a b c d e f g h:Nat)
def ttN(v:VN)(k w:Nat):Nat:=aN (aN (aN (aN v.h (s1N v.e)) (Nat.xor (Nat.land v.e v.f) (Nat.land (Nat.sub 4294967295 v.e) v.g))) k) w
def JK(v:VN)(k w:Nat):VN:=⟨aN (ttN v k w) (aN (s0N v.a) (Nat.xor (Nat.xor (Nat.land v.a v.b) (Nat.land v.a v.c)) (Nat.land v.b v.c))),v.a,v.b,v.c,aN v.d (ttN v k w),v.e,v.f,v.g⟩
def ym(v:VN)(ks ws:List Nat):Nat→VN
 |0=>v
 |k+1=>JK (ym v ks ws k) (ks.getD k 0) (ws.getD k 0)
def vN(s:List Nat):VN:=⟨s.getD 0 0,s.getD 1 0,s.getD 2 0,s.getD 3 0,s.getD 4 0,s.getD 5 0,s.getD 6 0,s.getD 7 0⟩
def Fo(ks s bl:List Nat):List Nat:=
 let v:=ym (vN s) ks (W2N bl 48) 64
 [aN (s.getD 0 0) v.a,aN (s.getD 1 0) v.b,aN (s.getD 2 0) v.c,aN (s.getD 3 0) v.d,aN (s.getD 4 0) v.e,aN (s.getD 5 0) v.f,aN (s.getD 6 0) v.g,aN (s.getD 7 0) v.h]
def M7(ks s:List Nat):List (List Nat)→List Nat
 |[]=>s
 |b::l=>M7 ks (Fo ks s b) l
def V8.n(v:V8):VN:=⟨tN v.a,tN v.b,tN v.c,tN v.d,tN v.e,tN v.f,tN v.g,tN v.h⟩
theorem oz(x y:BitVec 32):tN (x+y)=aN (tN x) (tN y):=BitVec.toNat_add x y
theorem k5(x:BitVec 32)(k:Int)(a b:Nat)(ha:(BitVec.ofInt 64 k &&& 31#64).toNat=a)(hb:(32#64-(BitVec.ofInt 64 k &&& 31#64)).toNat=b):tN (lX x k)=tn (tN x) a b:=by
 subst ha hb
 show BitVec.toNat (lX x k)=_
 rw[lX,BitVec.toNat_or,BitVec.toNat_shiftLeft,BitVec.toNat_ushiftRight]
 rfl
theorem jM(x y:BitVec 32):tN (x^^^y)=Nat.xor (tN x) (tN y):=BitVec.toNat_xor x y
theorem tZ(x y:BitVec 32):tN (x &&& y)=Nat.land (tN x) (tN y):=BitVec.toNat_and x y
theorem S7(x:BitVec 32):tN (~~~x)=Nat.sub 4294967295 (tN x):=BitVec.toNat_not
theorem s1_e(x:BitVec 32):tN (uu x)=s1N (tN x):=by rw[uu,jM,jM,k5 x (-6) 26 6 dc dc,k5 x (-11) 21 11 dc dc,k5 x (-25) 7 25 dc dc];rfl
theorem s0_e(x:BitVec 32):tN (G8 x)=s0N (tN x):=by rw[G8,jM,jM,k5 x (-2) 30 2 dc dc,k5 x (-13) 19 13 dc dc,k5 x (-22) 10 22 dc dc];rfl
theorem Mk(x:BitVec 32)(n:Nat):tN (x>>>n)=Nat.shiftRight (tN x) n:=BitVec.toNat_ushiftRight x n
theorem l0_e(x:BitVec 32):tN (HY x)=l0N (tN x):=by rw[HY,jM,jM,k5 x (-7) 25 7 dc dc,k5 x (-18) 14 18 dc dc,Mk];rfl
theorem l1_e(x:BitVec 32):tN (Hz x)=l1N (tN x):=by rw[Hz,jM,jM,k5 x (-17) 15 17 dc dc,k5 x (-19) 13 19 dc dc,Mk];rfl
theorem nW{n:Nat}(l:List (BitVec n))(i:Nat):(l.map BitVec.toNat).getD i 0=(l.getD i 0).toNat:=by
 rw[List.getD_eq_getElem?_getD,List.getD_eq_getElem?_getD,List.getElem?_map]
 cases l[i]? with
 |none=>rfl
 |some x=>rfl
theorem w4_e(bl:L8)(i:Nat):tN (w4 bl i)=w4N (bl.map BitVec.toNat) i:=by
 have s: ∀(x:BitVec 8) (k:Nat),BitVec.toNat (x.setWidth 32<<<k)=Nat.mod (Nat.shiftLeft (Nat.mod x.toNat M32) k) M32:=fun x k=>by
  rw[BitVec.toNat_shiftLeft,BitVec.toNat_setWidth];rfl
 show BitVec.toNat (w4 bl i)=_
 rw[w4,w4N,BitVec.toNat_or,BitVec.toNat_or,BitVec.toNat_or,s,s,s,BitVec.toNat_setWidth,nW,nW,nW,nW]
 rfl
theorem WO(bl:L8): ∀k,(W1 bl k).map tN=W1N (bl.map BitVec.toNat) k
 |0=>by rw[W1,W1N,List.map_replicate];rfl
 |k+1=>by rw[W1,W1N,List.map_set,WO bl k,w4_e]
theorem w5_e(ws:L3)(i:Nat):tN (w5 ws i)=w5N (ws.map tN) i:=by
 rw[w5,w5N,oz,oz,oz,l1_e,l0_e,nW,nW,nW,nW]
theorem Rw(bl:L8): ∀k,(W2 bl k).map tN=W2N (bl.map BitVec.toNat) k
 |0=>WO bl 16
 |k+1=>by rw[W2,W2N,List.map_set,Rw bl k,w5_e,Rw bl k]
theorem Uf(v:V8)(k w:BitVec 32):(rnd v k w).n=JK v.n (tN k) (tN w):=by
 have t:tN (v.h+uu v.e+(v.e &&& v.f^^^ ~~~v.e &&& v.g)+k+w)=ttN v.n (tN k) (tN w):=by
  rw[oz,oz,oz,oz,s1_e,jM,tZ,tZ,S7];rfl
 have e1:tN (rnd v k w).a=(JK v.n (tN k) (tN w)).a:=by
  show tN ((v.h+uu v.e+(v.e &&& v.f^^^ ~~~v.e &&& v.g)+k+w)+(G8 v.a+(v.a &&& v.b^^^v.a &&& v.c^^^v.b &&& v.c)))=_
  rw[oz,t,oz,s0_e,jM,jM,tZ,tZ,tZ];rfl
 have e2:tN (rnd v k w).e=(JK v.n (tN k) (tN w)).e:=by
  show tN (v.d+(v.h+uu v.e+(v.e &&& v.f^^^ ~~~v.e &&& v.g)+k+w))=_
  rw[oz,t];rfl
 show VN.mk (tN (rnd v k w).a) _ _ _ (tN (rnd v k w).e) _ _ _=_
 rw[e1,e2];rfl
theorem G4(v:V8)(ws:L3): ∀k,(nM v ws k).n=ym v.n (KW.map tN) (ws.map tN) k
 |0=>rfl
 |k+1=>by rw[nM,ym,Uf,G4 v ws k,nW,nW]
theorem vN_e(st:L3):(v8 st).n=vN (st.map tN):=by
 simp only[vN,nW];rfl
theorem Qw(st:L3)(bl:L8):(tX st bl).map tN=Fo (KW.map tN) (st.map tN) (bl.map BitVec.toNat):=by
 have h:=G4 (v8 st) (W2 bl 48) 64
 rw[vN_e,Rw]at h
 rw[Fo,←h]
 simp only[tX,WJ,List.map_cons,List.map_nil,nW,oz]
 rfl
theorem Gw(st:L3)(b:L8)(l:List L8): ∀k,gw st (b::l) (k+1)=gw (tX st b) l k
 |0=>rfl
 |k+1=>by rw[gw,Gw st b l k];rfl
theorem Lp: ∀(l:List L8) (st:L3),(gw st l l.length).map tN=M7 (KW.map tN) (st.map tN) (l.map (·.map BitVec.toNat))
 |[],_=>rfl
 |b::l,st=>by
  rw[List.length_cons,Gw,Lp l,Qw];rfl
theorem QH(l:L3):(l.map tN).map (BitVec.ofNat 32)=l:=by
 rw[List.map_map]
 exact (List.map_congr_left fun x _=>BitVec.ofNat_toNat 32 x|>.trans (BitVec.setWidth_eq x)).trans (List.map_id l)
theorem mb(bs r:L8)(h:DG ((M7 (KW.map tN) (IV.map tN) ((AP bs).map (·.map BitVec.toNat))).map (BitVec.ofNat 32)) 8=r):SHA bs=r:=by
 rw[SHA,←QH (gw IV (AP bs) (AP bs).length),Lp];exact h
end Sh
end
section
def va:W2:=(zp 0x4a1a6fbdd75a0a015d8b97f9b7778cb923e5fab97e6dc0ada2f001b452745ac708ce13797418e6a361d408d7d680684,zp 0xdbba1ca562e8bdb6032da29043bd2a3b08775da7ac5d24b3af502c0a9279ac704e6ddfb9d18a3c57f161d2c62d60e1f)
def WT:W2:=(zp 0x21535d46c591ae51ea59ab9491a6b9cd35ff4f85826e9915e8b0c757f9ab2ab5090fce821399c2cec7f0c0e6d77cd9c,zp 0x25a27be7a3911aa82f64e6d40e73db7f4ada224ea508874ef6bd351588204f0933c5a53815ddcd17c33cb3a26ac8a65)
def mmy0:W2:=(zp 0x9315ba1a011f20cd38ffaabb09603d06a295ef31792f2c55128a130273557a146c65e15a894b561ea42449f72e05ce8,zp 0x36e9a81bb9182d66500bc370e277f842552f69e08e67141cffa537cd2507d5f69028db0682c32bf3f011f6d6fb18f74)
def PA:W2×W2:=((zp 0xe5528f71e373b4cf4afeae262a9f7740af62f1f146cb03b2f585a3c472692d1e2312171c6affb64079df761a6fb895c,zp 0x40d6dac87e668f0c302c639a58fca14889c97ab0af29bff72d109475ef9633938e46dacaf3800b143c3951edfac00f5),(zp 0xe9aaf4f09f560fdc6700fba1f2fa6ea051feea7c1522fb68b475762a1222fa5a4a32027c5665199aa084ab2eaa2eac0,zp 0x7e31b613c8b044266240abcdbc53de1205bbd28644eda52d4acc7bfc6ac181dc09f84e9f0917ddb3fb2db605dcb5d71))
theorem RN{x r:W2}(s:SwR va x r):x=WT∧sgS r va=mmy0:=by
 have h:=N6 (X:=(zp 0x1445931e8f87914a5e5dff9a6367ea5b6eecfebfa5dbd3644276be2084cf50dbd6f255c3e3c71fa7e756d3e8eb98d8c,zp 0x104dc64d945da164baef0f4ca48c2f5bdd79ca3e6d34207d6ca583818d41c98061051b2988759d8273ee71dccdab02a3)) (X':=WT) (R:=(zp 0x9315ba1a011f20cd38ffaabb09603d06a295ef31792f2c55128a130273557a146c65e15a894b561ea42449f72e05ce8,zp 0x36e9a81bb9182d66500bc370e277f842552f69e08e67141cffa537cd2507d5f69028db0682c32bf3f011f6d6fb18f74)) (q:=zp 0xdac9d21e47174c96a071c9e810c4a14509be19c174d93dca733279dbf3e05d1b596ec771c74d7df2b7a3db90a55e76) (by decide+kernel) (by decide+kernel) (by decide+kernel) (by decide+kernel) (by decide+kernel) (by decide+kernel) (by decide+kernel) s
 exact ⟨h.1,by rw[h.2];decide+kernel⟩
theorem mmq0{x r:W2}(s:SwR va x r):(XIs x,YIs x (sgS r va))=PA:=by
 rw[(RN s).2,(RN s).1]
 exact Prod.ext (Mx (by decide+kernel) (by decide+kernel)) (KF (by decide+kernel) (by decide+kernel))
theorem mmo0:E2w.on PA:=by
 unfold Ec.on
 decide+kernel
def uj:W2:=(zp 0x88b742e34a06f08dae75df6b2bea04eb3e473a392b6fd00284a28b63ad06976480d134d08e780ac1654ea9398db027a,zp 0xba39e89ae159b80dce7d0779408abc9852e05f54fb489f657ae1495caf3223fe2b5eb69b8daca03a010b491852ed9fb)
def WH:W2:=(zp 0x1282216845306bbd6e021b45b7a42bf1fc20df27014f92120519b37afd7e697762112b16860f3b08c8a79e95f102f4eb,zp 0xa4ba0dba5603a134bd786cca59f66eff1940460ee60c65e5f3b5765da92a4d5152aeeaf1cc81c0d80d24c625d4ddce5)
def mmy1:W2:=(zp 0xb5f594a31f82557fb104862b8da474f82730f49b063c1500a3f44a2524027f5d045c446d010cae05b3cb59720cc237a,zp 0x83d1bac0b3db3945538e523d6d97e66388592e8e1ffee055ef37b9288316aadd58bcf5f1adc9bc9d2eb8ed1f9092ef0)
def Nl:W2×W2:=((zp 0x18fe49d245cb404aa63bc2979912ca9199e29263bf25c55bcf8a5570509429b33744b0d9e5e38c8b0ffa96ca37f34f0,zp 0x8af245a8c56afe24ab1a5e9d0b2e57d98ad35b1a2f1ab1741847a3efbd70c9f93d9b12db792a9fda10ca67fde0c7bde),(zp 0x18339860a12634c09f56c86d7394f66dc87632a6a94ea54e3638d91b543a48cd83e6189211d031c35088f1655d645237,zp 0x18f87c161a07eb19ade5e67e09d3949e2d5ab28bc33b8795d06378ef88652a286fea933d0b106a39e405aa07a2285f3f))
theorem Tx{x r:W2}(s:SwR uj x r):x=WH∧sgS r uj=mmy1:=by
 have h:=OK (R:=(zp 0xb5f594a31f82557fb104862b8da474f82730f49b063c1500a3f44a2524027f5d045c446d010cae05b3cb59720cc237a,zp 0x83d1bac0b3db3945538e523d6d97e66388592e8e1ffee055ef37b9288316aadd58bcf5f1adc9bc9d2eb8ed1f9092ef0)) (X:=WH) (by decide+kernel) (by decide+kernel) (by decide+kernel) (by decide+kernel) s
 exact ⟨h.1,by rw[h.2];decide+kernel⟩
theorem mmq1{x r:W2}(s:SwR uj x r):(XIs x,YIs x (sgS r uj))=Nl:=by
 rw[(Tx s).2,(Tx s).1]
 exact Prod.ext (Mx (by decide+kernel) (by decide+kernel)) (KF (by decide+kernel) (by decide+kernel))
theorem mmo1:E2w.on Nl:=by
 unfold Ec.on
 decide+kernel
def mmX:W2:=(zp 0x15d20c32159aace6759a783461fd9e3c5ea985d29a7a466bc11c0ad3e5923bfee7e335057028e7c7c4db7df243baee61,zp 0x197c335f20db08e91c53aecbabf17e0c0880d2d3f17fa9d9f4f2bb7caae0c05c201db70fd56d044ed05b6cb2968dbb7d)
theorem U0{x r x' r':W2}(s:SwR va x r)(s':SwR uj x' r'): ∃y,E2w.times (E2w.ad (some (XIs x,YIs x (sgS r va))) (some (XIs x',YIs x' (sgS r' uj)))) HEF=some (mmX,y):=by
 rw[mmq0 s,mmq1 s']
 exact Eu mmo0 mmo1 (mV PA) (mV Nl) Ha (by decide+kernel)
end
section
namespace Xm
def mmm:L8:=[109#8]
def mmd:L8:=[66#8,76#8,83#8,95#8,83#8,73#8,71#8,95#8,66#8,76#8,83#8,49#8,50#8,51#8,56#8,49#8,71#8,50#8,95#8,88#8,77#8,68#8,58#8,83#8,72#8,65#8,45#8,50#8,53#8,54#8,95#8,83#8,83#8,87#8,85#8,95#8,82#8,79#8,95#8,80#8,79#8,80#8,95#8]
def mmb:L8:=[123#8,71#8,213#8,206#8,230#8,221#8,139#8,80#8,195#8,100#8,179#8,9#8,239#8,248#8,219#8,121#8,59#8,67#8,238#8,233#8,90#8,183#8,54#8,237#8,243#8,192#8,188#8,151#8,202#8,133#8,187#8,46#8]
def mml:Nat→L8
 |0=>[0#8,0#8,0#8,0#8,0#8,0#8,0#8,0#8,0#8,0#8,0#8,0#8,0#8,0#8,0#8,0#8,0#8,0#8,0#8,0#8,0#8,0#8,0#8,0#8,0#8,0#8,0#8,0#8,0#8,0#8,0#8,0#8]
 |1=>[233#8,243#8,94#8,46#8,92#8,128#8,246#8,94#8,201#8,255#8,229#8,232#8,220#8,235#8,67#8,138#8,89#8,141#8,220#8,239#8,198#8,80#8,150#8,242#8,255#8,5#8,130#8,85#8,193#8,159#8,150#8,94#8]
 |2=>[123#8,106#8,141#8,225#8,33#8,56#8,34#8,181#8,227#8,178#8,69#8,227#8,216#8,181#8,80#8,213#8,193#8,175#8,53#8,17#8,181#8,108#8,40#8,216#8,41#8,127#8,26#8,95#8,16#8,92#8,95#8,159#8]
 |3=>[137#8,19#8,115#8,95#8,213#8,222#8,108#8,66#8,47#8,107#8,9#8,245#8,211#8,113#8,239#8,43#8,168#8,66#8,250#8,106#8,217#8,161#8,154#8,46#8,187#8,60#8,106#8,175#8,104#8,200#8,201#8,131#8]
 |4=>[253#8,180#8,156#8,144#8,219#8,151#8,20#8,70#8,87#8,98#8,89#8,5#8,57#8,229#8,82#8,56#8,143#8,169#8,40#8,200#8,6#8,255#8,124#8,243#8,132#8,144#8,3#8,103#8,221#8,185#8,182#8,82#8]
 |5=>[213#8,239#8,78#8,111#8,76#8,88#8,150#8,146#8,179#8,217#8,181#8,212#8,200#8,240#8,93#8,168#8,136#8,18#8,155#8,38#8,110#8,91#8,73#8,141#8,183#8,84#8,162#8,10#8,174#8,29#8,255#8,192#8]
 |6=>[83#8,237#8,92#8,221#8,179#8,250#8,120#8,30#8,238#8,212#8,149#8,238#8,189#8,94#8,81#8,63#8,140#8,154#8,19#8,104#8,143#8,3#8,74#8,181#8,146#8,224#8,8#8,196#8,23#8,171#8,209#8,153#8]
 |7=>[28#8,190#8,98#8,198#8,79#8,142#8,86#8,0#8,81#8,219#8,173#8,44#8,221#8,44#8,73#8,212#8,103#8,191#8,247#8,78#8,201#8,230#8,160#8,154#8,180#8,238#8,112#8,83#8,104#8,75#8,255#8,124#8]
 |_=>[94#8,54#8,50#8,215#8,242#8,99#8,63#8,84#8,156#8,195#8,108#8,171#8,68#8,220#8,94#8,69#8,251#8,216#8,116#8,227#8,116#8,52#8,73#8,39#8,222#8,120#8,139#8,199#8,90#8,111#8,241#8,166#8]
theorem mm_b:B0 mmm mmd 256=mmb:=Sh.mb _ _ (by decide+kernel)
theorem SM:Xk mmb (D mmd) 0=mml 0:=by decide+kernel
theorem K2:Xk mmb (D mmd) 1=mml 1:=by
 show Xk mmb (D mmd) (0+1)=_
 rw[Xk,SM]
 exact Sh.mb _ _ (by decide+kernel)
theorem Kn:Xk mmb (D mmd) 2=mml 2:=by
 show Xk mmb (D mmd) (1+1)=_
 rw[Xk,K2]
 exact Sh.mb _ _ (by decide+kernel)
theorem KR:Xk mmb (D mmd) 3=mml 3:=by
 show Xk mmb (D mmd) (2+1)=_
 rw[Xk,Kn]
 exact Sh.mb _ _ (by decide+kernel)
theorem Mu:Xk mmb (D mmd) 4=mml 4:=by
 show Xk mmb (D mmd) (3+1)=_
 rw[Xk,KR]
 exact Sh.mb _ _ (by decide+kernel)
theorem KX:Xk mmb (D mmd) 5=mml 5:=by
 show Xk mmb (D mmd) (4+1)=_
 rw[Xk,Mu]
 exact Sh.mb _ _ (by decide+kernel)
theorem Lv:Xk mmb (D mmd) 6=mml 6:=by
 show Xk mmb (D mmd) (5+1)=_
 rw[Xk,KX]
 exact Sh.mb _ _ (by decide+kernel)
theorem Ln:Xk mmb (D mmd) 7=mml 7:=by
 show Xk mmb (D mmd) (6+1)=_
 rw[Xk,Lv]
 exact Sh.mb _ _ (by decide+kernel)
theorem UO:Xk mmb (D mmd) 8=mml 8:=by
 show Xk mmb (D mmd) (7+1)=_
 rw[Xk,Ln]
 exact Sh.mb _ _ (by decide+kernel)
theorem Vf:E mmm mmd 256=mml 1++mml 2++mml 3++mml 4++mml 5++mml 6++mml 7++mml 8:=by
 rw[E,mm_b,show (256+31) / 32=8 from rfl]
 simp only[O,List.nil_append]
 rw[K2,Kn,KR,Mu,KX,Lv,Ln,UO]
 decide+kernel
theorem mm_0:N2 (E mmm mmd 256) 0=va:=by rw[Vf];decide+kernel
theorem mm_1:N2 (E mmm mmd 256) 1=uj:=by rw[Vf];decide+kernel
end Xm
end
section
open Go.RowKit
attribute [local simp] aW bd aU aP aD bf aL aK aB PLl cm cq N1l cr cp cu a8 bg aQ a6 bc J1.bj J2.bj bL eX df ck
attribute [local simp] gg
theorem Kw:ORD=RR:=by decide+kernel
theorem VY(x:Zr):x.val<ORD:=by rw[Kw];exact x.isLt
def Kx(x:Nat):Pt Zp:=E1.times (some G1p) x
theorem y2(x:Nat):E1.onP (Kx x):=E1.times_on gj x
theorem JJ(x:Nat):E1.times (Kx x) ORD=none:=E1.times_ord gj iL x
theorem y1{x:Nat}(h0:0<x)(h1:x<ORD): ¬Kx x=none:=fun e=>by
 have k:=E1.times_inj (Q:=some G1p) u9 (fun _=>hrO) iL (fun e=>by cases e) (m:=x) (n:=0) h1 om e
 omega
theorem PG(x:Nat):Kx (x % ORD)=Kx x:=E1.times_mod gj iL x
theorem Q3{Q:Pt W2}(hQ:E2w.onP Q)(hq:E2w.times Q ORD=none)(hn: ¬Q=none){m n:Nat}(hm:m<ORD)(hn':n<ORD)(h: ¬m=n): ¬E2w.times Q m=E2w.times Q n:=fun e=>h (E2w.times_inj hQ (fun _=>hrO) hq hn hm hn' e)
theorem WV{p:Nat→J1.GP}{f:Nat→Nat}: ∀{n:Nat},(∀i,i<n→(p i).P=Kx (f i))→(J1.gSm p n).P=Kx ((List.range n).map f).sum
 |0,_=>rfl
 |n+1,h=>by
  rw[List.range_succ,List.map_append,List.sum_append_nat]
  show E1.ad (J1.gSm p n).P (p n).P=_
  rw[WV fun i hi=>h i om,h n om,Kx,Kx,←E1.times_add gj]
  simp[Kx]
theorem SB{Q:Pt W2}(hQ:E2w.onP Q){p:Nat→J2.GP}{f:Nat→Nat}: ∀{n:Nat},(∀i,i<n→(p i).P=E2w.times Q (f i))→(J2.gSm p n).P=E2w.times Q ((List.range n).map f).sum
 |0,_=>rfl
 |n+1,h=>by
  rw[List.range_succ,List.map_append,List.sum_append_nat]
  show E2w.ad (J2.gSm p n).P (p n).P=_
  rw[SB hQ fun i hi=>h i om,h n om,←E2w.times_add hQ]
  simp
theorem EH{x:Nat}(h: ¬Kx x=none):PUR 20 [.agg ((EN1 (Kx x)).map U8).toArray] (.tuple #[J1.PtV (cA1 (Kx x) (qT (vD (y2 x) (JJ x)))),I 0]):=Rj _ (df _) _ h (vD (y2 x) (JJ x))
theorem m6(x:Zr):PUR 13 [RV x] (.agg ((EN1 (Kx x.val)).map U8).toArray):=Pq x
theorem Ro: ¬Xm.FBad Xm.mmm SUs 2:=by
 rintro (h|h|h|h)<;>revert h<;>decide
theorem Uq: ∃p:J2.GP,Ms [109#8] p 0∧¬p.P=none:=by
 obtain ⟨A,B,hs⟩:=Ce Xm.mmm SUs
 obtain ⟨p,hp,hc⟩:=phs.ok _ _ _ _ Ro hs
 refine ⟨p,⟨hc,Ta (B3 hs) hp⟩, ?_⟩
 obtain ⟨⟨x,r,h0,rfl⟩,x',r',h1,rfl⟩:=hs
 rw[show U2n Xm.mmm SUs 0=va from Xm.mm_0]at h0 hp
 rw[show U2n Xm.mmm SUs 1=uj from Xm.mm_1]at h1 hp
 obtain ⟨y,hy⟩:=U0 h0 h1
 rw[hp,hy]
 exact fun e=>by cases e
def k2(A B:L8):Nat→L8
 |0=>A
 |_=>B
theorem V7(A B:L8):k2 A B 0=A:=rfl
theorem Tq(A B:L8):k2 A B 1=B:=rfl
theorem dN{A B:L8}{s:Nat}(ha:A.length=s)(hb:B.length=s): ∀i,(k2 A B i).length=s
 |0=>ha
 |_+1=>hb
theorem kT{w:World}{b s n:Nat}{K:Nat→L8}(h:w.rangeAt b 0 ((RW s K n).map U8))(hl: ∀i,(K i).length=s):KsAt w b s n K:=fun i hi=>iY h hi (hl i)
theorem KsAt.less{w:World}{b s n m:Nat}{K:Nat→L8}(h:KsAt w b s n K)(hm:m≤n):KsAt w b s m K:=fun i hi=>h i om
theorem DV(a b e:Zr)(A B E Z S:L8)(lA:A.length=48)(lB:B.length=48)(lS:S.length=96)(hA:PUR 28 [U64 3#64] (RV a))(hB:PUR 28 [U64 5#64] (RV b))(hE:PUR 28 [U64 8#64] (RV e))(hpA:PUR 13 [RV a] (.agg ((A).map U8).toArray))(hpB:PUR 13 [RV b] (.agg ((B).map U8).toArray))(hpE:PUR 13 [RV e] (.agg ((E).map U8).toArray))(hpZ:PUR 13 [aT (List.replicate 6 (0#64))] (.agg ((Z).map U8).toArray))(hS: ∀(bm:Nat) (w':World),Gt w'→BytesAt w' (spt bm) [109#8]→CLS 14 [RV (a+b),.slice (spt bm) 1 1].toArray w' (fun r w''=>r=.returned (.tuple #[.agg ((S).map U8).toArray,I 0])∧Grow w' w''))(hF: ∀(d:Nat) (bm:Nat) (w':World),Gt w'→KsAt w' d 48 2 (k2 A B)→BytesAt w' (spt bm) [109#8]→CLS 37 [.slice (spt d) 2 2,.slice (spt bm) 1 1,.agg ((S).map U8).toArray].toArray w' (fun r w''=>r=.returned (I 0)∧Grow w' w''))(hF': ∀(d:Nat) (bm:Nat) (w':World),Gt w'→KsAt w' d 48 2 (k2 A B)→BytesAt w' (spt bm) [109#8]→CLS 37 [.slice (spt d) 1 2,.slice (spt bm) 1 1,.agg ((S).map U8).toArray].toArray w' (fun r w''=>r=.returned (I 162)∧Grow w' w''))(hV: ∀(bm:Nat) (w':World),Gt w'→BytesAt w' (spt bm) [109#8]→CLS 29 [.agg ((E).map U8).toArray,.slice (spt bm) 1 1,.agg ((S).map U8).toArray].toArray w' (fun r w''=>r=.returned (I 0)∧Grow w' w''))(hK:PUR 20 [.agg ((Z).map U8).toArray] (.tuple #[J1.PtV J1.cI,I 160]))(hN: ∀w',Gt w'→CLS 33 [.slice none 0 0].toArray w' (fun r w''=>r=.returned (.tuple #[.agg ((List.replicate 48 (0#8)).map U8).toArray,I 161])∧Grow w' w'')):PUR 11 [] (.bool true):=by
 intro w hw
 refine Hf func11 rfl hw<|fun hGF=>ae (E:=EE [1000022])<|Asg rfl<|aa<|ae (E:=EE [1000022])<|Ca rfl (hA)<|Ca rfl (hB)<|Al 1 hGF zv27<|fun b1=>Al 2 hGF zv27<|fun b2=>Sa 1 hGF rfl rfl rfl cw<|Sa 2 hGF rfl rfl rfl cw<|aa<|ae (E:=EE [1000022])<|iw 16 [109#8] hGF rfl rfl rfl dc dc underlying22 sizeOf5 zeroValue5 rfl rfl<|fun b16=>nc 16 rfl hGF rfl rfl underlying22 underlying5 rfl rfl<|Asg rfl<|aa<|ae (E:=EE [1000022])<|La 1 rfl rfl cw<|La 2 rfl rfl cw<|Ca rfl (dW a b)<|Mv rfl<|Cc rfl ent14 (fun w' hC hG=>hS b16 w' hG (BytesAt.range (aO (n:=16) rfl w' hC)))<|Mv rfl<|Ext rfl rfl<|Ext rfl rfl<|Al 4 hGF zv33<|fun b4=>ao 4 hGF rfl rfl rfl sizeOf33 (by simp[*]) sm (bi _) rfl<|Asg rfl<|aa<|Xd [1000022]<|La 1 rfl rfl cw<|Ca rfl (hpA)<|La 2 rfl rfl cw<|Ca rfl (hpB)<|ep (s:=48) 30 (k2 A B) (List.replicate 48 (0#8)) hGF rfl rfl rfl (fun i _=>dN lA lB i) dc dc underlying69 sizeOf30 sm zv30 rfl rfl<|fun b30=>Asg rfl<|aa<|ae (E:=EE [1000022])<|Mv rfl<|?_
 refine Mv rfl<|a9 4 rfl rfl isAgg33 sizeOf33 (by simp[*]) rfl rfl<|Cc rfl ent37 (fun w' hC hG=>hF b30 b16 w' hG (kT (aO (n:=30) rfl w' hC) (dN lA lB)) (BytesAt.range (aO (n:=16) rfl w' hC)))<|Asg rfl<|aa<|Xd [1000022]<|Mv rfl<|kD (l:=0) (h':=1) rfl underlying69 sizeOf30 rfl rfl om rfl rfl<|Mv rfl<|a9 4 rfl rfl isAgg33 sizeOf33 (by simp[*]) rfl rfl<|Cc rfl ent37 (fun w' hC hG=>hF' b30 b16 w' hG (kT (aO (n:=30) rfl w' hC) (dN lA lB)) (BytesAt.range (aO (n:=16) rfl w' hC)))<|Asg rfl<|aa<|Xd [1000022]<|Ca rfl (hE)<|Ca rfl (hpE)<|Mv rfl<|a9 4 rfl rfl isAgg33 sizeOf33 (by simp[*]) rfl rfl<|Cc rfl ent29 (fun w' hC hG=>hV b16 w' hG (BytesAt.range (aO (n:=16) rfl w' hC)))<|Asg rfl<|aa<|ae (E:=EE [1000022])<|fO zv27 underlying27 (o5 sizeOf25) rfl rfl<|Ca rfl (hpZ)<|Ca rfl (hK)<|Mv rfl<|Ext rfl rfl<|Ext rfl rfl<|Al 10 hGF J1.zv54<|fun b10=>Sa 10 hGF rfl rfl rfl bT<|Asg rfl<|aa<|ae (E:=EE [1000022])<|Cc rfl ent33 (fun w' hC hG=>hN w' hG)<|Mv rfl<|Ext rfl rfl<|Ext rfl rfl<|Al 12 hGF zv30<|fun b12=>ao 12 hGF rfl rfl rfl sizeOf30 (by simp[*]) sm (bi _) rfl<|Asg rfl<|?_
 refine aa<|ae (E:=EE [1000022])<|Mv rfl<|Mv rfl<|Bnr (v:=I 0) rfl rfl (fun _=>aA _ _ _ oi)<|Mv rfl<|Bnr (v:=I 0) rfl rfl (fun _=>aA _ _ _ oi)<|Bnb true rfl rfl (fun _=>cy _ _ _) (rfl)<|Mv rfl<|Mv rfl<|Bnb true rfl rfl (fun _=>cy _ _ _) (rfl)<|Pk rfl rfl rfl<|Mv rfl<|Mv rfl<|Bnb true rfl rfl (fun _=>cy _ _ _) (rfl)<|Pk rfl rfl rfl<|Mv rfl<|Mv rfl<|Bnb true rfl rfl (fun _=>cy _ _ _) (rfl)<|Pk rfl rfl rfl<|Asg rfl<|aa<|am<|Rr<|?_
 exact aE rfl rfl (fun w hw=>⟨rfl,ac hw⟩)
theorem vg(n:Nat)(h0:0<n)(hn:n≤512)(K:Nat→L8)(f:Nat→Nat)(hK: ∀i,i<n→K i=EN1 (Kx (f i))∧¬Kx (f i)=none): ∃P:J1.GP,P.P=Kx ((List.range n).map f).sum∧∀(b cap:Nat) (w:World),Gt w→KsAt w b 48 n K→CLS 70 [.slice (spt b) n cap,.func (.func 20) #[] #[]].toArray w (fun r w'=>r=.returned (.tuple #[J1.PtV P,I 0])∧Grow w w'):=by
 let p:Nat→J1.GP:=fun i=>cA1 (Kx (f i)) (qT (vD (y2 _) (JJ _)))
 refine ⟨J1.gSm p n,WV fun i _=>rfl,fun b cap w hw hk=> ?_⟩
 have k:=J1.xe n h0 hn K p (fun _=>0) (fun i hi=>⟨by rw[(hK i hi).1];exact df _,by rw[(hK i hi).1];exact EH (hK i hi).2⟩) n (Nat.le_refl _) (fun _ _=>rfl) (fun h=>absurd h (Nat.lt_irrefl _)) b cap w hw hk
 rw[if_pos rfl,if_pos rfl]at k
 exact k
theorem u7(n:Nat)(h0:0<n)(hn:n≤512)(K:Nat→L8)(f:Nat→Nat)(hK: ∀i,i<n→K i=EN1 (Kx (f i))∧¬Kx (f i)=none)(msg:L8)(H:J2.GP)(hM:Ms msg H 0)(hl:msg.length≤65600)(S:Pt W2)(oS:E2w.onP S)(rS:E2w.times S ORD=none)(e:Int)(he:(S=E2w.times H.P ((List.range n).map f).sum∧e=0)∨(¬S=E2w.times H.P ((List.range n).map f).sum∧e=162))(b c0:Nat)(a:Option Addr)(cap:Nat)(hc:msg.length≤cap)(w:World)(hw:Gt w)(hk:KsAt w b 48 n K)(hb:BytesAt w a msg):CLS 37 [.slice (spt b) n c0,.slice a msg.length cap,.agg ((EN2 S).map U8).toArray].toArray w (fun r w'=>r=.returned (I e)∧Grow w w'):=by
 obtain ⟨P,hP,hs⟩:=vg n h0 hn K f hK
 exact R8 w P (spt b) n c0 (fun w' hG hg=>hs b c0 w' hG (hk.up hg)) a msg.length cap (EN2 S) (ck _) e (fun w' hG hg=>BV P _ hP (EN2 S) (ck _) S (DC oS rS) rS msg H hM a cap hl hc e he w' hG (hb.grow hg)) hw
theorem zZ(x:Nat)(hx: ¬Kx x=none)(msg:L8)(H:J2.GP)(hM:Ms msg H 0)(hl:msg.length≤65600)(S:Pt W2)(oS:E2w.onP S)(rS:E2w.times S ORD=none)(e:Int)(he:(S=E2w.times H.P x∧e=0)∨(¬S=E2w.times H.P x∧e=162))(a:Option Addr)(cap:Nat)(hc:msg.length≤cap)(w:World)(hw:Gt w)(hb:BytesAt w a msg):CLS 29 [.agg ((EN1 (Kx x)).map U8).toArray,.slice a msg.length cap,.agg ((EN2 S).map U8).toArray].toArray w (fun r w'=>r=.returned (I e)∧Grow w w'):=
 UF w (cA1 (Kx x) (qT (vD (y2 x) (JJ x)))) (EN1 (Kx x)) (df _) (EH hx) a msg.length cap (EN2 S) (ck _) e (fun w' hG hg=>BV _ x rfl (EN2 S) (ck _) S (DC oS rS) rS msg H hM a cap hl hc e he w' hG (hb.grow hg)) hw
theorem BF(w:World)(hw:Gt w):CLS 33 [.slice none 0 0].toArray w (fun r w'=>r=.returned (.tuple #[.agg ((List.replicate 48 (0#8)).map U8).toArray,I 161])∧Grow w w'):=CP w J1.cI 161 dc none 0 0 (fun w' hG _=>J1.vq 0 rfl _ none 0 w' hG) hw
theorem J8:PUR 20 [.agg ((EN1 none).map U8).toArray] (.tuple #[J1.PtV J1.cI,I 160]):=HW _ (df _) none rfl (vD (P:=none) True.intro (E1.times_none ORD))
def fz:Nat→Nat
 |0=>3
 |_=>5
theorem i7:PUR 11 [] (.bool true):=by
 obtain ⟨H,hM,hH⟩:=Uq
 have e8:(zr (3#64).toNat+zr (5#64).toNat:Zr).val=8:=by decide+kernel
 have h3:(zr (3#64).toNat).val=3:=by decide+kernel
 have h5:(zr (5#64).toNat).val=5:=by decide+kernel
 have h8:(zr (8#64).toNat).val=8:=by decide+kernel
 have lt: ∀{k:Nat},k<100→k<ORD:=fun h=>Nat.lt_trans h (by decide+kernel)
 have pb: ∀(x:Zr) (k:Nat),x.val=k→PUR 13 [RV x] (.agg ((EN1 (Kx k)).map U8).toArray):=fun x k h=>by subst h;exact Pq x
 have hK: ∀i,i<2→k2 (EN1 (Kx 3)) (EN1 (Kx 5)) i=EN1 (Kx (fz i))∧¬Kx (fz i)=none:=fun i hi=>by
  match i,hi with
  |0,_=>rw[show fz 0=3 from rfl];exact ⟨V7 _ _,y1 dc (lt dc)⟩
  |1,_=>rw[show fz 1=5 from rfl];exact ⟨Tq _ _,y1 dc (lt dc)⟩
 have oS:=E2w.times_on H.on 8
 have rS:=E2w.times_ord H.on hM.r 8
 refine DV _ _ _ (EN1 (Kx 3)) (EN1 (Kx 5)) (EN1 (Kx 8)) (EN1 none) (EN2 (E2w.times H.P 8)) (df _) (df _) (ck _) (qy 3#64) (qy 5#64) (qy 8#64) (pb _ 3 h3) (pb _ 5 h5) (pb _ 8 h8) ?_ ?_ ?_ ?_ ?_ J8 BF
 ·have k:=Pq 0
  rw[RV,QU]at k
  exact k
 ·intro bm w' hG hb
  have k:=u5 (zr (3#64).toNat+zr (5#64).toNat) [109#8] H hM (spt bm) 1 w' dc dc hG hb
  rw[show (J2.qY H (zr (3#64).toNat+zr (5#64).toNat)).P=E2w.times H.P 8 from by rw[←e8];rfl]at k
  exact k
 ·intro d bm w' hG hk hb
  exact u7 2 dc dc _ fz hK [109#8] H hM dc _ oS rS 0 (.inl ⟨rfl,rfl⟩) d 2 _ 1 dc w' hG hk hb
 ·intro d bm w' hG hk hb
  exact u7 1 dc dc _ fz (fun i hi=>hK i om) [109#8] H hM dc _ oS rS 162 (.inr ⟨Q3 H.on hM.r hH (m:=8) (n:=3) (lt dc) (lt dc) dc,rfl⟩) d 2 _ 1 dc w' hG (hk.less dc) hb
 ·intro bm w' hG hb
  exact zZ 8 (y1 dc (lt dc)) [109#8] H hM dc _ oS rS 0 (.inl ⟨rfl,rfl⟩) _ 1 dc w' hG hb
end
section
open Go.RowKit
attribute [local simp] aW bd aU aP aD bf aL aK aB PLl cm cq N1l cr cp cu a8 bg aQ a6 bc J1.bj J2.bj bL eX df ck
attribute [local simp] gg
theorem made(k:Nat):(madeCells (Value.int .u8 0).cells (k*1)).toList=(List.replicate k 0#8).map U8:=by
 refine List.ext_getElem? fun i=> ?_
 rw[Nat.mul_one,madeCells,Array.toList_map,List.getElem?_map,List.getElem?_map,Array.toList_range]
 by_cases h:i<k
 ·rw[List.getElem?_range h,List.getElem?_replicate,if_pos h]
  show some ((Value.int .u8 0).cells[i % 1]!)=_
  rw[Nat.mod_one];rfl
 ·rw[List.getElem?_eq_none (by rw[List.length_range];omega),List.getElem?_replicate,if_neg h];rfl
theorem Lg(op:BinOp)(x y:Operand)(xs ys:Array Value)(w:World):(eqGuard op 30 x y (.agg xs) (.agg ys)).run prog w=.ok () w:=run_eqGuard_agg w op 30 x y xs ys kr
theorem LM(xs ys:L8)(h:xs.length=48)(h':ys.length=48)(w:World):(binOp .eql 30 (.agg (xs.map U8).toArray) (.agg (ys.map U8).toArray)).run prog w=.ok (.bool (decide (xs=ys))) w:=HI underlying30 underlying5 sizeOf5 isAgg5 xs ys h h' w
theorem zC(op:BinOp)(x y:Operand)(xs ys:Array Value)(w:World):(eqGuard op 33 x y (.agg xs) (.agg ys)).run prog w=.ok () w:=run_eqGuard_agg w op 33 x y xs ys kr
end
section
open Go.RowKit
attribute [local simp] aW bd aU aP aD bf aL aK aB PLl cm cq N1l cr cp cu a8 bg aQ a6 bc J1.bj J2.bj bL eX df ck
attribute [local simp] gg
theorem zS(xs ys:L8)(h:xs.length=96)(h':ys.length=96)(w:World):(binOp .neq 33 (.agg (xs.map U8).toArray) (.agg (ys.map U8).toArray)).run prog w=.ok (.bool (!decide (xs=ys))) w:=If underlying33 underlying5 sizeOf5 isAgg5 xs ys h h' w
theorem ur(e0:Option Addr)(cap0:Nat)(bs0:L8)(e1:Option Addr)(cap1:Nat)(bs1:L8)(e2:Option Addr)(cap2:Nat)(bs2:L8)(h0: ¬bs0.length≤100)(w:World)(hw:Gt w):CLS 10 [.slice e0 bs0.length cap0,.slice e1 bs1.length cap1,.slice e2 bs2.length cap2].toArray w (fun r w'=>r=.returned (.bool true)∧Grow w w'):=by
 refine Hf func10 rfl hw<|fun hGF=>Xp<|Asg rfl<|aa<|ah<|Xp<|Ca rfl i7<|aY rfl (fun _=>aJ _) rfl rfl<|aa<|aq rfl<|ap<|ah<|Xp<|Mv rfl<|a5 rfl (fun _=>az underlying22 _ _ _ _) rfl rfl<|Bnb true rfl rfl (fun _=>ba _ _ _) (decide_eq_true om)<|Mv rfl<|Sk<|Sk<|Sk<|Pk rfl rfl rfl<|Mv rfl<|Sk<|Sk<|Sk<|Pk rfl rfl rfl<|aa<|aV rfl<|Xp<|Asg rfl<|aa<|am<|Rr<|?_
 exact aE rfl rfl (fun w hw=>⟨rfl,ac hw⟩)
theorem u2(e0:Option Addr)(cap0:Nat)(bs0:L8)(e1:Option Addr)(cap1:Nat)(bs1:L8)(e2:Option Addr)(cap2:Nat)(bs2:L8)(h0:bs0.length≤100)(h1: ¬bs1.length≤100)(w:World)(hw:Gt w):CLS 10 [.slice e0 bs0.length cap0,.slice e1 bs1.length cap1,.slice e2 bs2.length cap2].toArray w (fun r w'=>r=.returned (.bool true)∧Grow w w'):=by
 refine Hf func10 rfl hw<|fun hGF=>Xp<|Asg rfl<|aa<|ah<|Xp<|Ca rfl i7<|aY rfl (fun _=>aJ _) rfl rfl<|aa<|aq rfl<|ap<|ah<|Xp<|Mv rfl<|a5 rfl (fun _=>az underlying22 _ _ _ _) rfl rfl<|Bnb false rfl rfl (fun _=>ba _ _ _) (decide_eq_false om)<|Mv rfl<|Mv rfl<|a5 rfl (fun _=>az underlying22 _ _ _ _) rfl rfl<|Bnb true rfl rfl (fun _=>ba _ _ _) (decide_eq_true om)<|Pk rfl rfl rfl<|Mv rfl<|Sk<|Sk<|Sk<|Pk rfl rfl rfl<|aa<|aV rfl<|Xp<|Asg rfl<|aa<|am<|Rr<|?_
 exact aE rfl rfl (fun w hw=>⟨rfl,ac hw⟩)
theorem tW(e0:Option Addr)(cap0:Nat)(bs0:L8)(e1:Option Addr)(cap1:Nat)(bs1:L8)(e2:Option Addr)(cap2:Nat)(bs2:L8)(h0:bs0.length≤100)(h1:bs1.length≤100)(h2: ¬bs2.length≤100)(w:World)(hw:Gt w):CLS 10 [.slice e0 bs0.length cap0,.slice e1 bs1.length cap1,.slice e2 bs2.length cap2].toArray w (fun r w'=>r=.returned (.bool true)∧Grow w w'):=by
 refine Hf func10 rfl hw<|fun hGF=>Xp<|Asg rfl<|aa<|ah<|Xp<|Ca rfl i7<|aY rfl (fun _=>aJ _) rfl rfl<|aa<|aq rfl<|ap<|ah<|Xp<|Mv rfl<|a5 rfl (fun _=>az underlying22 _ _ _ _) rfl rfl<|Bnb false rfl rfl (fun _=>ba _ _ _) (decide_eq_false om)<|Mv rfl<|Mv rfl<|a5 rfl (fun _=>az underlying22 _ _ _ _) rfl rfl<|Bnb false rfl rfl (fun _=>ba _ _ _) (decide_eq_false om)<|Pk rfl rfl rfl<|Mv rfl<|Mv rfl<|a5 rfl (fun _=>az underlying22 _ _ _ _) rfl rfl<|Bnb true rfl rfl (fun _=>ba _ _ _) (decide_eq_true om)<|Pk rfl rfl rfl<|aa<|aV rfl<|Xp<|Asg rfl<|aa<|am<|Rr<|?_
 exact aE rfl rfl (fun w hw=>⟨rfl,ac hw⟩)
theorem Av(e0:Option Addr)(cap0:Nat)(bs0:L8)(e1:Option Addr)(cap1:Nat)(bs1:L8)(e2:Option Addr)(cap2:Nat)(bs2:L8)(h0:bs0.length≤100)(h1:bs1.length≤100)(h2:bs2.length≤100)(w:World)(hw:Gt w)(x y:Zr)(S T U:L8)(lS:S.length=96)(lT:T.length=96)(lU:U.length=96)(hW0: ∀w',Gt w'→BytesAt w' e0 bs0→CLS 12 [.slice e0 bs0.length cap0].toArray w' (fun r w''=>r=.returned (RV x)∧Grow w' w''))(hW1: ∀w',Gt w'→BytesAt w' e1 bs1→CLS 12 [.slice e1 bs1.length cap1].toArray w' (fun r w''=>r=.returned (RV y)∧Grow w' w''))(hS: ∀w',Gt w'→BytesAt w' e2 bs2→CLS 14 [RV (x),.slice e2 bs2.length cap2].toArray w' (fun r w''=>r=.returned (.tuple #[.agg ((S).map U8).toArray,I 0])∧Grow w' w''))(hT: ∀w',Gt w'→BytesAt w' e2 bs2→CLS 14 [RV (y),.slice e2 bs2.length cap2].toArray w' (fun r w''=>r=.returned (.tuple #[.agg ((T).map U8).toArray,I 0])∧Grow w' w''))(hU: ∀w',Gt w'→BytesAt w' e2 bs2→CLS 14 [RV (x+y),.slice e2 bs2.length cap2].toArray w' (fun r w''=>r=.returned (.tuple #[.agg ((U).map U8).toArray,I 0])∧Grow w' w''))(hA: ∀(b:Nat) (w':World),Gt w'→KsAt w' b 96 2 (k2 S T)→CLS 34 [.slice (spt b) 2 2].toArray w' (fun r w''=>r=.returned (.tuple #[.agg ((U).map U8).toArray,I 0])∧Grow w' w''))(hx:x=0)(hb0:BytesAt w e0 bs0)(hb1:BytesAt w e1 bs1)(hb2:BytesAt w e2 bs2):CLS 10 [.slice e0 bs0.length cap0,.slice e1 bs1.length cap1,.slice e2 bs2.length cap2].toArray w (fun r w'=>r=.returned (.bool true)∧Grow w w'):=by
 refine Hf func10 rfl hw<|fun hGF=>Xp<|Asg rfl<|aa<|ah<|Xp<|Ca rfl i7<|aY rfl (fun _=>aJ _) rfl rfl<|aa<|aq rfl<|ap<|ah<|Xp<|Mv rfl<|a5 rfl (fun _=>az underlying22 _ _ _ _) rfl rfl<|Bnb false rfl rfl (fun _=>ba _ _ _) (decide_eq_false om)<|Mv rfl<|Mv rfl<|a5 rfl (fun _=>az underlying22 _ _ _ _) rfl rfl<|Bnb false rfl rfl (fun _=>ba _ _ _) (decide_eq_false om)<|Pk rfl rfl rfl<|Mv rfl<|Mv rfl<|a5 rfl (fun _=>az underlying22 _ _ _ _) rfl rfl<|Bnb false rfl rfl (fun _=>ba _ _ _) (decide_eq_false om)<|Pk rfl rfl rfl<|aa<|aq rfl<|ap<|Xp<|Mv rfl<|Cc rfl ent12 (fun w' hC hG=>hW0 w' hG (hb0.grow (ac hC)))<|Mv rfl<|Cc rfl ent12 (fun w' hC hG=>hW1 w' hG (hb1.grow (ac hC)))<|Al 7 hGF zv27<|fun b7=>Al 8 hGF zv27<|fun b8=>Sa 7 hGF rfl rfl rfl cw<|Sa 8 hGF rfl rfl rfl cw<|aa<|Xp<|?_
 refine La 7 rfl rfl cw<|Mv rfl<|Cc rfl ent14 (fun w' hC hG=>hS w' hG (hb2.grow (ac hC)))<|Mv rfl<|Ext rfl rfl<|Ext rfl rfl<|Al 9 hGF zv33<|fun b9=>ao 9 hGF rfl rfl rfl sizeOf33 (by simp[*]) sm (bi _) rfl<|Asg rfl<|aa<|Xp<|La 8 rfl rfl cw<|Mv rfl<|Cc rfl ent14 (fun w' hC hG=>hT w' hG (hb2.grow (ac hC)))<|Mv rfl<|Ext rfl rfl<|Ext rfl rfl<|Al 11 hGF zv33<|fun b11=>ao 11 hGF rfl rfl rfl sizeOf33 (by simp[*]) sm (bi _) rfl<|Asg rfl<|aa<|Xp<|a9 9 rfl rfl isAgg33 sizeOf33 (by simp[*]) rfl rfl<|a9 11 rfl rfl isAgg33 sizeOf33 (by simp[*]) rfl rfl<|ep (s:=96) 53 (k2 S T) (List.replicate 96 (0#8)) hGF rfl rfl rfl (fun i _=>dN lS lT i) dc dc underlying72 sizeOf33 sm zv33 rfl rfl<|fun b53=>Cc rfl ent34 (fun w' hC hG=>hA b53 w' hG (kT (aO (n:=53) rfl w' hC) (dN lS lT)))<|Mv rfl<|Ext rfl rfl<|Ext rfl rfl<|Al 13 hGF zv33<|fun b13=>ao 13 hGF rfl rfl rfl sizeOf33 (by simp[*]) sm (bi _) rfl<|Asg rfl<|aa<|Xp<|La 7 rfl rfl cw<|La 8 rfl rfl cw<|Ca rfl (dW x y)<|Mv rfl<|Cc rfl ent14 (fun w' hC hG=>hU w' hG (hb2.grow (ac hC)))<|Mv rfl<|?_
 refine Ext rfl rfl<|Ext rfl rfl<|Al 15 hGF zv33<|fun b15=>ao 15 hGF rfl rfl rfl sizeOf33 (by simp[*]) sm (bi _) rfl<|Asg rfl<|aa<|ah<|Xp<|Mv rfl<|Bnb false rfl rfl (fun _=>aX _ _ _) (rfl)<|Mv rfl<|a9 13 rfl rfl isAgg33 sizeOf33 (by simp[*]) rfl rfl<|a9 15 rfl rfl isAgg33 sizeOf33 (by simp[*]) rfl rfl<|jp false rfl rfl (fun _=>zC _ _ _ _ _ _) (fun w=>zS _ _ (by simp[*]) (by simp[*]) w) ((by rw[decide_eq_true rfl];rfl)) rfl rfl<|Pk rfl rfl rfl<|aa<|aq rfl<|ap<|ah<|Xp<|La 7 rfl rfl cw<|Cbl true rfl ent25 (c9 _) (decide_eq_true hx)<|Mv rfl<|Sk<|Sk<|Pk rfl rfl rfl<|aa<|aV rfl<|Xp<|Asg rfl<|aa<|am<|Rr<|?_
 exact aE rfl rfl (fun w hw=>⟨rfl,ac hw⟩)
theorem BP(e0:Option Addr)(cap0:Nat)(bs0:L8)(e1:Option Addr)(cap1:Nat)(bs1:L8)(e2:Option Addr)(cap2:Nat)(bs2:L8)(h0:bs0.length≤100)(h1:bs1.length≤100)(h2:bs2.length≤100)(w:World)(hw:Gt w)(x y:Zr)(S T U:L8)(lS:S.length=96)(lT:T.length=96)(lU:U.length=96)(hW0: ∀w',Gt w'→BytesAt w' e0 bs0→CLS 12 [.slice e0 bs0.length cap0].toArray w' (fun r w''=>r=.returned (RV x)∧Grow w' w''))(hW1: ∀w',Gt w'→BytesAt w' e1 bs1→CLS 12 [.slice e1 bs1.length cap1].toArray w' (fun r w''=>r=.returned (RV y)∧Grow w' w''))(hS: ∀w',Gt w'→BytesAt w' e2 bs2→CLS 14 [RV (x),.slice e2 bs2.length cap2].toArray w' (fun r w''=>r=.returned (.tuple #[.agg ((S).map U8).toArray,I 0])∧Grow w' w''))(hT: ∀w',Gt w'→BytesAt w' e2 bs2→CLS 14 [RV (y),.slice e2 bs2.length cap2].toArray w' (fun r w''=>r=.returned (.tuple #[.agg ((T).map U8).toArray,I 0])∧Grow w' w''))(hU: ∀w',Gt w'→BytesAt w' e2 bs2→CLS 14 [RV (x+y),.slice e2 bs2.length cap2].toArray w' (fun r w''=>r=.returned (.tuple #[.agg ((U).map U8).toArray,I 0])∧Grow w' w''))(hA: ∀(b:Nat) (w':World),Gt w'→KsAt w' b 96 2 (k2 S T)→CLS 34 [.slice (spt b) 2 2].toArray w' (fun r w''=>r=.returned (.tuple #[.agg ((U).map U8).toArray,I 0])∧Grow w' w''))(hx: ¬x=0)(hy:y=0)(hb0:BytesAt w e0 bs0)(hb1:BytesAt w e1 bs1)(hb2:BytesAt w e2 bs2):CLS 10 [.slice e0 bs0.length cap0,.slice e1 bs1.length cap1,.slice e2 bs2.length cap2].toArray w (fun r w'=>r=.returned (.bool true)∧Grow w w'):=by
 refine Hf func10 rfl hw<|fun hGF=>Xp<|Asg rfl<|aa<|ah<|Xp<|Ca rfl i7<|aY rfl (fun _=>aJ _) rfl rfl<|aa<|aq rfl<|ap<|ah<|Xp<|Mv rfl<|a5 rfl (fun _=>az underlying22 _ _ _ _) rfl rfl<|Bnb false rfl rfl (fun _=>ba _ _ _) (decide_eq_false om)<|Mv rfl<|Mv rfl<|a5 rfl (fun _=>az underlying22 _ _ _ _) rfl rfl<|Bnb false rfl rfl (fun _=>ba _ _ _) (decide_eq_false om)<|Pk rfl rfl rfl<|Mv rfl<|Mv rfl<|a5 rfl (fun _=>az underlying22 _ _ _ _) rfl rfl<|Bnb false rfl rfl (fun _=>ba _ _ _) (decide_eq_false om)<|Pk rfl rfl rfl<|aa<|aq rfl<|ap<|Xp<|Mv rfl<|Cc rfl ent12 (fun w' hC hG=>hW0 w' hG (hb0.grow (ac hC)))<|Mv rfl<|Cc rfl ent12 (fun w' hC hG=>hW1 w' hG (hb1.grow (ac hC)))<|Al 7 hGF zv27<|fun b7=>Al 8 hGF zv27<|fun b8=>Sa 7 hGF rfl rfl rfl cw<|Sa 8 hGF rfl rfl rfl cw<|aa<|Xp<|?_
 refine La 7 rfl rfl cw<|Mv rfl<|Cc rfl ent14 (fun w' hC hG=>hS w' hG (hb2.grow (ac hC)))<|Mv rfl<|Ext rfl rfl<|Ext rfl rfl<|Al 9 hGF zv33<|fun b9=>ao 9 hGF rfl rfl rfl sizeOf33 (by simp[*]) sm (bi _) rfl<|Asg rfl<|aa<|Xp<|La 8 rfl rfl cw<|Mv rfl<|Cc rfl ent14 (fun w' hC hG=>hT w' hG (hb2.grow (ac hC)))<|Mv rfl<|Ext rfl rfl<|Ext rfl rfl<|Al 11 hGF zv33<|fun b11=>ao 11 hGF rfl rfl rfl sizeOf33 (by simp[*]) sm (bi _) rfl<|Asg rfl<|aa<|Xp<|a9 9 rfl rfl isAgg33 sizeOf33 (by simp[*]) rfl rfl<|a9 11 rfl rfl isAgg33 sizeOf33 (by simp[*]) rfl rfl<|ep (s:=96) 53 (k2 S T) (List.replicate 96 (0#8)) hGF rfl rfl rfl (fun i _=>dN lS lT i) dc dc underlying72 sizeOf33 sm zv33 rfl rfl<|fun b53=>Cc rfl ent34 (fun w' hC hG=>hA b53 w' hG (kT (aO (n:=53) rfl w' hC) (dN lS lT)))<|Mv rfl<|Ext rfl rfl<|Ext rfl rfl<|Al 13 hGF zv33<|fun b13=>ao 13 hGF rfl rfl rfl sizeOf33 (by simp[*]) sm (bi _) rfl<|Asg rfl<|aa<|Xp<|La 7 rfl rfl cw<|La 8 rfl rfl cw<|Ca rfl (dW x y)<|Mv rfl<|Cc rfl ent14 (fun w' hC hG=>hU w' hG (hb2.grow (ac hC)))<|Mv rfl<|?_
 refine Ext rfl rfl<|Ext rfl rfl<|Al 15 hGF zv33<|fun b15=>ao 15 hGF rfl rfl rfl sizeOf33 (by simp[*]) sm (bi _) rfl<|Asg rfl<|aa<|ah<|Xp<|Mv rfl<|Bnb false rfl rfl (fun _=>aX _ _ _) (rfl)<|Mv rfl<|a9 13 rfl rfl isAgg33 sizeOf33 (by simp[*]) rfl rfl<|a9 15 rfl rfl isAgg33 sizeOf33 (by simp[*]) rfl rfl<|jp false rfl rfl (fun _=>zC _ _ _ _ _ _) (fun w=>zS _ _ (by simp[*]) (by simp[*]) w) ((by rw[decide_eq_true rfl];rfl)) rfl rfl<|Pk rfl rfl rfl<|aa<|aq rfl<|ap<|ah<|Xp<|La 7 rfl rfl cw<|Cbl false rfl ent25 (c9 _) (decide_eq_false hx)<|Mv rfl<|La 8 rfl rfl cw<|Cbl true rfl ent25 (c9 _) (decide_eq_true hy)<|Pk rfl rfl rfl<|aa<|aV rfl<|Xp<|Asg rfl<|aa<|am<|Rr<|?_
 exact aE rfl rfl (fun w hw=>⟨rfl,ac hw⟩)
theorem A5(e0:Option Addr)(cap0:Nat)(bs0:L8)(e1:Option Addr)(cap1:Nat)(bs1:L8)(e2:Option Addr)(cap2:Nat)(bs2:L8)(h0:bs0.length≤100)(h1:bs1.length≤100)(h2:bs2.length≤100)(w:World)(hw:Gt w)(x y:Zr)(S T U:L8)(lS:S.length=96)(lT:T.length=96)(lU:U.length=96)(hW0: ∀w',Gt w'→BytesAt w' e0 bs0→CLS 12 [.slice e0 bs0.length cap0].toArray w' (fun r w''=>r=.returned (RV x)∧Grow w' w''))(hW1: ∀w',Gt w'→BytesAt w' e1 bs1→CLS 12 [.slice e1 bs1.length cap1].toArray w' (fun r w''=>r=.returned (RV y)∧Grow w' w''))(hS: ∀w',Gt w'→BytesAt w' e2 bs2→CLS 14 [RV (x),.slice e2 bs2.length cap2].toArray w' (fun r w''=>r=.returned (.tuple #[.agg ((S).map U8).toArray,I 0])∧Grow w' w''))(hT: ∀w',Gt w'→BytesAt w' e2 bs2→CLS 14 [RV (y),.slice e2 bs2.length cap2].toArray w' (fun r w''=>r=.returned (.tuple #[.agg ((T).map U8).toArray,I 0])∧Grow w' w''))(hU: ∀w',Gt w'→BytesAt w' e2 bs2→CLS 14 [RV (x+y),.slice e2 bs2.length cap2].toArray w' (fun r w''=>r=.returned (.tuple #[.agg ((U).map U8).toArray,I 0])∧Grow w' w''))(hA: ∀(b:Nat) (w':World),Gt w'→KsAt w' b 96 2 (k2 S T)→CLS 34 [.slice (spt b) 2 2].toArray w' (fun r w''=>r=.returned (.tuple #[.agg ((U).map U8).toArray,I 0])∧Grow w' w''))(hx: ¬x=0)(hy: ¬y=0)(A B C:L8)(lA:A.length=48)(lB:B.length=48)(lC:C.length=48)(hpA:PUR 13 [RV x] (.agg ((A).map U8).toArray))(hpB:PUR 13 [RV y] (.agg ((B).map U8).toArray))(hpC:PUR 13 [RV (x+y)] (.agg ((C).map U8).toArray))(hB: ∀(b:Nat) (w':World),Gt w'→KsAt w' b 48 2 (k2 A B)→CLS 33 [.slice (spt b) 2 2].toArray w' (fun r w''=>r=.returned (.tuple #[.agg ((C).map U8).toArray,I 0])∧Grow w' w''))(hs:x+y=0)(hb0:BytesAt w e0 bs0)(hb1:BytesAt w e1 bs1)(hb2:BytesAt w e2 bs2):CLS 10 [.slice e0 bs0.length cap0,.slice e1 bs1.length cap1,.slice e2 bs2.length cap2].toArray w (fun r w'=>r=.returned (.bool true)∧Grow w w'):=by
 refine Hf func10 rfl hw<|fun hGF=>Xp<|Asg rfl<|aa<|ah<|Xp<|Ca rfl i7<|aY rfl (fun _=>aJ _) rfl rfl<|aa<|aq rfl<|ap<|ah<|Xp<|Mv rfl<|a5 rfl (fun _=>az underlying22 _ _ _ _) rfl rfl<|Bnb false rfl rfl (fun _=>ba _ _ _) (decide_eq_false om)<|Mv rfl<|Mv rfl<|a5 rfl (fun _=>az underlying22 _ _ _ _) rfl rfl<|Bnb false rfl rfl (fun _=>ba _ _ _) (decide_eq_false om)<|Pk rfl rfl rfl<|Mv rfl<|Mv rfl<|a5 rfl (fun _=>az underlying22 _ _ _ _) rfl rfl<|Bnb false rfl rfl (fun _=>ba _ _ _) (decide_eq_false om)<|Pk rfl rfl rfl<|aa<|aq rfl<|ap<|Xp<|Mv rfl<|Cc rfl ent12 (fun w' hC hG=>hW0 w' hG (hb0.grow (ac hC)))<|Mv rfl<|Cc rfl ent12 (fun w' hC hG=>hW1 w' hG (hb1.grow (ac hC)))<|Al 7 hGF zv27<|fun b7=>Al 8 hGF zv27<|fun b8=>Sa 7 hGF rfl rfl rfl cw<|Sa 8 hGF rfl rfl rfl cw<|aa<|Xp<|?_
 refine La 7 rfl rfl cw<|Mv rfl<|Cc rfl ent14 (fun w' hC hG=>hS w' hG (hb2.grow (ac hC)))<|Mv rfl<|Ext rfl rfl<|Ext rfl rfl<|Al 9 hGF zv33<|fun b9=>ao 9 hGF rfl rfl rfl sizeOf33 (by simp[*]) sm (bi _) rfl<|Asg rfl<|aa<|Xp<|La 8 rfl rfl cw<|Mv rfl<|Cc rfl ent14 (fun w' hC hG=>hT w' hG (hb2.grow (ac hC)))<|Mv rfl<|Ext rfl rfl<|Ext rfl rfl<|Al 11 hGF zv33<|fun b11=>ao 11 hGF rfl rfl rfl sizeOf33 (by simp[*]) sm (bi _) rfl<|Asg rfl<|aa<|Xp<|a9 9 rfl rfl isAgg33 sizeOf33 (by simp[*]) rfl rfl<|a9 11 rfl rfl isAgg33 sizeOf33 (by simp[*]) rfl rfl<|ep (s:=96) 53 (k2 S T) (List.replicate 96 (0#8)) hGF rfl rfl rfl (fun i _=>dN lS lT i) dc dc underlying72 sizeOf33 sm zv33 rfl rfl<|fun b53=>Cc rfl ent34 (fun w' hC hG=>hA b53 w' hG (kT (aO (n:=53) rfl w' hC) (dN lS lT)))<|Mv rfl<|Ext rfl rfl<|Ext rfl rfl<|Al 13 hGF zv33<|fun b13=>ao 13 hGF rfl rfl rfl sizeOf33 (by simp[*]) sm (bi _) rfl<|Asg rfl<|aa<|Xp<|La 7 rfl rfl cw<|La 8 rfl rfl cw<|Ca rfl (dW x y)<|Mv rfl<|Cc rfl ent14 (fun w' hC hG=>hU w' hG (hb2.grow (ac hC)))<|Mv rfl<|?_
 refine Ext rfl rfl<|Ext rfl rfl<|Al 15 hGF zv33<|fun b15=>ao 15 hGF rfl rfl rfl sizeOf33 (by simp[*]) sm (bi _) rfl<|Asg rfl<|aa<|ah<|Xp<|Mv rfl<|Bnb false rfl rfl (fun _=>aX _ _ _) (rfl)<|Mv rfl<|a9 13 rfl rfl isAgg33 sizeOf33 (by simp[*]) rfl rfl<|a9 15 rfl rfl isAgg33 sizeOf33 (by simp[*]) rfl rfl<|jp false rfl rfl (fun _=>zC _ _ _ _ _ _) (fun w=>zS _ _ (by simp[*]) (by simp[*]) w) ((by rw[decide_eq_true rfl];rfl)) rfl rfl<|Pk rfl rfl rfl<|aa<|aq rfl<|ap<|ah<|Xp<|La 7 rfl rfl cw<|Cbl false rfl ent25 (c9 _) (decide_eq_false hx)<|Mv rfl<|La 8 rfl rfl cw<|Cbl false rfl ent25 (c9 _) (decide_eq_false hy)<|Pk rfl rfl rfl<|aa<|aq rfl<|ap<|?_
 refine rM (ι:=Nat) (fun z=>[(2,.slice e2 bs2.length cap2),(7,pnt b7),(8,pnt b8),(15,pnt b15),(17,pnt z),(18,I 0)]) (fun z=>[(7,b7,(nr x).map U64,27),(8,b8,(nr y).map U64,27),(15,b15,U.map U8,33),(17,z,C.map U8,30)]) hGF ?_ ?_
 ·refine pU (EE [2999998,2999999]) dC kr kr<|aM (m:=8) [0,1,2,3] kr<|La 7 rfl rfl cw<|Ca rfl (hpA)<|La 8 rfl rfl cw<|Ca rfl (hpB)<|aa<|fc (m:=7) [4,9] kr kr dc<|?_
  intro i hi
  simp only[List.mem_cons,List.not_mem_nil,or_false]at hi
  rcases hi with rfl|rfl
  ·exact ep (s:=48) 83 (k2 A B) (List.replicate 48 (0#8)) hGF rfl rfl rfl (fun i _=>dN lA lB i) dc dc underlying69 sizeOf30 sm zv30 rfl rfl<|fun b83=>aa<|aM (m:=3) [5,6,7,8] kr<|Cc rfl ent33 (fun w' hC hG=>hB b83 w' hG (kT (aO (n:=83) rfl w' hC) (dN lA lB)))<|Mv rfl<|Ext rfl rfl<|Ext rfl rfl<|aa<|aM (m:=2) [9] kr<|bH 17 hGF zv30 rfl rfl rfl<|fun b17=>aa<|aM (m:=1) [10] kr<|ao 17 hGF rfl rfl rfl sizeOf30 (by simp[*]) sm (bi _) rfl<|aa<|aM (m:=0) [11] kr<|Asg rfl<|aa<|dd kr<|aR<|⟨rfl,b17,_,rfl,trv,trv⟩
  ·exact bH 17 hGF zv30 rfl rfl rfl<|fun b17=>aa<|aM (m:=6) [4] kr<|ep (s:=48) 83 (k2 A B) (List.replicate 48 (0#8)) hGF rfl rfl rfl (fun i _=>dN lA lB i) dc dc underlying69 sizeOf30 sm zv30 rfl rfl<|fun b83=>aa<|aM (m:=2) [5,6,7,8] kr<|Cc rfl ent33 (fun w' hC hG=>hB b83 w' hG (kT (aO (n:=83) rfl w' hC) (dN lA lB)))<|Mv rfl<|Ext rfl rfl<|Ext rfl rfl<|aa<|aM (m:=1) [10] kr<|ao 17 hGF rfl rfl rfl sizeOf30 (by simp[*]) sm (bi _) rfl<|aa<|aM (m:=0) [11] kr<|Asg rfl<|aa<|dd kr<|aR<|⟨rfl,b17,_,rfl,trv,trv⟩
 ·intro b17
  refine Xd []<|Mv rfl<|Bnb true rfl rfl (fun _=>cy _ _ _) (rfl)<|Mv rfl<|a9 17 rfl rfl isAgg30 sizeOf30 (by simp[*]) rfl rfl<|La 7 rfl rfl cw<|La 8 rfl rfl cw<|Ca rfl (dW x y)<|Ca rfl (hpC)<|jp true rfl rfl (fun _=>Lg _ _ _ _ _ _) (fun w=>LM _ _ (by simp[*]) (by simp[*]) w) (decide_eq_true rfl) rfl rfl<|Pk rfl rfl rfl<|Mv rfl<|La 7 rfl rfl cw<|La 8 rfl rfl cw<|Ca rfl (dW x y)<|Cbl true rfl ent25 (c9 _) (decide_eq_true hs)<|Mv rfl<|Sk<|Sk<|Sk<|Sk<|Sk<|Pk rfl rfl rfl<|Pk rfl rfl rfl<|Asg rfl<|aa<|am<|Rr<|?_
  exact aE rfl rfl (fun w hw=>⟨rfl,ac hw⟩)
theorem Aw(e0:Option Addr)(cap0:Nat)(bs0:L8)(e1:Option Addr)(cap1:Nat)(bs1:L8)(e2:Option Addr)(cap2:Nat)(bs2:L8)(h0:bs0.length≤100)(h1:bs1.length≤100)(h2:bs2.length≤100)(w:World)(hw:Gt w)(x y:Zr)(S T U:L8)(lS:S.length=96)(lT:T.length=96)(lU:U.length=96)(hW0: ∀w',Gt w'→BytesAt w' e0 bs0→CLS 12 [.slice e0 bs0.length cap0].toArray w' (fun r w''=>r=.returned (RV x)∧Grow w' w''))(hW1: ∀w',Gt w'→BytesAt w' e1 bs1→CLS 12 [.slice e1 bs1.length cap1].toArray w' (fun r w''=>r=.returned (RV y)∧Grow w' w''))(hS: ∀w',Gt w'→BytesAt w' e2 bs2→CLS 14 [RV (x),.slice e2 bs2.length cap2].toArray w' (fun r w''=>r=.returned (.tuple #[.agg ((S).map U8).toArray,I 0])∧Grow w' w''))(hT: ∀w',Gt w'→BytesAt w' e2 bs2→CLS 14 [RV (y),.slice e2 bs2.length cap2].toArray w' (fun r w''=>r=.returned (.tuple #[.agg ((T).map U8).toArray,I 0])∧Grow w' w''))(hU: ∀w',Gt w'→BytesAt w' e2 bs2→CLS 14 [RV (x+y),.slice e2 bs2.length cap2].toArray w' (fun r w''=>r=.returned (.tuple #[.agg ((U).map U8).toArray,I 0])∧Grow w' w''))(hA: ∀(b:Nat) (w':World),Gt w'→KsAt w' b 96 2 (k2 S T)→CLS 34 [.slice (spt b) 2 2].toArray w' (fun r w''=>r=.returned (.tuple #[.agg ((U).map U8).toArray,I 0])∧Grow w' w''))(hx: ¬x=0)(hy: ¬y=0)(A B C:L8)(lA:A.length=48)(lB:B.length=48)(lC:C.length=48)(hpA:PUR 13 [RV x] (.agg ((A).map U8).toArray))(hpB:PUR 13 [RV y] (.agg ((B).map U8).toArray))(hpC:PUR 13 [RV (x+y)] (.agg ((C).map U8).toArray))(hB: ∀(b:Nat) (w':World),Gt w'→KsAt w' b 48 2 (k2 A B)→CLS 33 [.slice (spt b) 2 2].toArray w' (fun r w''=>r=.returned (.tuple #[.agg ((C).map U8).toArray,I 0])∧Grow w' w''))(hs: ¬x+y=0)(hV: ∀w',Gt w'→BytesAt w' e2 bs2→CLS 29 [.agg ((C).map U8).toArray,.slice e2 bs2.length cap2,.agg ((U).map U8).toArray].toArray w' (fun r w''=>r=.returned (I 0)∧Grow w' w''))(hb0:BytesAt w e0 bs0)(hb1:BytesAt w e1 bs1)(hb2:BytesAt w e2 bs2):CLS 10 [.slice e0 bs0.length cap0,.slice e1 bs1.length cap1,.slice e2 bs2.length cap2].toArray w (fun r w'=>r=.returned (.bool true)∧Grow w w'):=by
 refine Hf func10 rfl hw<|fun hGF=>Xp<|Asg rfl<|aa<|ah<|Xp<|Ca rfl i7<|aY rfl (fun _=>aJ _) rfl rfl<|aa<|aq rfl<|ap<|ah<|Xp<|Mv rfl<|a5 rfl (fun _=>az underlying22 _ _ _ _) rfl rfl<|Bnb false rfl rfl (fun _=>ba _ _ _) (decide_eq_false om)<|Mv rfl<|Mv rfl<|a5 rfl (fun _=>az underlying22 _ _ _ _) rfl rfl<|Bnb false rfl rfl (fun _=>ba _ _ _) (decide_eq_false om)<|Pk rfl rfl rfl<|Mv rfl<|Mv rfl<|a5 rfl (fun _=>az underlying22 _ _ _ _) rfl rfl<|Bnb false rfl rfl (fun _=>ba _ _ _) (decide_eq_false om)<|Pk rfl rfl rfl<|aa<|aq rfl<|ap<|Xp<|Mv rfl<|Cc rfl ent12 (fun w' hC hG=>hW0 w' hG (hb0.grow (ac hC)))<|Mv rfl<|Cc rfl ent12 (fun w' hC hG=>hW1 w' hG (hb1.grow (ac hC)))<|Al 7 hGF zv27<|fun b7=>Al 8 hGF zv27<|fun b8=>Sa 7 hGF rfl rfl rfl cw<|Sa 8 hGF rfl rfl rfl cw<|aa<|Xp<|?_
 refine La 7 rfl rfl cw<|Mv rfl<|Cc rfl ent14 (fun w' hC hG=>hS w' hG (hb2.grow (ac hC)))<|Mv rfl<|Ext rfl rfl<|Ext rfl rfl<|Al 9 hGF zv33<|fun b9=>ao 9 hGF rfl rfl rfl sizeOf33 (by simp[*]) sm (bi _) rfl<|Asg rfl<|aa<|Xp<|La 8 rfl rfl cw<|Mv rfl<|Cc rfl ent14 (fun w' hC hG=>hT w' hG (hb2.grow (ac hC)))<|Mv rfl<|Ext rfl rfl<|Ext rfl rfl<|Al 11 hGF zv33<|fun b11=>ao 11 hGF rfl rfl rfl sizeOf33 (by simp[*]) sm (bi _) rfl<|Asg rfl<|aa<|Xp<|a9 9 rfl rfl isAgg33 sizeOf33 (by simp[*]) rfl rfl<|a9 11 rfl rfl isAgg33 sizeOf33 (by simp[*]) rfl rfl<|ep (s:=96) 53 (k2 S T) (List.replicate 96 (0#8)) hGF rfl rfl rfl (fun i _=>dN lS lT i) dc dc underlying72 sizeOf33 sm zv33 rfl rfl<|fun b53=>Cc rfl ent34 (fun w' hC hG=>hA b53 w' hG (kT (aO (n:=53) rfl w' hC) (dN lS lT)))<|Mv rfl<|Ext rfl rfl<|Ext rfl rfl<|Al 13 hGF zv33<|fun b13=>ao 13 hGF rfl rfl rfl sizeOf33 (by simp[*]) sm (bi _) rfl<|Asg rfl<|aa<|Xp<|La 7 rfl rfl cw<|La 8 rfl rfl cw<|Ca rfl (dW x y)<|Mv rfl<|Cc rfl ent14 (fun w' hC hG=>hU w' hG (hb2.grow (ac hC)))<|Mv rfl<|?_
 refine Ext rfl rfl<|Ext rfl rfl<|Al 15 hGF zv33<|fun b15=>ao 15 hGF rfl rfl rfl sizeOf33 (by simp[*]) sm (bi _) rfl<|Asg rfl<|aa<|ah<|Xp<|Mv rfl<|Bnb false rfl rfl (fun _=>aX _ _ _) (rfl)<|Mv rfl<|a9 13 rfl rfl isAgg33 sizeOf33 (by simp[*]) rfl rfl<|a9 15 rfl rfl isAgg33 sizeOf33 (by simp[*]) rfl rfl<|jp false rfl rfl (fun _=>zC _ _ _ _ _ _) (fun w=>zS _ _ (by simp[*]) (by simp[*]) w) ((by rw[decide_eq_true rfl];rfl)) rfl rfl<|Pk rfl rfl rfl<|aa<|aq rfl<|ap<|ah<|Xp<|La 7 rfl rfl cw<|Cbl false rfl ent25 (c9 _) (decide_eq_false hx)<|Mv rfl<|La 8 rfl rfl cw<|Cbl false rfl ent25 (c9 _) (decide_eq_false hy)<|Pk rfl rfl rfl<|aa<|aq rfl<|ap<|?_
 refine rM (ι:=Nat) (fun z=>[(2,.slice e2 bs2.length cap2),(7,pnt b7),(8,pnt b8),(15,pnt b15),(17,pnt z),(18,I 0)]) (fun z=>[(7,b7,(nr x).map U64,27),(8,b8,(nr y).map U64,27),(15,b15,U.map U8,33),(17,z,C.map U8,30)]) hGF ?_ ?_
 ·refine pU (EE [2999998,2999999]) dC kr kr<|aM (m:=8) [0,1,2,3] kr<|La 7 rfl rfl cw<|Ca rfl (hpA)<|La 8 rfl rfl cw<|Ca rfl (hpB)<|aa<|fc (m:=7) [4,9] kr kr dc<|?_
  intro i hi
  simp only[List.mem_cons,List.not_mem_nil,or_false]at hi
  rcases hi with rfl|rfl
  ·exact ep (s:=48) 83 (k2 A B) (List.replicate 48 (0#8)) hGF rfl rfl rfl (fun i _=>dN lA lB i) dc dc underlying69 sizeOf30 sm zv30 rfl rfl<|fun b83=>aa<|aM (m:=3) [5,6,7,8] kr<|Cc rfl ent33 (fun w' hC hG=>hB b83 w' hG (kT (aO (n:=83) rfl w' hC) (dN lA lB)))<|Mv rfl<|Ext rfl rfl<|Ext rfl rfl<|aa<|aM (m:=2) [9] kr<|bH 17 hGF zv30 rfl rfl rfl<|fun b17=>aa<|aM (m:=1) [10] kr<|ao 17 hGF rfl rfl rfl sizeOf30 (by simp[*]) sm (bi _) rfl<|aa<|aM (m:=0) [11] kr<|Asg rfl<|aa<|dd kr<|aR<|⟨rfl,b17,_,rfl,trv,trv⟩
  ·exact bH 17 hGF zv30 rfl rfl rfl<|fun b17=>aa<|aM (m:=6) [4] kr<|ep (s:=48) 83 (k2 A B) (List.replicate 48 (0#8)) hGF rfl rfl rfl (fun i _=>dN lA lB i) dc dc underlying69 sizeOf30 sm zv30 rfl rfl<|fun b83=>aa<|aM (m:=2) [5,6,7,8] kr<|Cc rfl ent33 (fun w' hC hG=>hB b83 w' hG (kT (aO (n:=83) rfl w' hC) (dN lA lB)))<|Mv rfl<|Ext rfl rfl<|Ext rfl rfl<|aa<|aM (m:=1) [10] kr<|ao 17 hGF rfl rfl rfl sizeOf30 (by simp[*]) sm (bi _) rfl<|aa<|aM (m:=0) [11] kr<|Asg rfl<|aa<|dd kr<|aR<|⟨rfl,b17,_,rfl,trv,trv⟩
 ·intro b17
  refine Xd []<|Mv rfl<|Bnb true rfl rfl (fun _=>cy _ _ _) (rfl)<|Mv rfl<|a9 17 rfl rfl isAgg30 sizeOf30 (by simp[*]) rfl rfl<|La 7 rfl rfl cw<|La 8 rfl rfl cw<|Ca rfl (dW x y)<|Ca rfl (hpC)<|jp true rfl rfl (fun _=>Lg _ _ _ _ _ _) (fun w=>LM _ _ (by simp[*]) (by simp[*]) w) (decide_eq_true rfl) rfl rfl<|Pk rfl rfl rfl<|Mv rfl<|La 7 rfl rfl cw<|La 8 rfl rfl cw<|Ca rfl (dW x y)<|Cbl false rfl ent25 (c9 _) (decide_eq_false hs)<|Mv rfl<|a9 17 rfl rfl isAgg30 sizeOf30 (by simp[*]) rfl rfl<|Mv rfl<|a9 15 rfl rfl isAgg33 sizeOf33 (by simp[*]) rfl rfl<|Cc rfl ent29 (fun w' hC hG=>hV w' hG (hb2.grow (ac hC)))<|Bnb true rfl rfl (fun _=>cy _ _ _) (rfl)<|Pk rfl rfl rfl<|Pk rfl rfl rfl<|Asg rfl<|aa<|am<|Rr<|?_
  exact aE rfl rfl (fun w hw=>⟨rfl,ac hw⟩)
end
section
open Go.RowKit
def f2n(a b:Nat):Nat→Nat
 |0=>a
 |_=>b
theorem My(a b:Nat):((List.range 2).map (f2n a b)).sum=a+b:=by simp[List.range_succ,f2n]
theorem Af(x y:Zr):(x+y).val=(x.val+y.val) % ORD:=by rw[Kw];exact Fin.val_add x y
theorem Nw(x y:Zr):Kx (x+y).val=Kx (x.val+y.val):=by rw[Af,PG]
theorem NN{Q:Pt W2}(hQ:E2w.onP Q)(hq:E2w.times Q ORD=none)(x y:Zr):E2w.times Q (x+y).val=E2w.times Q (x.val+y.val):=by rw[Af,E2w.times_mod hQ hq]
theorem Eh(n:Nat)(h0:0<n)(hn:n≤512)(K:Nat→L8){Q:Pt W2}(hQ:E2w.onP Q)(hq:E2w.times Q ORD=none)(f:Nat→Nat)(hK: ∀i,i<n→K i=EN2 (E2w.times Q (f i))): ∃P:J2.GP,P.P=E2w.times Q ((List.range n).map f).sum∧∀(b cap:Nat) (w:World),Gt w→KsAt w b 96 n K→CLS 71 [.slice (spt b) n cap,.func (.func 72) #[] #[]].toArray w (fun r w'=>r=.returned (.tuple #[J2.PtV P,I 0])∧Grow w w'):=by
 have hD: ∀i,D2 (EN2 (E2w.times Q (f i))) 0 (E2w.times Q (f i)):=fun i=>DC (E2w.times_on hQ _) (E2w.times_ord hQ hq _)
 refine ⟨J2.gSm (fun i=>cA2 (E2w.times Q (f i)) (iH (hD i))) n,SB hQ fun i _=>rfl,fun b cap w hw hk=> ?_⟩
 have k:=J2.xe n h0 hn K (fun i=>cA2 (E2w.times Q (f i)) (iH (hD i))) (fun _=>0) (fun i hi=>⟨by rw[hK i hi];exact ck _,by rw[hK i hi];exact Ni _ (ck _) 0 _ (hD i)⟩) n (Nat.le_refl _) (fun _ _=>rfl) (fun h=>absurd h (Nat.lt_irrefl _)) b cap w hw hk
 rw[if_pos rfl,if_pos rfl]at k
 exact k
theorem k2_f(g:Nat→L8)(a b:Nat): ∀i,i<2→k2 (g a) (g b) i=g (f2n a b i)
 |0,_=>rfl
 |1,_=>rfl
theorem Nh{msg:L8}(h:msg.length≤65536): ¬Xm.FBad msg SUs 2:=by
 rintro (h'|h'|h'|h')
 ·revert h';decide
 ·revert h';decide
 ·revert h';decide
 ·omega
theorem Vb(x:Zr)(msg:L8)(H:J2.GP)(hM:Ms msg H 0)(a:Option Addr)(cap:Nat)(w:World)(hl:msg.length≤65600)(hc:msg.length≤cap)(hw:Gt w)(hb:BytesAt w a msg):CLS 14 [RV x,.slice a msg.length cap].toArray w (fun r w'=>r=.returned (.tuple #[.agg ((EN2 (E2w.times H.P x.val)).map U8).toArray,I 0])∧Grow w w'):=u5 x msg H hM a cap w hl hc hw hb
theorem B7(z:Zr)(hz: ¬Kx z.val=none)(msg:L8)(H:J2.GP)(hM:Ms msg H 0)(hl:msg.length≤65600)(a:Option Addr)(cap:Nat)(hc:msg.length≤cap)(w:World)(hw:Gt w)(hb:BytesAt w a msg):CLS 29 [.agg ((EN1 (Kx z.val)).map U8).toArray,.slice a msg.length cap,.agg ((EN2 (E2w.times H.P z.val)).map U8).toArray].toArray w (fun r w'=>r=.returned (I 0)∧Grow w w'):=zZ z.val hz msg H hM hl (E2w.times H.P z.val) (E2w.times_on H.on _) (E2w.times_ord H.on hM.r _) 0 (.inl ⟨rfl,rfl⟩) a cap hc w hw hb
theorem NC(e0:Option Addr)(cap0:Nat)(bs0:L8)(e1:Option Addr)(cap1:Nat)(bs1:L8)(e2:Option Addr)(cap2:Nat)(bs2:L8)(hc0:bs0.length≤cap0)(hc1:bs1.length≤cap1)(hc2:bs2.length≤cap2)(w:World)(hw:Gt w)(hb0:BytesAt w e0 bs0)(hb1:BytesAt w e1 bs1)(hb2:BytesAt w e2 bs2):CLS 10 [.slice e0 bs0.length cap0,.slice e1 bs1.length cap1,.slice e2 bs2.length cap2].toArray w (fun r w'=>r=.returned (.bool true)∧Grow w w'):=by
 by_cases h0:bs0.length≤100
 case neg=>exact ur e0 cap0 bs0 e1 cap1 bs1 e2 cap2 bs2 h0 w hw
 by_cases h1:bs1.length≤100
 case neg=>exact u2 e0 cap0 bs0 e1 cap1 bs1 e2 cap2 bs2 h0 h1 w hw
 by_cases h2:bs2.length≤100
 case neg=>exact tW e0 cap0 bs0 e1 cap1 bs1 e2 cap2 bs2 h0 h1 h2 w hw
 have hm2:bs2.length≤65536:=om
 obtain ⟨H,hM⟩:=VR (Nh hm2)
 have hn0:bs0.length≤1000000:=om
 have hn1:bs1.length≤1000000:=om
 have hn2:bs2.length≤65600:=om
 have hW0:=fun w' hG hb=>nz e0 cap0 bs0 hn0 hc0 w' hG hb
 have hW1:=fun w' hG hb=>nz e1 cap1 bs1 hn1 hc1 w' hG hb
 revert hW0 hW1
 generalize QB bs0=x
 generalize QB bs1=y
 intro hW0 hW1
 have sg:=fun (z:Zr) w' hG hb=>Vb z bs2 H hM e2 cap2 w' hn2 hc2 hG hb
 have hA: ∀(b:Nat) (w':World),Gt w'→KsAt w' b 96 2 (k2 (EN2 (E2w.times H.P x.val)) (EN2 (E2w.times H.P y.val)))→CLS 34 [.slice (spt b) 2 2].toArray w' (fun r w''=>r=.returned (.tuple #[.agg ((EN2 (E2w.times H.P (x+y).val)).map U8).toArray,I 0])∧Grow w' w''):=fun b w' hG hk=>by
  obtain ⟨P,hP,hs⟩:=Eh 2 dc dc (k2 (EN2 (E2w.times H.P x.val)) (EN2 (E2w.times H.P y.val))) H.on hM.r (f2n x.val y.val) (k2_f (fun n=>EN2 (E2w.times H.P n)) x.val y.val)
  have k:=J3 w' P (spt b) 2 2 (fun w1 hG1 hg1=>hs b 2 w1 hG1 (hk.up hg1)) hG
  rw[hP,My,←NN H.on hM.r]at k
  exact k
 by_cases hx:x=0
 ·exact Av e0 cap0 bs0 e1 cap1 bs1 e2 cap2 bs2 h0 h1 h2 w hw x y _ _ _ (ck _) (ck _) (ck _) hW0 hW1 (sg x) (sg y) (sg (x+y)) hA hx hb0 hb1 hb2
 by_cases hy:y=0
 ·exact BP e0 cap0 bs0 e1 cap1 bs1 e2 cap2 bs2 h0 h1 h2 w hw x y _ _ _ (ck _) (ck _) (ck _) hW0 hW1 (sg x) (sg y) (sg (x+y)) hA hx hy hb0 hb1 hb2
 have pos: ∀{z:Zr},¬z=0→¬Kx z.val=none:=fun {z} h=>y1 (Nat.pos_of_ne_zero fun e=>h (Fin.ext e)) (VY z)
 have hB: ∀(b:Nat) (w':World),Gt w'→KsAt w' b 48 2 (k2 (EN1 (Kx x.val)) (EN1 (Kx y.val)))→CLS 33 [.slice (spt b) 2 2].toArray w' (fun r w''=>r=.returned (.tuple #[.agg ((EN1 (Kx (x+y).val)).map U8).toArray,I 0])∧Grow w' w''):=fun b w' hG hk=>by
  have hK: ∀i,i<2→k2 (EN1 (Kx x.val)) (EN1 (Kx y.val)) i=EN1 (Kx (f2n x.val y.val i))∧¬Kx (f2n x.val y.val i)=none:=fun i hi=>by
   match i,hi with
   |0,_=>exact ⟨V7 _ _,pos hx⟩
   |1,_=>exact ⟨Tq _ _,pos hy⟩
  obtain ⟨P,hP,hs⟩:=vg 2 dc dc _ (f2n x.val y.val) hK
  have k:=HM w' P (spt b) 2 2 (fun w1 hG1 hg1=>hs b 2 w1 hG1 (hk.up hg1)) hG
  rw[hP,My,←Nw]at k
  exact k
 by_cases hs:x+y=0
 ·exact A5 e0 cap0 bs0 e1 cap1 bs1 e2 cap2 bs2 h0 h1 h2 w hw x y _ _ _ (ck _) (ck _) (ck _) hW0 hW1 (sg x) (sg y) (sg (x+y)) hA hx hy _ _ _ (df _) (df _) (df _) (m6 x) (m6 y) (m6 (x+y)) hB hs hb0 hb1 hb2
 ·exact Aw e0 cap0 bs0 e1 cap1 bs1 e2 cap2 bs2 h0 h1 h2 w hw x y _ _ _ (ck _) (ck _) (ck _) hW0 hW1 (sg x) (sg y) (sg (x+y)) hA hx hy _ _ _ (df _) (df _) (df _) (m6 x) (m6 y) (m6 (x+y)) hB hs (fun w' hG hb=>B7 (x+y) (pos hs) bs2 H hM hn2 e2 cap2 hc2 w' hG hb) hb0 hb1 hb2
end
end Go.Proofs.YtfgacclgjklgnaaGreatDoor
