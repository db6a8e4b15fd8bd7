/- L15 -/
import Derived.Test.YtfgacclgjklgnaaGreatDoorL14
import Derived.Test.YtfgacclgjklgnaaGreatDoorX2
import Derived.Test.YtfgacclgjklgnaaGreatDoorXW
import Derived.Test.YtfgacclgjklgnaaGreatDoorL8
import Derived.Test.YtfgacclgjklgnaaGreatDoorL11
import Derived.Test.YtfgacclgjklgnaaGreatDoorX3
import Derived.Test.YtfgacclgjklgnaaGreatDoorL12
import Derived.Test.YtfgacclgjklgnaaGreatDoorL4
import Derived.Test.YtfgacclgjklgnaaGreatDoorL13
set_option maxRecDepth 100000
set_option maxHeartbeats 1000000
namespace Go.Proofs.YtfgacclgjklgnaaGreatDoor
open Go.Proofs.Tryz
section
open J2
open Go.RowKit
attribute [local simp] aV ba aT aO aD bd aK aJ aA PLl cv cw N1l cu cr cq a7 bc aP aZ a9 bi cV gt iZ
theorem ent144:ai prog 144:=fun _ _=>kr
theorem ent194:ai prog 194:=fun _ _=>kr
theorem ent146:ai prog 146:=fun _ _=>kr
theorem Mk  :PUR 95 [] (.string SUb):=by
 intro w hw
 refine Hf func95 rfl hw<|fun hGF=>Xp<|Asg rfl<|aa<|Xp<|Asg rfl<|aa<|am<|Rr<|?_
 exact aH rfl rfl (fun w hw=>⟨rfl,ae hw⟩)
theorem T5(p q:GP)(hq:AI p HBs=q)(b cap:Nat)(w:World)(hw:Gt w)(h:w.rangeAt b 0 (HBs.map U8)):CLS 195 [PtV p,.slice (spt b) HBs.length cap].toArray w (fun r w'=>r=.returned (PtV q)∧Grow w w'):=by
 subst hq
 exact Kh p _ cap HBs dc w hw (BytesAt.range h)
def gCl(p:GP):GP:=AI p HBs
theorem Mn(p:GP)(bs:L8):(AI p bs).P=E2w.times p.P (BN bs bs.length):=rfl
theorem UC(p:GP):(gCl p).P=E2w.times p.P HEF:=by rw[gCl,Mn,SN]
theorem Oj(p:GP):PUR 145 [PtV p] (PtV (gCl p)):=by
 intro w hw
 refine Hf func145 rfl hw<|fun hGF=>ac (E:=EE [1000022])<|Bx 1 hGF rfl<|fun b1=>Al 2 hGF zv94<|fun b2=>aa<|ac (E:=EE [1000022])<|La 1 rfl rfl bE<|iw 4 HBs hGF rfl rfl rfl dc dc underlying22 sizeOf5 zeroValue5 rfl rfl<|fun b4=>mC 4 rfl hGF rfl rfl underlying22 underlying5 rfl rfl<|Cc rfl ent195 (fun w' hC hG=>T5 p (gCl p) rfl _ _ w' hG (aM (n:=4) rfl w' hC))<|Sa 2 hGF rfl rfl rfl bE<|aa<|am<|Rr<|?_
 exact az 2 rfl rfl rfl isAgg94 sizeOf94 sm (fun w hw=>⟨rfl,ae hw⟩)
def PE2(f:Nat→W2):List (List Value):=(List.range 2).map fun (k:Nat)=>[EV2 (f k)]
theorem tj(f:Nat→W2):(PE2 f).length=2:=by rw[PE2,List.length_map,List.length_range]
theorem yf(f:Nat→W2)(k:Nat)(h:k<2):(PE2 f)[k]? =some [EV2 (f k)]:=by
 rw[PE2,List.getElem?_map,List.getElem?_range h];rfl
theorem OF(f:Nat→W2)(k:Nat)(v:List Value)(h:(PE2 f)[k]? =some v):k<2∧v=[EV2 (f k)]:=by
 have hk:k<2:=by
  rcases Nat.lt_or_ge k 2 with hk|hk
  ·exact hk
  ·rw[List.getElem?_eq_none (by rw[tj];exact hk)]at h;cases h
 exact ⟨hk,(Option.some.inj ((yf f k hk).symm.trans h)).symm⟩
def RdE(bb b cap:Nat)(f:Nat→W2):Cls:=fun w=>w.cell? ⟨bb,0,none⟩=some (.slice (spt b) 2 cap)∧w.rangeAt b 0 ((RW 12 (RPr f) 2).map U64)
theorem jH(bb b cap:Nat)(f:Nat→W2):el prog Gt 194 [pnt bb] (PE2 f) (RdE bb b cap f):=by
 intro l J Jx hJ hJx hRd hGx hY w hj
 have okJ: ∀k,BOk Gt (Bi w (fun Y=>J Y k)):=fun k=>⟨fun _ _ _ h=>(hRd _ _ _ h.rid).1,hJ k⟩
 have okX: ∀k,BOk Gt (Bi w (fun Y=>Jx Y k)):=fun k=>⟨fun _ _ _ h=>hGx _ _ _ h.rid,hJx k⟩
 have c1: ∀k L w',Hp (Bi w (fun Y=>J Y k)) L w'→RdE bb b cap f w':=fun k L w' h=>(hRd _ _ _ h.rid).2
 refine ca (G:=Gt) func194 rfl rfl (Hp (Bi w (fun Y=>J Y 0)) []) (bK (Bi w _) hj (hJ 0)) (ao (okJ 0))<|Xp<|bu rfl isAgg246 (fun w h=>(c1 _ _ w h).1) rfl rfl<|bk rfl (fun _=>aE underlying246 _ _ _ _) rfl rfl<|Mv rfl<|aa<|aj<|fo (ι:={i:Nat // i≤2}) (fun y=>[(0,.func (.yield l) #[] #[]),(1,pnt bb),(5,.slice (spt b) 2 cap),(6,I ((2:Nat):Int)),(7,I (y.1:Int))]) (fun y=>Bi w (fun Y=>J Y y.1)) (fun y=>[]) (fun y=>2-y.1) ⟨0,Nat.zero_le _⟩ (fun _=>okJ _) rfl trv trivial<|?_
 rintro ⟨i,hi⟩
 dsimp only
 refine Xp<|Bnr rfl rfl (fun _=>aC _ _ _)<|aa<|ah<|?_
 refine bX rfl (fun hc=> ?_) (fun hc=> ?_)
 ·have hi2:i<2:=by simp at hc;omega
  refine ap<|ah<|aj<|Xp<|gL (s:=12) i rfl rfl underlying246 sizeOf92 om om rfl rfl<|dk (cs:=(fe (f i).1++fe (f i).2).map U64) rfl isAgg92 sizeOf92 sm (fun w h=>iE (c1 _ _ w h).2 om (gt _ _)) rfl rfl<|Al 4 (okJ _) zv92<|fun b4=>Sa 4 (okJ _) rfl rfl rfl aF<|aa<|Xp<|Mv rfl<|La 4 rfl rfl aF<|?_
  refine cU (hY.b (k:=i) (yf f i om) w) (okJ _) (okX _) rfl rfl rfl rfl rfl ?_ ?_
  ·refine a5 rfl (fun _=>aL _) rfl rfl<|aa<|au rfl<|ap<|Xq<|Bnr rfl rfl (fun _=>ay _ _ _ oi)<|Mv rfl<|aa<|?_
   repeat (refine aY ?_)
   exact aU<|⟨rfl,⟨i+1,om⟩,_,by show 2-(i+1)<2-i;omega,rfl,trv,trivial⟩
  ·refine a5 rfl (fun _=>aL _) rfl rfl<|aa<|aQ rfl<|am<|Rr<|?_
   repeat (first|refine cX ?_|refine bY ?_|refine cS rfl ?_|refine bf ?_|refine be ?_)
   exact cP rfl (fun w hw=>⟨⟨_,rfl⟩,.inr ⟨_,bz (hJx _) hw.rid⟩⟩)
 ·obtain rfl:i=2:=by simp at hc;omega
  refine a8 ?_
  repeat (first|refine cX ?_|refine bY ?_|refine cS rfl ?_|refine bf ?_|refine be ?_)
  refine cn rfl (fun w hw=>⟨⟨_,rfl⟩,.inl ?_⟩)
  have:=bz (hJ _) hw.rid
  rw[tj]
  exact this
theorem Kf{u:W2}{A:W2×W2}(h:SwA u A): ∃p:GP,p.P=some A∧PUR 196 [EV2 u] (PtV p):=by
 obtain ⟨x,r,s,rfl⟩:=h
 exact ⟨_,rfl,pmap s⟩
def gS(p:Nat→GP):Nat→GP
 |0=>ch
 |k+1=>Au (gS p k) (p k)
theorem gS_P{p:Nat→GP}{A B:W2×W2}(h0:(p 0).P=some A)(h1:(p 1).P=some B):(gS p 2).P=E2w.ad (some A) (some B):=by
 show E2w.ad (E2w.ad none (p 0).P) (p 1).P=_
 rw[h0,h1];rfl
theorem IE(msg dst:L8)(hbad:Xm.FBad msg dst 2)(a1:Option Addr)(cap1:Nat)(a2:Option Addr)(cap2:Nat)(w:World)(hl1:msg.length≤65600)(hc1:msg.length≤cap1)(hl2:dst.length≤1000)(hc2:dst.length≤cap2)(hw:Gt w)(hb1:BytesAt w a1 msg)(hb2:BytesAt w a2 dst):CLS 144 [.slice a1 msg.length cap1,.slice a2 dst.length cap2].toArray w (fun e w'=>e=.returned (.tuple #[.nilFunc,I 130])∧Grow w w'):=by
 refine Hf func144 rfl hw<|fun hGF=>ac (E:=EE [193,2000193])<|Asg rfl<|Asg rfl<|aa<|ac (E:=EE [193,2000193])<|Mv rfl<|Mv rfl<|?_
 refine bG rfl rfl ent193 rfl rfl (fun w' hw'=>(Xm.pfc a1 cap1 msg a2 cap2 dst 2 w' om hc1 om hc2 (hGF.g _ _ _ hw') (hb1.grow (ae hw')) (hb2.grow (ae hw'))).mono fun e w'' h=> ?_)
 obtain ⟨v,rfl,hg,hq⟩:=h
 obtain rfl:=hq.bad hbad
 refine ⟨_,_,rfl,ao hGF,hw'.grow ak hg,fun _ h=>h, ?_⟩
 clear hq hg hw'
 refine Mv rfl<|Ext rfl rfl<|Ext rfl rfl<|eI 6 hGF zeroValue246 rfl rfl<|fun b6=>cL 6 hGF rfl rfl rfl sizeOf246 rfl dc rfl<|Asg rfl<|aa<|ah<|ac (E:=EE [193,2000193])<|Mv rfl<|Bnb true rfl rfl (fun _=>a6 _ _ _) (rfl)<|aa<|aQ rfl<|ac (E:=EE [193,2000193])<|Mv rfl<|Asg rfl<|Asg rfl<|aa<|am<|Rr<|?_
 exact cY rfl rfl rfl (fun w hw=>⟨rfl,ae hw⟩)
theorem N5(msg dst:L8)(hbad: ¬Xm.FBad msg dst 2)(a1:Option Addr)(cap1:Nat)(a2:Option Addr)(cap2:Nat)(w:World)(hl1:msg.length≤65600)(hc1:msg.length≤cap1)(hl2:dst.length≤1000)(hc2:dst.length≤cap2)(hw:Gt w)(hb1:BytesAt w a1 msg)(hb2:BytesAt w a2 dst):CLS 144 [.slice a1 msg.length cap1,.slice a2 dst.length cap2].toArray w (fun e w'=> ∃b cap b1,e=.returned (.tuple #[.func (.func 194) #[] #[pnt b1],I 0])∧Grow w w'∧w.heap.size≤b∧w'.rangeAt b 0 (U2c msg dst)∧w.heap.size≤b1∧w'.rangeAt b1 0 [.slice (spt b) 2 cap]):=by
 refine Hf func144 rfl hw<|fun hGF=>ac (E:=EE [193,2000193])<|Asg rfl<|Asg rfl<|aa<|ac (E:=EE [193,2000193])<|Mv rfl<|Mv rfl<|?_
 refine bG rfl rfl ent193 rfl rfl (fun w' hw'=>(Xm.pfc a1 cap1 msg a2 cap2 dst 2 w' om hc1 om hc2 (hGF.g _ _ _ hw') (hb1.grow (ae hw')) (hb2.grow (ae hw'))).mono fun e w'' h=> ?_)
 obtain ⟨v,rfl,hg,hq⟩:=h
 obtain ⟨b,cap,rfl,hbs,hbr⟩:=Aa hq hbad
 refine ⟨_,_,rfl,ao (oC hGF),JI hw' ak hg hbs (E7 hbr) hbr,fun _ h=>jC h, ?_⟩
 have hbs0:w.heap.size≤b:=Nat.le_trans (ae hw').size hbs
 clear hq hg hw' hbs hbr
 refine Mv rfl<|Ext rfl rfl<|Ext rfl rfl<|eI 6 (oC hGF) zeroValue246 rfl rfl<|fun b6=>cL 6 (oC hGF) rfl rfl rfl sizeOf246 rfl dc rfl<|Asg rfl<|aa<|ah<|ac (E:=EE [193,2000193])<|Mv rfl<|Bnb false rfl rfl (fun _=>a6 _ _ _) (rfl)<|aa<|au rfl<|ap<|ac (E:=EE [193,2000193])<|eK rfl rfl rfl rfl<|Asg rfl<|Asg rfl<|aa<|am<|Rr<|?_
 exact cY rfl rfl rfl (fun w hw=>⟨b,cap,b6,rfl,hbl hw,hbs0,FR hw,(hw.own 6 b6 _ _ rfl).2.elim id False.elim,(hw.own 6 b6 _ _ rfl).1.range⟩)
theorem AH(f:Nat→W2)(p:Nat→GP)(hm0: ∀k,k<2→PUR 196 [EV2 (f k)] (PtV (p k)))(b1 b cap:Nat)(w:World)(hw:Gt w)(hRs: ∀w',Grow w w'→RdE b1 b cap f w'):
 CLS 146 [.func (.func 194) #[] #[pnt b1]].toArray w (fun r w'=>r=.returned (PtV (gS p 2))∧Grow w w'):=by
 have hGF:BOk Gt (pl w):=gt_low.plain hw
 refine bV (G:=Gt) func146 rfl rfl (Hp (pl w) []) (bK (pl w) trivial ak) (ao hGF)<|Xp<|Al 2 hGF zv94<|fun b2=>aa<|Xp<|Al 3 hGF zv94<|fun b3=>aa<|ah<|Xp<|Mv rfl<|aa<|aj<|?_
 refine dS (fun _=>pl w) (fun _ _=>pl w) (fun _=>hGF) (fun _ _=>hGF) (fun _=>rfl) (fun _ _=>rfl) rfl rfl ent194 (jH b1 b cap f) (fun x hx=>by obtain ⟨k,hk,rfl⟩:=List.mem_map.1 hx;rfl) rfl (fun k=>[(2,b2,(GL (ch)).map U64,94),(3,b3,(GL (gS p k)).map U64,94)]) (fun _ _ _=>False) trv (fun k _ w' h=>hRs w' (h.below (fun _ h=>h))) ?_ ?_ (fun _ _ _ _ _ h=>h.elim)
 ·intro k v hx R hR
  obtain ⟨hk,rfl⟩:=OF f k v hx
  have hm:=hm0 k hk
  refine Xq<|cO 4 (hR (pl w) rfl hGF).1 zv92 rfl rfl<|fun b4=>aw 4 (hR (pl w) rfl hGF).1 rfl rfl rfl sizeOf92 sm sm (bj _) rfl<|aa<|?_
  refine ⟨rfl,_,rfl, ?_⟩
  refine aj<|Xe []<|La 3 rfl rfl bE<|La 4 rfl rfl aF<|Ca rfl (hm)<|Ca rfl (zg _ _)<|aw 3 (hR (pl w) rfl hGF).2.1 rfl rfl rfl sizeOf94 sm sm (bj _) rfl<|aa<|?_
  repeat (refine aY ?_)
  exact ⟨_,rfl,trv⟩
 ·intro D hD
  rw[tj]
  refine Xp<|La 3 rfl rfl bE<|Sa 2 hD rfl rfl rfl bE<|aa<|am<|Rr<|?_
  exact cQ (.inl rfl) ak (az 2 rfl rfl rfl isAgg94 sizeOf94 sm (fun w hw=>⟨rfl,ae hw⟩))
theorem Mr{B:Bs}{L:Hl}{Y:Nat→Prop}{w w':World}{b d:Nat}{cs ds:List Value}(h:Hq B L Y w)(hr:Rides B.J)(hg:Grow w w')(hb:w.heap.size≤b)(hb':b<w'.heap.size)(hc:w'.rangeAt b 0 cs)(hd:w.heap.size≤d)(hd':d<w'.heap.size)(he:w'.rangeAt d 0 ds):Hq (pj (pj B b cs) d ds) L Y w':=by
 have k:=JI h hr hg hb hb' hc
 refine ⟨k.os,k.tape,k.output,k.size,k.keep,k.own,k.inj,k.apart,k.high,k.lt,k.rid,fun e=> ?_,hd',he⟩
 rcases e with e|e
 ·have:=h.ownlt e;omega
 ·have:=h.lt _ e;omega
theorem OY{w w':World}{b1 b cap:Nat}{f:Nat→W2}(h1:w.rangeAt b1 0 [.slice (spt b) 2 cap])(h2:w.rangeAt b 0 ((RW 12 (RPr f) 2).map U64))(hg:Grow w w'):RdE b1 b cap f w':=⟨(lX h1 hg) 0 _ rfl,lX h2 hg⟩
theorem Ar(msg dst:L8)(hbad:Xm.FBad msg dst 2)(a1:Option Addr)(cap1:Nat)(a2:Option Addr)(cap2:Nat)(w:World)(hl1:msg.length≤65600)(hc1:msg.length≤cap1)(hl2:dst.length≤1000)(hc2:dst.length≤cap2)(hw:Gt w)(hb1:BytesAt w a1 msg)(hb2:BytesAt w a2 dst):CLS 94 [.slice a1 msg.length cap1,.slice a2 dst.length cap2].toArray w (fun e w'=>e=.returned (.tuple #[PtV ch,I 130])∧Grow w w'):=by
 refine Hf func94 rfl hw<|fun hGF=>ac (E:=EE [144,2000144])<|Al 4 hGF zv94<|fun b4=>Asg rfl<|aa<|ac (E:=EE [144,2000144])<|Mv rfl<|Mv rfl<|?_
 refine bG rfl rfl ent144 rfl rfl (fun w' hw'=>(IE msg dst hbad a1 cap1 a2 cap2 w' hl1 hc1 hl2 hc2 (hGF.g _ _ _ hw') (hb1.grow (ae hw')) (hb2.grow (ae hw'))).mono fun e w'' h=> ?_)
 obtain ⟨rfl,hg⟩:=h
 refine ⟨_,_,rfl,ao hGF,hw'.grow ak hg,fun _ h=>h, ?_⟩
 clear hg hw'
 refine Mv rfl<|Ext rfl rfl<|Ext rfl rfl<|Asg rfl<|Asg rfl<|aa<|ah<|ac (E:=EE [144,2000144])<|Mv rfl<|Bnb true rfl rfl (fun _=>a6 _ _ _) (rfl)<|aa<|aQ rfl<|ac (E:=EE [144,2000144])<|iI nV rfl rfl<|Mv rfl<|Sa 4 hGF rfl rfl rfl bE<|Asg rfl<|aa<|am<|Rr<|?_
 exact aW 4 rfl rfl rfl rfl isAgg94 sizeOf94 sm (fun w hw=>⟨rfl,ae hw⟩)
theorem El(msg dst:L8)(hbad: ¬Xm.FBad msg dst 2)(p:Nat→GP)(hm0: ∀k,k<2→PUR 196 [EV2 (U2n msg dst k)] (PtV (p k)))(a1:Option Addr)(cap1:Nat)(a2:Option Addr)(cap2:Nat)(w:World)(hl1:msg.length≤65600)(hc1:msg.length≤cap1)(hl2:dst.length≤1000)(hc2:dst.length≤cap2)(hw:Gt w)(hb1:BytesAt w a1 msg)(hb2:BytesAt w a2 dst):CLS 94 [.slice a1 msg.length cap1,.slice a2 dst.length cap2].toArray w (fun e w'=>e=.returned (.tuple #[PtV (gCl (gS p 2)),I 0])∧Grow w w'):=by
 refine Hf func94 rfl hw<|fun hGF=>ac (E:=EE [144,2000144])<|Al 4 hGF zv94<|fun b4=>Asg rfl<|aa<|ac (E:=EE [144,2000144])<|Mv rfl<|Mv rfl<|?_
 refine bG rfl rfl ent144 rfl rfl (fun w' hw'=>(N5 msg dst hbad a1 cap1 a2 cap2 w' hl1 hc1 hl2 hc2 (hGF.g _ _ _ hw') (hb1.grow (ae hw')) (hb2.grow (ae hw'))).mono fun e w'' h=> ?_)
 obtain ⟨b,cap,b1,rfl,hg,hbs,hbr,hds,hdr⟩:=h
 refine ⟨_,_,rfl,ao (oC (oC hGF)),Mr hw' ak hg hbs (E7 hbr) hbr hds (block_lt_of_cell (hdr 0 _ rfl)) hdr,fun _ h=>jC (jC h), ?_⟩
 clear hg hw' hbs hbr hds hdr
 refine Mv rfl<|Ext rfl rfl<|Ext rfl rfl<|Asg rfl<|Asg rfl<|aa<|ah<|ac (E:=EE [144,2000144])<|Mv rfl<|Bnb false rfl rfl (fun _=>a6 _ _ _) (rfl)<|aa<|au rfl<|ap<|ac (E:=EE [144,2000144])<|Mv rfl<|Cc rfl ent146 (fun w' hC hG=>AH (U2n msg dst) p hm0 b1 b cap w' hG (fun w'' hg=>OY (FR hC) (FR (jC hC)) hg))<|Ca rfl (Oj _)<|Sa 4 (oC (oC hGF)) rfl rfl rfl bE<|Asg rfl<|aa<|am<|Rr<|?_
 exact aW 4 rfl rfl rfl rfl isAgg94 sizeOf94 sm (fun w hw=>⟨rfl,hbl hw⟩)
theorem phs:PHs:=by
 refine ⟨fun msg dst hb=>⟨ch,rfl,fun a1 cap1 a2 cap2 w=>Ar msg dst hb a1 cap1 a2 cap2 w⟩,fun msg dst A B hb h=> ?_⟩
 obtain ⟨p0,e0,h0⟩:=Kf h.s0
 obtain ⟨p1,e1,h1⟩:=Kf h.s1
 refine ⟨gCl (gS (fun k=>if k=0 then p0 else p1) 2), ?_,fun a1 cap1 a2 cap2 w=>El msg dst hb _ (fun k hk=> ?_) a1 cap1 a2 cap2 w⟩
 ·rw[UC,gS_P (A:=A) (B:=B) e0 e1]
 ·match k,hk with
  |0,_=>exact h0
  |1,_=>exact h1
end
section
open Go.RowKit
theorem ft(P:Pt Zp):(EN1 P).length=48:=by
 cases P with
 |none=>rfl
 |some p=>exact (nZ _ _).trans (aA _)
theorem fR(P:Pt W2):(EN2 P).length=96:=by
 cases P with
 |none=>rfl
 |some p=>exact (nZ _ _).trans (by rw[List.length_append,aA,aA])
attribute [local simp] aV ba aT aO aD bd aK aJ aA PLl cv cw N1l cu cr cq a7 bc aP aZ a9 J1.bi J2.bi bJ fh ft fR
attribute [local simp] iq
theorem ent14:ai prog 14:=fun _ _=>kr
theorem ent20:ai prog 20:=fun _ _=>kr
theorem ent33:ai prog 33:=fun _ _=>kr
theorem ent34:ai prog 34:=fun _ _=>kr
theorem ent29:ai prog 29:=fun _ _=>kr
theorem ent37:ai prog 37:=fun _ _=>kr
theorem ent64:ai prog 64:=fun _ _=>kr
theorem ent72:ai prog 72:=fun _ _=>kr
theorem ent44:ai prog 44:=fun _ _=>kr
theorem ent70:ai prog 70:=fun _ _=>kr
theorem ent71:ai prog 71:=fun _ _=>kr
theorem ent126:ai prog 126:=fun _ _=>kr
theorem ent127:ai prog 127:=fun _ _=>kr
theorem ent183:ai prog 183:=fun _ _=>kr
theorem ent184:ai prog 184:=fun _ _=>kr
theorem zv30(w:World):(zeroValue 30).run prog w=.ok (.agg ((List.replicate 48 (0#8)).map U8).toArray) w:=(zeroValue30 w).trans rr
theorem zv33(w:World):(zeroValue 33).run prog w=.ok (.agg ((List.replicate 96 (0#8)).map U8).toArray) w:=(zeroValue33 w).trans rr
theorem VB(x:Zr):PUR 13 [RV x] (.agg ((EN1 (J1.re J1.qD x).P).map U8).toArray):=by
 intro w hw
 refine Hf func13 rfl hw<|fun hGF=>Xp<|Bx 1 hGF rfl<|fun b1=>Al 2 hGF zv30<|fun b2=>aa<|Xd []<|Ca rfl (J1.ER)<|La 1 rfl rfl mS<|Ca rfl (J1.td _ x)<|Ca rfl (Ns _)<|aw 2 hGF rfl rfl rfl sizeOf30 (by simp[*]) sm (bC _) rfl<|aa<|am<|Rr<|?_
 exact az 2 rfl rfl rfl isAgg30 sizeOf30 sm (fun w hw=>⟨rfl,ae hw⟩)
theorem U9:SUb.data.toList=SUs.map (fun x=>UInt8.ofBitVec x):=rfl
def HsC(msg:L8)(p:J2.GP)(c:Int):Prop:= ∀(a1:Option Addr) (cap1:Nat) (a2:Option Addr) (cap2:Nat) (w:World),msg.length≤65600→msg.length≤cap1→SUs.length≤1000→SUs.length≤cap2→Gt w→BytesAt w a1 msg→BytesAt w a2 SUs→CLS 94 [.slice a1 msg.length cap1,.slice a2 SUs.length cap2].toArray w (fun e w'=>e=.returned (.tuple #[J2.PtV p,I c])∧Grow w w')
structure Ms(msg:L8)(p:J2.GP)(c:Int):Prop where
 h:HsC msg p c
 r:E2w.times p.P ORD=none
theorem QA(msg:L8)(p:J2.GP)(c:Int)(hM:Ms msg p c)(a:Option Addr)(cap:Nat)(w:World)(hl:msg.length≤65600)(hc:msg.length≤cap)(hw:Gt w)(hb:BytesAt w a msg):CLS 44 [.slice a msg.length cap].toArray w (fun r w'=>r=.returned (.tuple #[J2.PtV p,I c])∧Grow w w'):=by
 refine Hf func44 rfl hw<|fun hGF=>ac (E:=EE [1000022])<|Al 2 hGF J2.zv94<|fun b2=>Asg rfl<|aa<|ac (E:=EE [1000022])<|Mv rfl<|Ca rfl (Mk)<|?_
 refine wa 6 (xs:=SUs) rfl hGF rfl underlying9 underlying22 underlying5 U9 rfl rfl (fun b6 c6 k6 e6 l6 t6=> ?_)
 refine Cc rfl ent94 (fun w' hC hG=>hM.h a cap _ _ w' hl hc dc l6 hG (hb.grow (ae hC)) (cy (aM (n:=6) rfl w' hC) t6))<|Ext rfl rfl<|Ext rfl rfl<|Sa 2 hGF rfl rfl rfl bE<|Asg rfl<|aa<|am<|Rr<|?_
 exact aW 2 rfl rfl rfl rfl isAgg94 sizeOf94 sm (fun w hw=>⟨rfl,ae hw⟩)
theorem EB(x:Zr)(msg:L8)(p:J2.GP)(hM:Ms msg p 0)(a:Option Addr)(cap:Nat)(w:World)(hl:msg.length≤65600)(hc:msg.length≤cap)(hw:Gt w)(hb:BytesAt w a msg):CLS 14 [RV x,.slice a msg.length cap].toArray w (fun r w'=>r=.returned (.tuple #[.agg ((EN2 (J2.re p x).P).map U8).toArray,I 0])∧Grow w w'):=by
 refine Hf func14 rfl hw<|fun hGF=>Xp<|Bx 2 hGF rfl<|fun b2=>Al 4 hGF zv33<|fun b4=>Asg rfl<|aa<|Xp<|Mv rfl<|Cc rfl ent44 (fun w' hC hG=>QA msg p _ hM a cap w' hl hc hG (hb.grow (ae hC)))<|Mv rfl<|Ext rfl rfl<|Ext rfl rfl<|Al 6 hGF J2.zv94<|fun b6=>Sa 6 hGF rfl rfl rfl bE<|Asg rfl<|aa<|ah<|Xp<|Mv rfl<|Bnb false rfl rfl (fun _=>a6 _ _ _) (rfl)<|aa<|au rfl<|ap<|Xp<|La 6 rfl rfl bE<|La 2 rfl rfl mS<|Ca rfl (J2.td _ x)<|Ca rfl (MY _)<|aw 4 hGF rfl rfl rfl sizeOf33 (by simp[*]) sm (bC _) rfl<|Asg rfl<|aa<|am<|Rr<|?_
 exact aW 4 rfl rfl rfl rfl isAgg33 sizeOf33 sm (fun w hw=>⟨rfl,ae hw⟩)
theorem Im(bs:L8)(hn:bs.length=48)(c:Int)(h0: ¬c=0)(P:Pt Zp)(hD:D1 bs c P):PUR 20 [.agg ((bs).map U8).toArray] (.tuple #[J1.PtV J1.ch,I c]):=by
 intro w hw
 refine Hf func20 rfl hw<|fun hGF=>Xp<|Bx 1 hGF rfl<|fun b1=>Al 2 hGF J1.zv54<|fun b2=>Asg rfl<|aa<|Xp<|ce (l:=0) (h':=48) rfl underlying30 sizeOf5 rfl rfl dc dc rfl rfl<|Cc rfl ent55 (fun w' hC hG=>vw _ 48 48 bs hn _ P hD dc w' hG (BytesAt.range (aM (n:=1) rfl w' hC)))<|Mv rfl<|Ext rfl rfl<|Ext rfl rfl<|Al 4 hGF J1.zv54<|fun b4=>Sa 4 hGF rfl rfl rfl bM<|Asg rfl<|aa<|ah<|aj<|Xp<|Mv rfl<|Bnb true rfl rfl (fun _=>a6 _ _ _) (bne_iff_ne.2 h0)<|Asg rfl<|aa<|aQ rfl<|Xp<|Ca rfl (J1.jR)<|Mv rfl<|Sa 2 hGF rfl rfl rfl bM<|Asg rfl<|aa<|am<|Rr<|?_
 exact aW 2 rfl rfl rfl rfl isAgg54 sizeOf54 sm (fun w hw=>⟨rfl,ae hw⟩)
theorem I3(bs:L8)(hn:bs.length=48)(P:Pt Zp)(h0:P=none)(hD:D1 bs 0 P):PUR 20 [.agg ((bs).map U8).toArray] (.tuple #[J1.PtV J1.ch,I 160]):=by
 intro w hw
 refine Hf func20 rfl hw<|fun hGF=>Xp<|Bx 1 hGF rfl<|fun b1=>Al 2 hGF J1.zv54<|fun b2=>Asg rfl<|aa<|Xp<|ce (l:=0) (h':=48) rfl underlying30 sizeOf5 rfl rfl dc dc rfl rfl<|Cc rfl ent55 (fun w' hC hG=>vw _ 48 48 bs hn _ P hD dc w' hG (BytesAt.range (aM (n:=1) rfl w' hC)))<|Mv rfl<|Ext rfl rfl<|Ext rfl rfl<|Al 4 hGF J1.zv54<|fun b4=>Sa 4 hGF rfl rfl rfl bM<|Asg rfl<|aa<|ah<|aj<|Xp<|Mv rfl<|Bnb false rfl rfl (fun _=>a6 _ _ _) (rfl)<|Asg rfl<|aa<|au rfl<|Xp<|La 4 rfl rfl bM<|Cbl true rfl ent26 (J1.rX _) (decide_eq_true h0)<|Asg rfl<|aa<|aQ rfl<|Xp<|Ca rfl (J1.jR)<|Sa 2 hGF rfl rfl rfl bM<|Asg rfl<|aa<|am<|Rr<|?_
 exact aW 2 rfl rfl rfl rfl isAgg54 sizeOf54 sm (fun w hw=>⟨rfl,ae hw⟩)
theorem Nr(bs:L8)(hn:bs.length=48)(P:Pt Zp)(h0: ¬P=none)(hD:D1 bs 0 P):PUR 20 [.agg ((bs).map U8).toArray] (.tuple #[J1.PtV (cA1 P (qL hD)),I 0]):=by
 intro w hw
 refine Hf func20 rfl hw<|fun hGF=>Xp<|Bx 1 hGF rfl<|fun b1=>Al 2 hGF J1.zv54<|fun b2=>Asg rfl<|aa<|Xp<|ce (l:=0) (h':=48) rfl underlying30 sizeOf5 rfl rfl dc dc rfl rfl<|Cc rfl ent55 (fun w' hC hG=>vw _ 48 48 bs hn _ P hD dc w' hG (BytesAt.range (aM (n:=1) rfl w' hC)))<|Mv rfl<|Ext rfl rfl<|Ext rfl rfl<|Al 4 hGF J1.zv54<|fun b4=>Sa 4 hGF rfl rfl rfl bM<|Asg rfl<|aa<|ah<|aj<|Xp<|Mv rfl<|Bnb false rfl rfl (fun _=>a6 _ _ _) (rfl)<|Asg rfl<|aa<|au rfl<|Xp<|La 4 rfl rfl bM<|Cbl false rfl ent26 (J1.rX _) (decide_eq_false h0)<|Asg rfl<|aa<|au rfl<|ap<|Xp<|La 4 rfl rfl bM<|Sa 2 hGF rfl rfl rfl bM<|Asg rfl<|aa<|am<|Rr<|?_
 exact aW 2 rfl rfl rfl rfl isAgg54 sizeOf54 sm (fun w hw=>⟨rfl,ae hw⟩)
theorem P3(bs:L8)(hn:bs.length=96)(c:Int)(P:Pt W2)(hD:D2 bs c P):PUR 72 [.agg ((bs).map U8).toArray] (.tuple #[J2.PtV (cA2 P (jo hD)),I c]):=by
 intro w hw
 refine Hf func72 rfl hw<|fun hGF=>Xp<|Bx 1 hGF rfl<|fun b1=>Al 2 hGF J2.zv94<|fun b2=>Asg rfl<|aa<|Xp<|ce (l:=0) (h':=96) rfl underlying33 sizeOf5 rfl rfl dc dc rfl rfl<|Cc rfl ent128 (fun w' hC hG=>P0 _ 96 96 bs hn _ P hD dc w' hG (BytesAt.range (aM (n:=1) rfl w' hC)))<|Ext rfl rfl<|Ext rfl rfl<|Sa 2 hGF rfl rfl rfl bE<|Asg rfl<|aa<|am<|Rr<|?_
 exact aW 2 rfl rfl rfl rfl isAgg94 sizeOf94 sm (fun w hw=>⟨rfl,ae hw⟩)
end
section
open Go.RowKit
attribute [local simp] aV ba aT aO aD bd aK aJ aA PLl cv cw N1l cu cr cq a7 bc aP aZ a9 J1.bi J2.bi bJ fh ft fR
attribute [local simp] iq
theorem GR{w w':World}{b o:Nat}{c:List Value}(h:w.rangeAt b o c)(hg:Grow w w'):w'.rangeAt b o c:=fun j v hv=>(hg.cell (block_lt_of_cell (h j v hv))).trans (h j v hv)
theorem nR{n m x y:Nat}{c d:List Value}{s t:TypeId}(hx:x≠y): ∀n' m' b c1 t1 c2 t2,lkB [(n,x,c,s),(m,y,d,t)] n'=some (b,c1,t1)→lkB [(n,x,c,s),(m,y,d,t)] m'=some (b,c2,t2)→n'=m':=by
 intro n' m' b c1 t1 c2 t2 h1 h2
 rcases aB h1 with ⟨e1,k1⟩|⟨_,h1⟩
 ·rcases aB h2 with ⟨e2,_⟩|⟨_,h2⟩
  ·exact e1.trans e2.symm
  ·rcases aB h2 with ⟨_,k2⟩|⟨_,h2⟩
   ·cases k1;cases k2;exact absurd rfl hx
   ·cases h2
 ·rcases aB h1 with ⟨e1,k1⟩|⟨_,h1⟩
  ·rcases aB h2 with ⟨_,k2⟩|⟨_,h2⟩
   ·cases k1;cases k2;exact absurd rfl hx
   ·rcases aB h2 with ⟨e2,_⟩|⟨_,h2⟩
    ·exact e1.trans e2.symm
    ·cases h2
  ·cases h1
def KsAt(w:World)(b s n:Nat)(K:Nat→L8):Prop:= ∀i,i<n→w.rangeAt b (0+s*i) ((K i).map U8)
theorem KsAt.up{w w':World}{b s n:Nat}{K:Nat→L8}(h:KsAt w b s n K)(hg:Grow w w'):KsAt w' b s n K:=fun i hi=>GR (h i hi) hg
namespace J1
def gSm(p:Nat→GP):Nat→GP
 |0=>ch
 |i+1=>Au (gSm p i) (p i)
def PEs(p:Nat→GP)(e:Nat→Int)(n:Nat):List (List Value):=(List.range n).map fun (k:Nat)=>[PtV (p k),I (e k)]
theorem iY(p:Nat→GP)(e:Nat→Int)(n:Nat):(PEs p e n).length=n:=by rw[PEs,List.length_map,List.length_range]
theorem mh(p:Nat→GP)(e:Nat→Int){n k:Nat}(h:k<n):(PEs p e n)[k]? =some [PtV (p k),I (e k)]:=by
 rw[PEs,List.getElem?_map,List.getElem?_range h];rfl
theorem wY(p:Nat→GP)(e:Nat→Int){n k:Nat}{v:List Value}(h:(PEs p e n)[k]? =some v):k<n∧v=[PtV (p k),I (e k)]:=by
 have hk:k<n:=by
  rcases Nat.lt_or_ge k n with hk|hk
  ·exact hk
  ·rw[List.getElem?_eq_none (by rw[iY];exact hk)]at h;cases h
 exact ⟨hk,(Option.some.inj ((mh p e hk).symm.trans h)).symm⟩
structure RdK(b1 b2 b cap n:Nat)(K:Nat→L8)(w:World):Prop where
 l:w.cell? ⟨b1,0,none⟩=some (.slice (spt b) n cap)
 f:w.cell? ⟨b2,0,none⟩=some (.func (.func 20) #[] #[])
 k:KsAt w b 48 n K
def Vd(K:Nat→L8)(p:Nat→GP)(e:Nat→Int)(n:Nat):Prop:= ∀i,i<n→(K i).length=48∧PUR 20 [.agg ((K i).map U8).toArray] (.tuple #[PtV (p i),I (e i)])
theorem vn(a:Option Addr)(l c f:Nat)(w:World)(hw:Gt w):CLS 126 [.slice a l c,.func (.func f) #[] #[]].toArray w (fun e w'=> ∃b1 b2,e=.returned (.func (.func 183) #[] #[pnt b1,pnt b2])∧Grow w w'∧w.heap.size≤b1∧w.heap.size≤b2∧b1≠b2∧OwnB w' b1 [.slice a l c] 69∧OwnB w' b2 [.func (.func f) #[] #[]] 56):=by
 refine Hf func126 rfl hw<|fun hGF=>Xp<|fJ 2 hGF rfl rfl rfl<|fun b2=>fJ 3 hGF rfl rfl rfl<|fun b3=>Asg rfl<|aa<|Xp<|eK rfl rfl rfl rfl<|Asg rfl<|aa<|am<|Rr<|?_
 exact aH rfl rfl (fun w hw=>⟨b2,b3,rfl,ae hw,(hw.own 2 b2 _ _ rfl).2.elim id False.elim,(hw.own 3 b3 _ _ rfl).2.elim id False.elim,fun e=>(by subst e;exact absurd (hw.inj 2 3 _ _ _ _ _ rfl rfl) dc),(hw.own 2 b2 _ _ rfl).1,(hw.own 3 b3 _ _ rfl).1⟩)
theorem jH(b1 b2 b cap n:Nat)(hn:n≤1000)(K:Nat→L8)(p:Nat→GP)(e:Nat→Int)(hP:Vd K p e n):el prog Gt 183 [pnt b1,pnt b2] (PEs p e n) (RdK b1 b2 b cap n K):=by
 intro l J Jx hJ hJx hRd hGx hY w hj
 have okJ: ∀k,BOk Gt (Bi w (fun Y=>J Y k)):=fun k=>⟨fun _ _ _ h=>(hRd _ _ _ h.rid).1,hJ k⟩
 have okX: ∀k,BOk Gt (Bi w (fun Y=>Jx Y k)):=fun k=>⟨fun _ _ _ h=>hGx _ _ _ h.rid,hJx k⟩
 have c1: ∀k L w',Hp (Bi w (fun Y=>J Y k)) L w'→RdK b1 b2 b cap n K w':=fun k L w' h=>(hRd _ _ _ h.rid).2
 refine ca (G:=Gt) func183 rfl rfl (Hp (Bi w (fun Y=>J Y 0)) []) (bK (Bi w _) hj (hJ 0)) (ao (okJ 0))<|Xp<|bu rfl isAgg69 (fun w h=>(c1 _ _ w h).l) rfl rfl<|bk rfl (fun _=>aE underlying69 _ _ _ _) rfl rfl<|Mv rfl<|aa<|aj<|fo (ι:={i:Nat // i≤n}) (fun y=>[(0,.func (.yield l) #[] #[]),(1,pnt b1),(2,pnt b2),(6,.slice (spt b) n cap),(7,I (n:Int)),(8,I (y.1:Int))]) (fun y=>Bi w (fun Y=>J Y y.1)) (fun y=>[]) (fun y=>n-y.1) ⟨0,Nat.zero_le _⟩ (fun _=>okJ _) rfl trv trivial<|?_
 rintro ⟨i,hi⟩
 dsimp only
 refine Xp<|Bnr rfl rfl (fun _=>aC _ _ _)<|aa<|ah<|?_
 refine bX rfl (fun hc=> ?_) (fun hc=> ?_)
 ·have hi2:i<n:=by simp at hc;omega
  refine ap<|ah<|aj<|Xp<|gL (s:=48) i rfl rfl underlying69 sizeOf30 om om rfl rfl<|?_
  have hKi:=(hP i hi2).1
  refine dk (cs:=(K i).map U8) rfl isAgg30 sizeOf30 (by rw[List.length_map];exact hKi) (fun w h=>(c1 _ _ w h).k i hi2) rfl rfl<|Al 5 (okJ _) zv30<|fun b5=>aw 5 (okJ _) rfl rfl rfl sizeOf30 (by rw[List.length_map];exact hKi) sm (bC _) rfl<|aa<|Xp<|Mv rfl<|bu rfl isAgg56 (fun w h=>(c1 _ _ w h).f) rfl rfl<|cf 5 rfl rfl isAgg30 sizeOf30 (by rw[List.length_map];exact hKi) rfl rfl<|um rfl rfl ent20 (hP i hi2).2 (okJ _) rfl rfl rfl<|Ext rfl rfl<|Ext rfl rfl<|?_
  refine cU (hY.b (k:=i) (mh p e hi2) w) (okJ _) (okX _) rfl rfl rfl rfl rfl ?_ ?_
  ·refine a5 rfl (fun _=>aL _) rfl rfl<|aa<|au rfl<|ap<|Xq<|Bnr rfl rfl (fun _=>ay _ _ _ oi)<|Mv rfl<|aa<|?_
   repeat (refine aY ?_)
   exact aU<|⟨rfl,⟨i+1,om⟩,_,by show n-(i+1)<n-i;omega,rfl,trv,trivial⟩
  ·refine a5 rfl (fun _=>aL _) rfl rfl<|aa<|aQ rfl<|am<|Rr<|?_
   repeat (first|refine cX ?_|refine bY ?_|refine cS rfl ?_|refine bf ?_|refine be ?_)
   exact cP rfl (fun w hw=>⟨⟨_,rfl⟩,.inr ⟨_,bz (hJx _) hw.rid⟩⟩)
 ·obtain rfl:i=n:=by simp at hc;omega
  refine a8 ?_
  repeat (first|refine cX ?_|refine bY ?_|refine cS rfl ?_|refine bf ?_|refine be ?_)
  refine cn rfl (fun w hw=>⟨⟨_,rfl⟩,.inl ?_⟩)
  have:=bz (hJ _) hw.rid
  rw[iY]
  exact this
theorem mQ:kK prog 54 "Add" 142:=fun _ _=>kr
theorem rQ(n:Nat)(h0:0<n)(hn:n≤512)(K:Nat→L8)(p:Nat→GP)(e:Nat→Int)(hP:Vd K p e n)(j:Nat)(hjn:j≤n)(he0: ∀i,i<j→e i=0)(heb:j<n→¬e j=0)(b cap:Nat)(w:World)(hw:Gt w)(hK:KsAt w b 48 n K):CLS 70 [.slice (spt b) n cap,.func (.func 20) #[] #[]].toArray w (fun r w'=>r=.returned (.tuple #[PtV (if j=n then gSm p n else ch),I (if j=n then 0 else e j)])∧Grow w w'):=by
 have hGF:BOk Gt (pl w):=gt_low.plain hw
 refine bV (G:=Gt) func70 rfl rfl (Hp (pl w) []) (bK (pl w) trivial ak) (ao hGF)<|ac (E:=EE [126])<|Al 4 hGF J1.zv54<|fun b4=>Asg rfl<|aa<|fx<|ac (E:=EE [126])<|Al 6 hGF J1.zv54<|fun b6=>Al 7 hGF J1.zv54<|fun b7=>aa<|ah<|ac (E:=EE [126])<|Mv rfl<|bk rfl (fun _=>aE underlying69 _ _ _ _) rfl rfl<|Bnb false rfl rfl (fun _=>bT _ _ _) (beq_eq_false_iff_ne.2 om)<|Mv rfl<|Mv rfl<|bk rfl (fun _=>aE underlying69 _ _ _ _) rfl rfl<|Bnb false rfl rfl (fun _=>bP _ _ _) (decide_eq_false om)<|Pk rfl rfl rfl<|aa<|au rfl<|ap<|ac (E:=EE [126])<|eI 8 hGF zeroValue34 rfl rfl<|fun b8=>cL 8 hGF rfl rfl rfl sizeOf34 rfl dc rfl<|aa<|ah<|jc<|ah<|ac (E:=EE [126])<|Mv rfl<|Mv rfl<|?_
 refine cT rfl rfl ent126 rfl rfl (fun w' hw'=>(vn _ _ _ _ w' (hGF.g _ _ _ hw')).mono fun e' w'' h=> ?_)
 obtain ⟨b1,b2,rfl,hg,h1,h2,h3,ho1,ho2⟩:=h
 refine ⟨_,_,rfl,ao hGF,hw'.news ak hg [(33,b1,[.slice (spt b) n cap],69),(34,b2,[.func (.func 20) #[] #[]],56)] ?_ (nR h3), ?_⟩
 ·intro n' b' c' t' hl
  rcases aB hl with ⟨_,e⟩|⟨_,hl⟩
  ·cases e;exact ⟨h1,ho1⟩
  rcases aB hl with ⟨_,e⟩|⟨_,hl⟩
  ·cases e;exact ⟨h2,ho2⟩
  ·cases hl
 clear hw' hg h1 h2 h3 ho1 ho2
 refine aa<|aj<|?_
 refine oU (fun k=>k≤j) (fun _=>pl w) (fun _ _=>pl w) (fun _=>hGF) (fun _ _=>hGF) (fun _=>rfl) (fun _ _=>rfl) rfl rfl ent183 (jH b1 b2 b cap n om K p e hP) (fun v hv=>by obtain ⟨k,hk,rfl⟩:=List.mem_map.1 hv;rfl) rfl (fun k=>[(4,b4,(GL (ch)).map U64,54),(6,b6,(GL (gSm p k)).map U64,54),(7,b7,(GL (ch)).map U64,54),(8,b8,[I (0)],34),(33,b1,[.slice (spt b) n cap],69),(34,b2,[.func (.func 20) #[] #[]],56)]) (fun cd _ L'=>cd=.exit 0∧j<n∧jb L' ([(4,b4,(GL (ch)).map U64,54),(6,b6,(GL (ch)).map U64,54),(7,b7,(GL (ch)).map U64,54),(8,b8,[I (e j)],34),(33,b1,[.slice (spt b) n cap],69),(34,b2,[.func (.func 20) #[] #[]],56)])) (Nat.zero_le _) trv (fun k _ w' h=>⟨cp (n:=33) rfl rfl w' h,cp (n:=34) rfl rfl w' h,hK.up (h.below (fun _ h=>h))⟩) ?_ ?_ ?_ ?_
 ·intro k v hx hQ R hR
  obtain ⟨hk,rfl⟩:=wY p e hx
  rcases Nat.lt_or_ge k j with hkj|hkj
  ·have he:=he0 k hkj
   refine ac (E:=EE [126])<|cO 9 (hR (pl w) rfl hGF).1 J1.zv54 rfl rfl<|fun b9=>aw 9 (hR (pl w) rfl hGF).1 rfl rfl rfl sizeOf54 sm sm (bj _) rfl<|aa<|bx (E:=EE [126])<|Asg rfl<|aa<|?_
   refine ⟨rfl,_,rfl, ?_⟩
   refine aj<|ac (E:=EE [126])<|Mv rfl<|aa<|aj<|ac (E:=EE [126])<|Bnb true rfl rfl (fun _=>bT _ _ _) ((by rw[he];rfl))<|Asg rfl<|aa<|aQ rfl<|bx (E:=EE [126])<|La 6 rfl rfl bM<|cD rfl underlying54 rfl rfl<|La 9 rfl rfl bM<|iU rfl rfl mQ rfl ent142 (zg _ _) rfl rfl<|aw 6 (hR (pl w) rfl hGF).2.1 rfl rfl rfl sizeOf54 sm sm (bj _) rfl<|aa<|?_
   repeat (refine aY ?_)
   exact ⟨_,rfl,HS (Q:=fun k=>k≤j) om ⟨rfl,rfl,rfl,rfl,rfl,rfl,trivial⟩⟩
  ·obtain rfl:k=j:=Nat.le_antisymm hQ hkj
   have he:=heb hk
   refine ac (E:=EE [126])<|cO 9 (hR (pl w) rfl hGF).1 J1.zv54 rfl rfl<|fun b9=>aw 9 (hR (pl w) rfl hGF).1 rfl rfl rfl sizeOf54 sm sm (bj _) rfl<|aa<|bx (E:=EE [126])<|Asg rfl<|aa<|?_
   refine ⟨rfl,_,rfl, ?_⟩
   refine aj<|ac (E:=EE [126])<|Mv rfl<|aa<|aj<|ac (E:=EE [126])<|Bnb false rfl rfl (fun _=>bT _ _ _) (beq_eq_false_iff_ne.2 he)<|Asg rfl<|aa<|au rfl<|ac (E:=EE [126])<|La 7 rfl rfl bM<|Mv rfl<|aw 6 (hR (pl w) rfl hGF).2.1 rfl rfl rfl sizeOf54 sm sm (bj _) rfl<|cL 8 (hR (pl w) rfl hGF).2.1 rfl rfl rfl sizeOf34 rfl dc rfl<|aa<|a8<|?_
   repeat (first|refine bY ?_|refine cS rfl ?_)
   exact ⟨_,rfl,rfl,hk,trv⟩
 ·intro hQ D hD
  rw[iY]at*
  obtain rfl:j=n:=Nat.le_antisymm hjn hQ
  refine jJ (E:=EE [126]) (fun X=>X=Hp (B2 (pl w) D) [(8,b8,[I (0)],34)]) (mkB [4]) (rkB [35]) [0,1,2,3] dz rfl kr kr kr<|fU rfl rfl<|La 6 rfl rfl bM<|aa<|lO (X:=Hp (B2 (pl w) D) [(8,b8,[I (0)],34)]) rfl (da hD.r trv) (fun _=>rfl)<|ck 8 rfl rfl rfl isAgg34 rfl rfl<|aa<|ki rfl<|Sa 4 hD rfl rfl rfl bM<|aa<|?_
  refine ⟨fun _ X hX _=>by subst hX;exact da hD.r trv, ?_⟩
  refine fU rfl rfl<|Asg rfl<|aa<|ib<|am<|?_
  repeat (first|refine bf ?_|refine be ?_|refine dr ?_)
  exact cQ (.inl rfl) ak (aW 4 rfl rfl rfl rfl isAgg54 sizeOf54 sm (fun w hw=>⟨by rw[if_pos rfl,if_pos rfl],ae hw⟩))
 ·intro D hb
  repeat (first|refine aY ?_|refine aU ?_|refine yY ?_)
  exact lC hb
 ·rintro D cd k L' hD ⟨rfl,hlt,hsub⟩
  refine Lh (da hD.r hsub) (ao hD)<|jJ (E:=EE [126]) (fun X=>X=Hp (B2 (pl w) D) [(8,b8,[I (e j)],34)]) (mkB [4]) (rkB [35]) [0,1,2,3] dz rfl kr kr kr<|fU rfl rfl<|La 6 rfl rfl bM<|aa<|lO (X:=Hp (B2 (pl w) D) [(8,b8,[I (e j)],34)]) rfl (da hD.r trv) (fun _=>rfl)<|ck 8 rfl rfl rfl isAgg34 rfl rfl<|aa<|ki rfl<|Sa 4 hD rfl rfl rfl bM<|aa<|?_
  refine ⟨fun _ X hX _=>by subst hX;exact da hD.r trv, ?_⟩
  refine fU rfl rfl<|Asg rfl<|aa<|ib<|am<|?_
  repeat (first|refine bf ?_|refine be ?_|refine dr ?_)
  exact cQ (.inl rfl) ak (aW 4 rfl rfl rfl rfl isAgg54 sizeOf54 sm (fun w hw=>⟨by rw[if_neg om,if_neg om],ae hw⟩))
theorem tY(n:Nat)(hn:n=0)(v:Value)(a:Option Addr)(cap:Nat)(w:World)(hw:Gt w):CLS 70 [.slice a n cap,v].toArray w (fun r w'=>r=.returned (.tuple #[PtV ch,I 161])∧Grow w w'):=by
 refine Hf func70 rfl hw<|fun hGF=>ac (E:=EE [126])<|Al 4 hGF J1.zv54<|fun b4=>Asg rfl<|aa<|fx<|ac (E:=EE [126])<|Al 6 hGF J1.zv54<|fun b6=>Al 7 hGF J1.zv54<|fun b7=>aa<|ah<|ac (E:=EE [126])<|Mv rfl<|bk rfl (fun _=>aE underlying69 _ _ _ _) rfl rfl<|Bnb true rfl rfl (fun _=>bT _ _ _) (beq_iff_eq.2 om)<|Mv rfl<|Sk<|Sk<|Sk<|Pk rfl rfl rfl<|aa<|aQ rfl<|ac (E:=EE [126])<|La 7 rfl rfl bM<|Sa 4 hGF rfl rfl rfl bM<|Asg rfl<|aa<|am<|?_
 repeat (first|refine bf ?_|refine be ?_|refine dr ?_)
 exact aW 4 rfl rfl rfl rfl isAgg54 sizeOf54 sm (fun w hw=>⟨rfl,ae hw⟩)
theorem lw(n:Nat)(hn:512<n)(v:Value)(a:Option Addr)(cap:Nat)(w:World)(hw:Gt w):CLS 70 [.slice a n cap,v].toArray w (fun r w'=>r=.returned (.tuple #[PtV ch,I 161])∧Grow w w'):=by
 refine Hf func70 rfl hw<|fun hGF=>ac (E:=EE [126])<|Al 4 hGF J1.zv54<|fun b4=>Asg rfl<|aa<|fx<|ac (E:=EE [126])<|Al 6 hGF J1.zv54<|fun b6=>Al 7 hGF J1.zv54<|fun b7=>aa<|ah<|ac (E:=EE [126])<|Mv rfl<|bk rfl (fun _=>aE underlying69 _ _ _ _) rfl rfl<|Bnb false rfl rfl (fun _=>bT _ _ _) (beq_eq_false_iff_ne.2 om)<|Mv rfl<|Mv rfl<|bk rfl (fun _=>aE underlying69 _ _ _ _) rfl rfl<|Bnb true rfl rfl (fun _=>bP _ _ _) (decide_eq_true om)<|Pk rfl rfl rfl<|aa<|aQ rfl<|ac (E:=EE [126])<|La 7 rfl rfl bM<|Sa 4 hGF rfl rfl rfl bM<|Asg rfl<|aa<|am<|?_
 repeat (first|refine bf ?_|refine be ?_|refine dr ?_)
 exact aW 4 rfl rfl rfl rfl isAgg54 sizeOf54 sm (fun w hw=>⟨rfl,ae hw⟩)
end J1
namespace J2
def gSm(p:Nat→GP):Nat→GP
 |0=>ch
 |i+1=>Au (gSm p i) (p i)
def PEs(p:Nat→GP)(e:Nat→Int)(n:Nat):List (List Value):=(List.range n).map fun (k:Nat)=>[PtV (p k),I (e k)]
theorem iY(p:Nat→GP)(e:Nat→Int)(n:Nat):(PEs p e n).length=n:=by rw[PEs,List.length_map,List.length_range]
theorem mh(p:Nat→GP)(e:Nat→Int){n k:Nat}(h:k<n):(PEs p e n)[k]? =some [PtV (p k),I (e k)]:=by
 rw[PEs,List.getElem?_map,List.getElem?_range h];rfl
theorem wY(p:Nat→GP)(e:Nat→Int){n k:Nat}{v:List Value}(h:(PEs p e n)[k]? =some v):k<n∧v=[PtV (p k),I (e k)]:=by
 have hk:k<n:=by
  rcases Nat.lt_or_ge k n with hk|hk
  ·exact hk
  ·rw[List.getElem?_eq_none (by rw[iY];exact hk)]at h;cases h
 exact ⟨hk,(Option.some.inj ((mh p e hk).symm.trans h)).symm⟩
structure RdK(b1 b2 b cap n:Nat)(K:Nat→L8)(w:World):Prop where
 l:w.cell? ⟨b1,0,none⟩=some (.slice (spt b) n cap)
 f:w.cell? ⟨b2,0,none⟩=some (.func (.func 72) #[] #[])
 k:KsAt w b 96 n K
def Vd(K:Nat→L8)(p:Nat→GP)(e:Nat→Int)(n:Nat):Prop:= ∀i,i<n→(K i).length=96∧PUR 72 [.agg ((K i).map U8).toArray] (.tuple #[PtV (p i),I (e i)])
theorem vn(a:Option Addr)(l c f:Nat)(w:World)(hw:Gt w):CLS 127 [.slice a l c,.func (.func f) #[] #[]].toArray w (fun e w'=> ∃b1 b2,e=.returned (.func (.func 184) #[] #[pnt b1,pnt b2])∧Grow w w'∧w.heap.size≤b1∧w.heap.size≤b2∧b1≠b2∧OwnB w' b1 [.slice a l c] 72∧OwnB w' b2 [.func (.func f) #[] #[]] 134):=by
 refine Hf func127 rfl hw<|fun hGF=>Xp<|fJ 2 hGF rfl rfl rfl<|fun b2=>fJ 3 hGF rfl rfl rfl<|fun b3=>Asg rfl<|aa<|Xp<|eK rfl rfl rfl rfl<|Asg rfl<|aa<|am<|Rr<|?_
 exact aH rfl rfl (fun w hw=>⟨b2,b3,rfl,ae hw,(hw.own 2 b2 _ _ rfl).2.elim id False.elim,(hw.own 3 b3 _ _ rfl).2.elim id False.elim,fun e=>(by subst e;exact absurd (hw.inj 2 3 _ _ _ _ _ rfl rfl) dc),(hw.own 2 b2 _ _ rfl).1,(hw.own 3 b3 _ _ rfl).1⟩)
theorem jH(b1 b2 b cap n:Nat)(hn:n≤1000)(K:Nat→L8)(p:Nat→GP)(e:Nat→Int)(hP:Vd K p e n):el prog Gt 184 [pnt b1,pnt b2] (PEs p e n) (RdK b1 b2 b cap n K):=by
 intro l J Jx hJ hJx hRd hGx hY w hj
 have okJ: ∀k,BOk Gt (Bi w (fun Y=>J Y k)):=fun k=>⟨fun _ _ _ h=>(hRd _ _ _ h.rid).1,hJ k⟩
 have okX: ∀k,BOk Gt (Bi w (fun Y=>Jx Y k)):=fun k=>⟨fun _ _ _ h=>hGx _ _ _ h.rid,hJx k⟩
 have c1: ∀k L w',Hp (Bi w (fun Y=>J Y k)) L w'→RdK b1 b2 b cap n K w':=fun k L w' h=>(hRd _ _ _ h.rid).2
 refine ca (G:=Gt) func184 rfl rfl (Hp (Bi w (fun Y=>J Y 0)) []) (bK (Bi w _) hj (hJ 0)) (ao (okJ 0))<|Xp<|bu rfl isAgg72 (fun w h=>(c1 _ _ w h).l) rfl rfl<|bk rfl (fun _=>aE underlying72 _ _ _ _) rfl rfl<|Mv rfl<|aa<|aj<|fo (ι:={i:Nat // i≤n}) (fun y=>[(0,.func (.yield l) #[] #[]),(1,pnt b1),(2,pnt b2),(6,.slice (spt b) n cap),(7,I (n:Int)),(8,I (y.1:Int))]) (fun y=>Bi w (fun Y=>J Y y.1)) (fun y=>[]) (fun y=>n-y.1) ⟨0,Nat.zero_le _⟩ (fun _=>okJ _) rfl trv trivial<|?_
 rintro ⟨i,hi⟩
 dsimp only
 refine Xp<|Bnr rfl rfl (fun _=>aC _ _ _)<|aa<|ah<|?_
 refine bX rfl (fun hc=> ?_) (fun hc=> ?_)
 ·have hi2:i<n:=by simp at hc;omega
  refine ap<|ah<|aj<|Xp<|gL (s:=96) i rfl rfl underlying72 sizeOf33 om om rfl rfl<|?_
  have hKi:=(hP i hi2).1
  refine dk (cs:=(K i).map U8) rfl isAgg33 sizeOf33 (by rw[List.length_map];exact hKi) (fun w h=>(c1 _ _ w h).k i hi2) rfl rfl<|Al 5 (okJ _) zv33<|fun b5=>aw 5 (okJ _) rfl rfl rfl sizeOf33 (by rw[List.length_map];exact hKi) sm (bC _) rfl<|aa<|Xp<|Mv rfl<|bu rfl isAgg134 (fun w h=>(c1 _ _ w h).f) rfl rfl<|cf 5 rfl rfl isAgg33 sizeOf33 (by rw[List.length_map];exact hKi) rfl rfl<|um rfl rfl ent72 (hP i hi2).2 (okJ _) rfl rfl rfl<|Ext rfl rfl<|Ext rfl rfl<|?_
  refine cU (hY.b (k:=i) (mh p e hi2) w) (okJ _) (okX _) rfl rfl rfl rfl rfl ?_ ?_
  ·refine a5 rfl (fun _=>aL _) rfl rfl<|aa<|au rfl<|ap<|Xq<|Bnr rfl rfl (fun _=>ay _ _ _ oi)<|Mv rfl<|aa<|?_
   repeat (refine aY ?_)
   exact aU<|⟨rfl,⟨i+1,om⟩,_,by show n-(i+1)<n-i;omega,rfl,trv,trivial⟩
  ·refine a5 rfl (fun _=>aL _) rfl rfl<|aa<|aQ rfl<|am<|Rr<|?_
   repeat (first|refine cX ?_|refine bY ?_|refine cS rfl ?_|refine bf ?_|refine be ?_)
   exact cP rfl (fun w hw=>⟨⟨_,rfl⟩,.inr ⟨_,bz (hJx _) hw.rid⟩⟩)
 ·obtain rfl:i=n:=by simp at hc;omega
  refine a8 ?_
  repeat (first|refine cX ?_|refine bY ?_|refine cS rfl ?_|refine bf ?_|refine be ?_)
  refine cn rfl (fun w hw=>⟨⟨_,rfl⟩,.inl ?_⟩)
  have:=bz (hJ _) hw.rid
  rw[iY]
  exact this
theorem mQ:kK prog 94 "Add" 152:=fun _ _=>kr
theorem rQ(n:Nat)(h0:0<n)(hn:n≤512)(K:Nat→L8)(p:Nat→GP)(e:Nat→Int)(hP:Vd K p e n)(j:Nat)(hjn:j≤n)(he0: ∀i,i<j→e i=0)(heb:j<n→¬e j=0)(b cap:Nat)(w:World)(hw:Gt w)(hK:KsAt w b 96 n K):CLS 71 [.slice (spt b) n cap,.func (.func 72) #[] #[]].toArray w (fun r w'=>r=.returned (.tuple #[PtV (if j=n then gSm p n else ch),I (if j=n then 0 else e j)])∧Grow w w'):=by
 have hGF:BOk Gt (pl w):=gt_low.plain hw
 refine bV (G:=Gt) func71 rfl rfl (Hp (pl w) []) (bK (pl w) trivial ak) (ao hGF)<|ac (E:=EE [127])<|Al 4 hGF J2.zv94<|fun b4=>Asg rfl<|aa<|fx<|ac (E:=EE [127])<|Al 6 hGF J2.zv94<|fun b6=>Al 7 hGF J2.zv94<|fun b7=>aa<|ah<|ac (E:=EE [127])<|Mv rfl<|bk rfl (fun _=>aE underlying72 _ _ _ _) rfl rfl<|Bnb false rfl rfl (fun _=>bT _ _ _) (beq_eq_false_iff_ne.2 om)<|Mv rfl<|Mv rfl<|bk rfl (fun _=>aE underlying72 _ _ _ _) rfl rfl<|Bnb false rfl rfl (fun _=>bP _ _ _) (decide_eq_false om)<|Pk rfl rfl rfl<|aa<|au rfl<|ap<|ac (E:=EE [127])<|eI 8 hGF zeroValue34 rfl rfl<|fun b8=>cL 8 hGF rfl rfl rfl sizeOf34 rfl dc rfl<|aa<|ah<|jc<|ah<|ac (E:=EE [127])<|Mv rfl<|Mv rfl<|?_
 refine cT rfl rfl ent127 rfl rfl (fun w' hw'=>(vn _ _ _ _ w' (hGF.g _ _ _ hw')).mono fun e' w'' h=> ?_)
 obtain ⟨b1,b2,rfl,hg,h1,h2,h3,ho1,ho2⟩:=h
 refine ⟨_,_,rfl,ao hGF,hw'.news ak hg [(33,b1,[.slice (spt b) n cap],72),(34,b2,[.func (.func 72) #[] #[]],134)] ?_ (nR h3), ?_⟩
 ·intro n' b' c' t' hl
  rcases aB hl with ⟨_,e⟩|⟨_,hl⟩
  ·cases e;exact ⟨h1,ho1⟩
  rcases aB hl with ⟨_,e⟩|⟨_,hl⟩
  ·cases e;exact ⟨h2,ho2⟩
  ·cases hl
 clear hw' hg h1 h2 h3 ho1 ho2
 refine aa<|aj<|?_
 refine oU (fun k=>k≤j) (fun _=>pl w) (fun _ _=>pl w) (fun _=>hGF) (fun _ _=>hGF) (fun _=>rfl) (fun _ _=>rfl) rfl rfl ent184 (jH b1 b2 b cap n om K p e hP) (fun v hv=>by obtain ⟨k,hk,rfl⟩:=List.mem_map.1 hv;rfl) rfl (fun k=>[(4,b4,(GL (ch)).map U64,94),(6,b6,(GL (gSm p k)).map U64,94),(7,b7,(GL (ch)).map U64,94),(8,b8,[I (0)],34),(33,b1,[.slice (spt b) n cap],72),(34,b2,[.func (.func 72) #[] #[]],134)]) (fun cd _ L'=>cd=.exit 0∧j<n∧jb L' ([(4,b4,(GL (ch)).map U64,94),(6,b6,(GL (ch)).map U64,94),(7,b7,(GL (ch)).map U64,94),(8,b8,[I (e j)],34),(33,b1,[.slice (spt b) n cap],72),(34,b2,[.func (.func 72) #[] #[]],134)])) (Nat.zero_le _) trv (fun k _ w' h=>⟨cp (n:=33) rfl rfl w' h,cp (n:=34) rfl rfl w' h,hK.up (h.below (fun _ h=>h))⟩) ?_ ?_ ?_ ?_
 ·intro k v hx hQ R hR
  obtain ⟨hk,rfl⟩:=wY p e hx
  rcases Nat.lt_or_ge k j with hkj|hkj
  ·have he:=he0 k hkj
   refine ac (E:=EE [127])<|cO 9 (hR (pl w) rfl hGF).1 J2.zv94 rfl rfl<|fun b9=>aw 9 (hR (pl w) rfl hGF).1 rfl rfl rfl sizeOf94 sm sm (bj _) rfl<|aa<|bx (E:=EE [127])<|Asg rfl<|aa<|?_
   refine ⟨rfl,_,rfl, ?_⟩
   refine aj<|ac (E:=EE [127])<|Mv rfl<|aa<|aj<|ac (E:=EE [127])<|Bnb true rfl rfl (fun _=>bT _ _ _) ((by rw[he];rfl))<|Asg rfl<|aa<|aQ rfl<|bx (E:=EE [127])<|La 6 rfl rfl bE<|cD rfl underlying94 rfl rfl<|La 9 rfl rfl bE<|iU rfl rfl mQ rfl ent152 (zg _ _) rfl rfl<|aw 6 (hR (pl w) rfl hGF).2.1 rfl rfl rfl sizeOf94 sm sm (bj _) rfl<|aa<|?_
   repeat (refine aY ?_)
   exact ⟨_,rfl,HS (Q:=fun k=>k≤j) om ⟨rfl,rfl,rfl,rfl,rfl,rfl,trivial⟩⟩
  ·obtain rfl:k=j:=Nat.le_antisymm hQ hkj
   have he:=heb hk
   refine ac (E:=EE [127])<|cO 9 (hR (pl w) rfl hGF).1 J2.zv94 rfl rfl<|fun b9=>aw 9 (hR (pl w) rfl hGF).1 rfl rfl rfl sizeOf94 sm sm (bj _) rfl<|aa<|bx (E:=EE [127])<|Asg rfl<|aa<|?_
   refine ⟨rfl,_,rfl, ?_⟩
   refine aj<|ac (E:=EE [127])<|Mv rfl<|aa<|aj<|ac (E:=EE [127])<|Bnb false rfl rfl (fun _=>bT _ _ _) (beq_eq_false_iff_ne.2 he)<|Asg rfl<|aa<|au rfl<|ac (E:=EE [127])<|La 7 rfl rfl bE<|Mv rfl<|aw 6 (hR (pl w) rfl hGF).2.1 rfl rfl rfl sizeOf94 sm sm (bj _) rfl<|cL 8 (hR (pl w) rfl hGF).2.1 rfl rfl rfl sizeOf34 rfl dc rfl<|aa<|a8<|?_
   repeat (first|refine bY ?_|refine cS rfl ?_)
   exact ⟨_,rfl,rfl,hk,trv⟩
 ·intro hQ D hD
  rw[iY]at*
  obtain rfl:j=n:=Nat.le_antisymm hjn hQ
  refine jJ (E:=EE [127]) (fun X=>X=Hp (B2 (pl w) D) [(8,b8,[I (0)],34)]) (mkB [4]) (rkB [35]) [0,1,2,3] dz rfl kr kr kr<|fU rfl rfl<|La 6 rfl rfl bE<|aa<|lO (X:=Hp (B2 (pl w) D) [(8,b8,[I (0)],34)]) rfl (da hD.r trv) (fun _=>rfl)<|ck 8 rfl rfl rfl isAgg34 rfl rfl<|aa<|ki rfl<|Sa 4 hD rfl rfl rfl bE<|aa<|?_
  refine ⟨fun _ X hX _=>by subst hX;exact da hD.r trv, ?_⟩
  refine fU rfl rfl<|Asg rfl<|aa<|ib<|am<|?_
  repeat (first|refine bf ?_|refine be ?_|refine dr ?_)
  exact cQ (.inl rfl) ak (aW 4 rfl rfl rfl rfl isAgg94 sizeOf94 sm (fun w hw=>⟨by rw[if_pos rfl,if_pos rfl],ae hw⟩))
 ·intro D hb
  repeat (first|refine aY ?_|refine aU ?_|refine yY ?_)
  exact lC hb
 ·rintro D cd k L' hD ⟨rfl,hlt,hsub⟩
  refine Lh (da hD.r hsub) (ao hD)<|jJ (E:=EE [127]) (fun X=>X=Hp (B2 (pl w) D) [(8,b8,[I (e j)],34)]) (mkB [4]) (rkB [35]) [0,1,2,3] dz rfl kr kr kr<|fU rfl rfl<|La 6 rfl rfl bE<|aa<|lO (X:=Hp (B2 (pl w) D) [(8,b8,[I (e j)],34)]) rfl (da hD.r trv) (fun _=>rfl)<|ck 8 rfl rfl rfl isAgg34 rfl rfl<|aa<|ki rfl<|Sa 4 hD rfl rfl rfl bE<|aa<|?_
  refine ⟨fun _ X hX _=>by subst hX;exact da hD.r trv, ?_⟩
  refine fU rfl rfl<|Asg rfl<|aa<|ib<|am<|?_
  repeat (first|refine bf ?_|refine be ?_|refine dr ?_)
  exact cQ (.inl rfl) ak (aW 4 rfl rfl rfl rfl isAgg94 sizeOf94 sm (fun w hw=>⟨by rw[if_neg om,if_neg om],ae hw⟩))
theorem tY(n:Nat)(hn:n=0)(v:Value)(a:Option Addr)(cap:Nat)(w:World)(hw:Gt w):CLS 71 [.slice a n cap,v].toArray w (fun r w'=>r=.returned (.tuple #[PtV ch,I 161])∧Grow w w'):=by
 refine Hf func71 rfl hw<|fun hGF=>ac (E:=EE [127])<|Al 4 hGF J2.zv94<|fun b4=>Asg rfl<|aa<|fx<|ac (E:=EE [127])<|Al 6 hGF J2.zv94<|fun b6=>Al 7 hGF J2.zv94<|fun b7=>aa<|ah<|ac (E:=EE [127])<|Mv rfl<|bk rfl (fun _=>aE underlying72 _ _ _ _) rfl rfl<|Bnb true rfl rfl (fun _=>bT _ _ _) (beq_iff_eq.2 om)<|Mv rfl<|Sk<|Sk<|Sk<|Pk rfl rfl rfl<|aa<|aQ rfl<|ac (E:=EE [127])<|La 7 rfl rfl bE<|Sa 4 hGF rfl rfl rfl bE<|Asg rfl<|aa<|am<|?_
 repeat (first|refine bf ?_|refine be ?_|refine dr ?_)
 exact aW 4 rfl rfl rfl rfl isAgg94 sizeOf94 sm (fun w hw=>⟨rfl,ae hw⟩)
theorem lw(n:Nat)(hn:512<n)(v:Value)(a:Option Addr)(cap:Nat)(w:World)(hw:Gt w):CLS 71 [.slice a n cap,v].toArray w (fun r w'=>r=.returned (.tuple #[PtV ch,I 161])∧Grow w w'):=by
 refine Hf func71 rfl hw<|fun hGF=>ac (E:=EE [127])<|Al 4 hGF J2.zv94<|fun b4=>Asg rfl<|aa<|fx<|ac (E:=EE [127])<|Al 6 hGF J2.zv94<|fun b6=>Al 7 hGF J2.zv94<|fun b7=>aa<|ah<|ac (E:=EE [127])<|Mv rfl<|bk rfl (fun _=>aE underlying72 _ _ _ _) rfl rfl<|Bnb false rfl rfl (fun _=>bT _ _ _) (beq_eq_false_iff_ne.2 om)<|Mv rfl<|Mv rfl<|bk rfl (fun _=>aE underlying72 _ _ _ _) rfl rfl<|Bnb true rfl rfl (fun _=>bP _ _ _) (decide_eq_true om)<|Pk rfl rfl rfl<|aa<|aQ rfl<|ac (E:=EE [127])<|La 7 rfl rfl bE<|Sa 4 hGF rfl rfl rfl bE<|Asg rfl<|aa<|am<|?_
 repeat (first|refine bf ?_|refine be ?_|refine dr ?_)
 exact aW 4 rfl rfl rfl rfl isAgg94 sizeOf94 sm (fun w hw=>⟨rfl,ae hw⟩)
end J2
end
section
open Go.RowKit
attribute [local simp] aV ba aT aO aD bd aK aJ aA PLl cv cw N1l cu cr cq a7 bc aP aZ a9 J1.bi J2.bi bJ fh ft fR
attribute [local simp] iq
attribute [local simp] Q6.fw
open Q6 in
theorem VZ{P:Pt Zp}(hP:E1.onP P){Q:Pt W2}(hQ:E2w.onP Q)(hq:E2w.times Q ORD=none):K12.mul (PR L63 FE P Q) (PR L63 FE (E1.ne P) Q)=K12.one:=by
 rw[PR_1 IA Ir w9 tS hP (E1.ne_on hP) hQ hq,E1.ad_ne,Vg]
theorem SX{a b:Nat}(h:K12.pw EG a=K12.pw EG b):a % ORD=b % ORD:=by
 have e:b+b*(ORD-1)=b*ORD:=by rw[Nat.add_comm,←Nat.mul_succ,show (ORD-1).succ=ORD from by decide+kernel]
 have k:K12.pw EG (a+b*(ORD-1))=K12.one:=by
  rw[K12.pw_add,h,←K12.pw_add,e,CF]
  exact Nat.mul_mod_left _ _
 have k2:=(CF _).1 k
 have k3:a+b*(ORD-1)+b=a+b*ORD:=by rw[Nat.add_assoc,Nat.add_comm _ b,e]
 have k4:=congrArg (· % ORD) k3
 rw[Nat.add_mul_mod_self_right,Nat.add_mod,k2,Nat.zero_add,Nat.mod_mod]at k4
 exact k4.symm
theorem Hu(x:Nat){Q S:Pt W2}(hQ:E2w.onP Q)(hq:E2w.times Q ORD=none)(hS:E2w.onP S)(hs:E2w.times S ORD=none):K12.mul (PR L63 FE (E1.times (some G1p) x) Q) (PR L63 FE (E1.ne (some G1p)) S)=K12.one↔S=E2w.times Q x:=by
 obtain ⟨h,rfl⟩:=wr hQ hq
 obtain ⟨s,rfl⟩:=wr hS hs
 have u:=VZ (P:=some G1p) gK hS hs
 have e:PR L63 FE (some G1p) (E2w.times (some G2p) s)=K12.pw EG s:=by
  have k1:=sX 1 s
  rw[Nat.one_mul,show E1.times (some G1p) 1=some G1p from rfl]at k1
  exact k1
 rw[e]at u
 rw[sX,←E2w.times_mul jl]
 constructor
 ·intro k
  have k1:K12.pw EG (x*h)=K12.pw EG s:=by
   rw[←K12.mul_one (K12.pw EG (x*h)),←u,K12.mul_comm (K12.pw EG s),←K12.mul_assoc,k,K12.one_mul]
  have k2:=SX k1
  rw[←E2w.times_mod jl iQ s,←k2,E2w.times_mod jl iQ,Nat.mul_comm]
 ·intro k
  have k1:=sX 1 s
  have k2:=sX 1 (h*x)
  rw[←k,k1,Nat.one_mul,Nat.one_mul]at k2
  rw[Nat.mul_comm x,←k2]
  exact u
def v2p(a b:J1.GP×J2.GP):Nat→J1.GP×J2.GP
 |0=>a
 |_=>b
theorem QX{a b:J1.GP×J2.GP}(ha:E2w.times a.2.P ORD=none)(hb:E2w.times b.2.P ORD=none): ∀i,i<2→E2w.times (v2p a b i).2.P ORD=none
 |0,_=>ha
 |1,_=>hb
theorem Ux(a b:J1.GP×J2.GP):Q6.PRN (v2p a b) 2=K12.mul (PR L63 FE a.1.P a.2.P) (PR L63 FE b.1.P b.2.P):=by
 rw[Q6.PRN,Q6.PRN,Q6.PRN,K12.one_mul];rfl
theorem S8(K:J1.GP)(bs:L8)(hn:bs.length=96)(S:Pt W2)(hD:D2 bs 0 S)(msg:L8)(H:J2.GP)(hM:Ms msg H 0)(a:Option Addr)(cap:Nat)(hl:msg.length≤65600)(hc:msg.length≤cap)(hK: ∀(d:Nat) (w':World),Gt w'→w'.rangeAt d 0 ((RW 54 (fun i=>Q6.PRv (v2p (K,H) (J1.gi J1.qD,cA2 S (jo hD)) i)) 2).map U64)→CLS 118 [.slice (spt d) 2 2].toArray w' (fun y w''=>y=.returned (.bool true)∧Grow w' w''))(w:World)(hw:Gt w)(hb:BytesAt w a msg):CLS 64 [J1.PtV K,.slice a msg.length cap,.agg ((bs).map U8).toArray].toArray w (fun r w'=>r=.returned (I 0)∧Grow w w'):=by
 refine Hf func64 rfl hw<|fun hGF=>Xp<|Bx 3 hGF rfl<|fun b3=>Bx 5 hGF rfl<|fun b5=>Asg rfl<|aa<|Xp<|cf 5 rfl rfl isAgg33 sizeOf33 (by simp[*]) rfl rfl<|Ca rfl (P3 bs hn _ S hD)<|Mv rfl<|Ext rfl rfl<|Ext rfl rfl<|Al 7 hGF J2.zv94<|fun b7=>Sa 7 hGF rfl rfl rfl bE<|Asg rfl<|aa<|ah<|Xp<|Mv rfl<|Bnb false rfl rfl (fun _=>a6 _ _ _) (rfl)<|aa<|au rfl<|ap<|Xp<|Mv rfl<|Cc rfl ent44 (fun w' hC hG=>QA msg H _ hM a cap w' hl hc hG (hb.grow (ae hC)))<|Mv rfl<|Ext rfl rfl<|Ext rfl rfl<|Al 9 hGF J2.zv94<|fun b9=>Sa 9 hGF rfl rfl rfl bE<|Asg rfl<|aa<|ah<|Xp<|Mv rfl<|Bnb false rfl rfl (fun _=>a6 _ _ _) (rfl)<|aa<|au rfl<|ap<|?_
 refine ah<|Xd []<|La 3 rfl rfl bM<|La 9 rfl rfl bE<|cB Q6.rJ rfl rfl sm sm rfl rfl<|Ca rfl (J1.ER)<|Ca rfl (J1.lm _)<|La 7 rfl rfl bE<|cB Q6.rJ rfl rfl sm sm rfl rfl<|pG (s:=54) 33 (fun i=>Q6.PRv (v2p (K,H) (J1.gi J1.qD,cA2 S (jo hD)) i)) (List.replicate 54 (0#64)) hGF rfl rfl rfl (fun i _=>Q6.fw _) dc dc underlying183 sizeOf182 sm Q6.zv182 rfl rfl<|fun b33=>Cc rfl ent118 (fun w' hC hG=>hK b33 w' hG (aM (n:=33) rfl w' hC))<|a5 rfl (fun _=>aL _) rfl rfl<|aa<|au rfl<|ap<|Xp<|Asg rfl<|aa<|am<|Rr<|?_
 exact aH rfl rfl (fun w hw=>⟨rfl,ae hw⟩)
theorem Vv(K:J1.GP)(bs:L8)(hn:bs.length=96)(S:Pt W2)(hD:D2 bs 0 S)(msg:L8)(H:J2.GP)(hM:Ms msg H 0)(a:Option Addr)(cap:Nat)(hl:msg.length≤65600)(hc:msg.length≤cap)(hK: ∀(d:Nat) (w':World),Gt w'→w'.rangeAt d 0 ((RW 54 (fun i=>Q6.PRv (v2p (K,H) (J1.gi J1.qD,cA2 S (jo hD)) i)) 2).map U64)→CLS 118 [.slice (spt d) 2 2].toArray w' (fun y w''=>y=.returned (.bool false)∧Grow w' w''))(w:World)(hw:Gt w)(hb:BytesAt w a msg):CLS 64 [J1.PtV K,.slice a msg.length cap,.agg ((bs).map U8).toArray].toArray w (fun r w'=>r=.returned (I 162)∧Grow w w'):=by
 refine Hf func64 rfl hw<|fun hGF=>Xp<|Bx 3 hGF rfl<|fun b3=>Bx 5 hGF rfl<|fun b5=>Asg rfl<|aa<|Xp<|cf 5 rfl rfl isAgg33 sizeOf33 (by simp[*]) rfl rfl<|Ca rfl (P3 bs hn _ S hD)<|Mv rfl<|Ext rfl rfl<|Ext rfl rfl<|Al 7 hGF J2.zv94<|fun b7=>Sa 7 hGF rfl rfl rfl bE<|Asg rfl<|aa<|ah<|Xp<|Mv rfl<|Bnb false rfl rfl (fun _=>a6 _ _ _) (rfl)<|aa<|au rfl<|ap<|Xp<|Mv rfl<|Cc rfl ent44 (fun w' hC hG=>QA msg H _ hM a cap w' hl hc hG (hb.grow (ae hC)))<|Mv rfl<|Ext rfl rfl<|Ext rfl rfl<|Al 9 hGF J2.zv94<|fun b9=>Sa 9 hGF rfl rfl rfl bE<|Asg rfl<|aa<|ah<|Xp<|Mv rfl<|Bnb false rfl rfl (fun _=>a6 _ _ _) (rfl)<|aa<|au rfl<|ap<|?_
 refine ah<|Xd []<|La 3 rfl rfl bM<|La 9 rfl rfl bE<|cB Q6.rJ rfl rfl sm sm rfl rfl<|Ca rfl (J1.ER)<|Ca rfl (J1.lm _)<|La 7 rfl rfl bE<|cB Q6.rJ rfl rfl sm sm rfl rfl<|pG (s:=54) 33 (fun i=>Q6.PRv (v2p (K,H) (J1.gi J1.qD,cA2 S (jo hD)) i)) (List.replicate 54 (0#64)) hGF rfl rfl rfl (fun i _=>Q6.fw _) dc dc underlying183 sizeOf182 sm Q6.zv182 rfl rfl<|fun b33=>Cc rfl ent118 (fun w' hC hG=>hK b33 w' hG (aM (n:=33) rfl w' hC))<|a5 rfl (fun _=>aL _) rfl rfl<|aa<|aQ rfl<|Xp<|Asg rfl<|aa<|am<|Rr<|?_
 exact aH rfl rfl (fun w hw=>⟨rfl,ae hw⟩)
theorem EC(K:J1.GP)(x:Nat)(hx:K.P=E1.times (some G1p) x)(bs:L8)(hn:bs.length=96)(S:Pt W2)(hD:D2 bs 0 S)(hs:E2w.times S ORD=none)(msg:L8)(H:J2.GP)(hM:Ms msg H 0)(a:Option Addr)(cap:Nat)(hl:msg.length≤65600)(hc:msg.length≤cap)(e:Int)(he:(S=E2w.times H.P x∧e=0)∨(¬S=E2w.times H.P x∧e=162))(w:World)(hw:Gt w)(hb:BytesAt w a msg):CLS 64 [J1.PtV K,.slice a msg.length cap,.agg ((bs).map U8).toArray].toArray w (fun r w'=>r=.returned (I e)∧Grow w w'):=by
 have hk: ∀(d:Nat) (w':World),Gt w'→w'.rangeAt d 0 ((RW 54 (fun i=>Q6.PRv (v2p (K,H) (J1.gi J1.qD,cA2 S (jo hD)) i)) 2).map U64)→CLS 118 [.slice (spt d) 2 2].toArray w' (fun y w''=>y=.returned (.bool (decide (S=E2w.times H.P x)))∧Grow w' w''):=fun d w' hG hr=>by
  have k:=Q6.Pn 2 (v2p (K,H) (J1.gi J1.qD,cA2 S (jo hD))) d 2 dc (QX hM.r hs) w' hG hr
  have e1:decide (Q6.PRN (v2p (K,H) (J1.gi J1.qD,cA2 S (jo hD))) 2=K12.one)=decide (S=E2w.times H.P x):=by
   refine decide_eq_decide.2 ?_
   rw[Ux]
   show K12.mul (PR L63 FE K.P H.P) (PR L63 FE (E1.ne (some G1p)) S)=K12.one↔_
   rw[hx]
   exact Hu x H.on hM.r (jo hD) hs
  rw[e1]at k
  exact k
 rcases he with ⟨h1,rfl⟩|⟨h1,rfl⟩
 ·rw[decide_eq_true h1]at hk
  exact S8 K bs hn S hD msg H hM a cap hl hc hk w hw hb
 ·rw[decide_eq_false h1]at hk
  exact Vv K bs hn S hD msg H hM a cap hl hc hk w hw hb
theorem Se(w:World)(K:J1.GP)(kb:L8)(hkn:kb.length=48)(hk:PUR 20 [.agg ((kb).map U8).toArray] (.tuple #[J1.PtV K,I 0]))(a:Option Addr)(l cap:Nat)(bs:L8)(hn:bs.length=96)(e:Int)(hV: ∀w',Gt w'→Grow w w'→CLS 64 [J1.PtV K,.slice a l cap,.agg ((bs).map U8).toArray].toArray w' (fun r w''=>r=.returned (I e)∧Grow w' w''))(hw:Gt w):CLS 29 [.agg ((kb).map U8).toArray,.slice a l cap,.agg ((bs).map U8).toArray].toArray w (fun r w'=>r=.returned (I e)∧Grow w w'):=by
 refine Hf func29 rfl hw<|fun hGF=>Xp<|Bx 3 hGF rfl<|fun b3=>Bx 5 hGF rfl<|fun b5=>Asg rfl<|aa<|Xp<|cf 3 rfl rfl isAgg30 sizeOf30 (by simp[*]) rfl rfl<|Ca rfl (hk)<|Mv rfl<|Ext rfl rfl<|Ext rfl rfl<|Al 7 hGF J1.zv54<|fun b7=>Sa 7 hGF rfl rfl rfl bM<|Asg rfl<|aa<|ah<|Xp<|Mv rfl<|Bnb false rfl rfl (fun _=>a6 _ _ _) (rfl)<|aa<|au rfl<|ap<|Xp<|La 7 rfl rfl bM<|Mv rfl<|cf 5 rfl rfl isAgg33 sizeOf33 (by simp[*]) rfl rfl<|Cc rfl ent64 (fun w' hC hG=>hV w' hG (ae hC))<|Asg rfl<|aa<|am<|Rr<|?_
 exact aH rfl rfl (fun w hw=>⟨rfl,ae hw⟩)
theorem B4(w:World)(K:J1.GP)(c:Int)(h0: ¬c=0)(e0:Option Addr)(n0 c0:Nat)(hS: ∀w',Gt w'→Grow w w'→CLS 70 [.slice e0 n0 c0,.func (.func 20) #[] #[]].toArray w' (fun r w''=>r=.returned (.tuple #[J1.PtV K,I c])∧Grow w' w''))(a:Option Addr)(l cap:Nat)(bs:L8)(hw:Gt w):CLS 37 [.slice e0 n0 c0,.slice a l cap,.agg ((bs).map U8).toArray].toArray w (fun r w'=>r=.returned (I c)∧Grow w w'):=by
 refine Hf func37 rfl hw<|fun hGF=>Xp<|Bx 5 hGF rfl<|fun b5=>Asg rfl<|aa<|Xp<|Mv rfl<|Cc rfl ent70 (fun w' hC hG=>hS w' hG (ae hC))<|Mv rfl<|Ext rfl rfl<|Ext rfl rfl<|Al 7 hGF J1.zv54<|fun b7=>Sa 7 hGF rfl rfl rfl bM<|Asg rfl<|aa<|ah<|Xp<|Mv rfl<|Bnb true rfl rfl (fun _=>a6 _ _ _) (bne_iff_ne.2 h0)<|aa<|aQ rfl<|Xp<|Mv rfl<|Asg rfl<|aa<|am<|Rr<|?_
 exact aH rfl rfl (fun w hw=>⟨rfl,ae hw⟩)
theorem UN(w:World)(K:J1.GP)(e0:Option Addr)(n0 c0:Nat)(hS: ∀w',Gt w'→Grow w w'→CLS 70 [.slice e0 n0 c0,.func (.func 20) #[] #[]].toArray w' (fun r w''=>r=.returned (.tuple #[J1.PtV K,I 0])∧Grow w' w''))(a:Option Addr)(l cap:Nat)(bs:L8)(hn:bs.length=96)(e:Int)(hV: ∀w',Gt w'→Grow w w'→CLS 64 [J1.PtV K,.slice a l cap,.agg ((bs).map U8).toArray].toArray w' (fun r w''=>r=.returned (I e)∧Grow w' w''))(hw:Gt w):CLS 37 [.slice e0 n0 c0,.slice a l cap,.agg ((bs).map U8).toArray].toArray w (fun r w'=>r=.returned (I e)∧Grow w w'):=by
 refine Hf func37 rfl hw<|fun hGF=>Xp<|Bx 5 hGF rfl<|fun b5=>Asg rfl<|aa<|Xp<|Mv rfl<|Cc rfl ent70 (fun w' hC hG=>hS w' hG (ae hC))<|Mv rfl<|Ext rfl rfl<|Ext rfl rfl<|Al 7 hGF J1.zv54<|fun b7=>Sa 7 hGF rfl rfl rfl bM<|Asg rfl<|aa<|ah<|Xp<|Mv rfl<|Bnb false rfl rfl (fun _=>a6 _ _ _) (rfl)<|aa<|au rfl<|ap<|Xp<|La 7 rfl rfl bM<|Mv rfl<|cf 5 rfl rfl isAgg33 sizeOf33 (by simp[*]) rfl rfl<|Cc rfl ent64 (fun w' hC hG=>hV w' hG (ae hC))<|Asg rfl<|aa<|am<|Rr<|?_
 exact aH rfl rfl (fun w hw=>⟨rfl,ae hw⟩)
theorem ot(w:World)(K:J1.GP)(c:Int)(h0: ¬c=0)(e0:Option Addr)(n0 c0:Nat)(hS: ∀w',Gt w'→Grow w w'→CLS 70 [.slice e0 n0 c0,.func (.func 20) #[] #[]].toArray w' (fun r w''=>r=.returned (.tuple #[J1.PtV K,I c])∧Grow w' w''))(hw:Gt w):CLS 33 [.slice e0 n0 c0].toArray w (fun r w'=>r=.returned (.tuple #[.agg ((List.replicate 48 (0#8)).map U8).toArray,I c])∧Grow w w'):=by
 refine Hf func33 rfl hw<|fun hGF=>Xp<|Al 2 hGF zv30<|fun b2=>Asg rfl<|aa<|Xp<|Mv rfl<|Cc rfl ent70 (fun w' hC hG=>hS w' hG (ae hC))<|Mv rfl<|Ext rfl rfl<|Ext rfl rfl<|Al 4 hGF J1.zv54<|fun b4=>Sa 4 hGF rfl rfl rfl bM<|Asg rfl<|aa<|ah<|Xp<|Mv rfl<|Bnb true rfl rfl (fun _=>a6 _ _ _) (bne_iff_ne.2 h0)<|aa<|aQ rfl<|Xp<|e9 zv30 underlying30 sizeOf5 rfl rfl<|Mv rfl<|Sx 2 hGF rfl rfl rfl t30t List.length_replicate (bC _)<|Asg rfl<|aa<|am<|Rr<|?_
 exact aW 2 rfl rfl rfl rfl isAgg30 sizeOf30 sm (fun w hw=>⟨rfl,ae hw⟩)
theorem u2(w:World)(K:J2.GP)(c:Int)(h0: ¬c=0)(e0:Option Addr)(n0 c0:Nat)(hS: ∀w',Gt w'→Grow w w'→CLS 71 [.slice e0 n0 c0,.func (.func 72) #[] #[]].toArray w' (fun r w''=>r=.returned (.tuple #[J2.PtV K,I c])∧Grow w' w''))(hw:Gt w):CLS 34 [.slice e0 n0 c0].toArray w (fun r w'=>r=.returned (.tuple #[.agg ((List.replicate 96 (0#8)).map U8).toArray,I c])∧Grow w w'):=by
 refine Hf func34 rfl hw<|fun hGF=>Xp<|Al 2 hGF zv33<|fun b2=>Asg rfl<|aa<|Xp<|Mv rfl<|Cc rfl ent71 (fun w' hC hG=>hS w' hG (ae hC))<|Mv rfl<|Ext rfl rfl<|Ext rfl rfl<|Al 4 hGF J2.zv94<|fun b4=>Sa 4 hGF rfl rfl rfl bE<|Asg rfl<|aa<|ah<|Xp<|Mv rfl<|Bnb true rfl rfl (fun _=>a6 _ _ _) (bne_iff_ne.2 h0)<|aa<|aQ rfl<|Xp<|e9 zv33 underlying33 sizeOf5 rfl rfl<|Mv rfl<|Sx 2 hGF rfl rfl rfl t33t List.length_replicate (bC _)<|Asg rfl<|aa<|am<|Rr<|?_
 exact aW 2 rfl rfl rfl rfl isAgg33 sizeOf33 sm (fun w hw=>⟨rfl,ae hw⟩)
end
section
namespace Sh
abbrev tN:BitVec 32→Nat:=BitVec.toNat
abbrev M32:Nat:=4294967296
def tn(x a b:Nat):Nat:=Nat.lor (Nat.mod (Nat.shiftLeft x a) M32) (Nat.shiftRight x b)
def s1N(x:Nat):Nat:=Nat.xor (Nat.xor (tn x 26 6) (tn x 21 11)) (tn x 7 25)
def s0N(x:Nat):Nat:=Nat.xor (Nat.xor (tn x 30 2) (tn x 19 13)) (tn x 10 22)
def l0N(x:Nat):Nat:=Nat.xor (Nat.xor (tn x 25 7) (tn x 14 18)) (Nat.shiftRight x 3)
def l1N(x:Nat):Nat:=Nat.xor (Nat.xor (tn x 15 17) (tn x 13 19)) (Nat.shiftRight x 10)
def aN(a b:Nat):Nat:=Nat.mod (Nat.add a b) M32
def w4N(bl:List Nat)(i:Nat):Nat:=Nat.lor (Nat.lor (Nat.lor (Nat.mod (Nat.shiftLeft (Nat.mod (bl.getD (4*i) 0) M32) 24) M32) (Nat.mod (Nat.shiftLeft (Nat.mod (bl.getD (4*i+1) 0) M32) 16) M32)) (Nat.mod (Nat.shiftLeft (Nat.mod (bl.getD (4*i+2) 0) M32) 8) M32)) (Nat.mod (bl.getD (4*i+3) 0) M32)
def W1N(bl:List Nat):Nat→List Nat
 |0=>List.replicate 64 0
 |k+1=>(W1N bl k).set k (w4N bl k)
def w5N(ws:List Nat)(i:Nat):Nat:=aN (aN (aN (l1N (ws.getD (i-2) 0)) (ws.getD (i-7) 0)) (l0N (ws.getD (i-15) 0))) (ws.getD (i-16) 0)
def W2N(bl:List Nat):Nat→List Nat
 |0=>W1N bl 16
 |k+1=>(W2N bl k).set (16+k) (w5N (W2N bl k) (16+k))
structure VN where
 (a b c d e f g h:Nat)
def ttN(v:VN)(k w:Nat):Nat:=aN (aN (aN (aN v.h (s1N v.e)) (Nat.xor (Nat.land v.e v.f) (Nat.land (Nat.sub 4294967295 v.e) v.g))) k) w
def HL(v:VN)(k w:Nat):VN:=⟨aN (ttN v k w) (aN (s0N v.a) (Nat.xor (Nat.xor (Nat.land v.a v.b) (Nat.land v.a v.c)) (Nat.land v.b v.c))),v.a,v.b,v.c,aN v.d (ttN v k w),v.e,v.f,v.g⟩
def yb(v:VN)(ks ws:List Nat):Nat→VN
 |0=>v
 |k+1=>HL (yb v ks ws k) (ks.getD k 0) (ws.getD k 0)
def vN(s:List Nat):VN:=⟨s.getD 0 0,s.getD 1 0,s.getD 2 0,s.getD 3 0,s.getD 4 0,s.getD 5 0,s.getD 6 0,s.getD 7 0⟩
def CX(ks s bl:List Nat):List Nat:=
 let v:=yb (vN s) ks (W2N bl 48) 64
 [aN (s.getD 0 0) v.a,aN (s.getD 1 0) v.b,aN (s.getD 2 0) v.c,aN (s.getD 3 0) v.d,aN (s.getD 4 0) v.e,aN (s.getD 5 0) v.f,aN (s.getD 6 0) v.g,aN (s.getD 7 0) v.h]
def P9(ks s:List Nat):List (List Nat)→List Nat
 |[]=>s
 |b::l=>P9 ks (CX ks s b) l
def V8.n(v:V8):VN:=⟨tN v.a,tN v.b,tN v.c,tN v.d,tN v.e,tN v.f,tN v.g,tN v.h⟩
theorem pP(x y:BitVec 32):tN (x+y)=aN (tN x) (tN y):=BitVec.toNat_add x y
theorem kH(x:BitVec 32)(k:Int)(a b:Nat)(ha:(BitVec.ofInt 64 k &&& 31#64).toNat=a)(hb:(32#64-(BitVec.ofInt 64 k &&& 31#64)).toNat=b):tN (me x k)=tn (tN x) a b:=by
 subst ha hb
 show BitVec.toNat (me x k)=_
 rw[me,BitVec.toNat_or,BitVec.toNat_shiftLeft,BitVec.toNat_ushiftRight]
 rfl
theorem kj(x y:BitVec 32):tN (x^^^y)=Nat.xor (tN x) (tN y):=BitVec.toNat_xor x y
theorem uO(x y:BitVec 32):tN (x &&& y)=Nat.land (tN x) (tN y):=BitVec.toNat_and x y
theorem VI(x:BitVec 32):tN (~~~x)=Nat.sub 4294967295 (tN x):=BitVec.toNat_not
theorem s1_e(x:BitVec 32):tN (un x)=s1N (tN x):=by rw[un,kj,kj,kH x (-6) 26 6 dc dc,kH x (-11) 21 11 dc dc,kH x (-25) 7 25 dc dc];rfl
theorem s0_e(x:BitVec 32):tN (Eo x)=s0N (tN x):=by rw[Eo,kj,kj,kH x (-2) 30 2 dc dc,kH x (-13) 19 13 dc dc,kH x (-22) 10 22 dc dc];rfl
theorem J9(x:BitVec 32)(n:Nat):tN (x>>>n)=Nat.shiftRight (tN x) n:=BitVec.toNat_ushiftRight x n
theorem l0_e(x:BitVec 32):tN (Jc x)=l0N (tN x):=by rw[Jc,kj,kj,kH x (-7) 25 7 dc dc,kH x (-18) 14 18 dc dc,J9];rfl
theorem l1_e(x:BitVec 32):tN (H9 x)=l1N (tN x):=by rw[H9,kj,kj,kH x (-17) 15 17 dc dc,kH x (-19) 13 19 dc dc,J9];rfl
theorem nA{n:Nat}(l:List (BitVec n))(i:Nat):(l.map BitVec.toNat).getD i 0=(l.getD i 0).toNat:=by
 rw[List.getD_eq_getElem?_getD,List.getD_eq_getElem?_getD,List.getElem?_map]
 cases l[i]? with
 |none=>rfl
 |some x=>rfl
theorem w4_e(bl:L8)(i:Nat):tN (w4 bl i)=w4N (bl.map BitVec.toNat) i:=by
 have s: ∀(x:BitVec 8) (k:Nat),BitVec.toNat (x.setWidth 32<<<k)=Nat.mod (Nat.shiftLeft (Nat.mod x.toNat M32) k) M32:=fun x k=>by
  rw[BitVec.toNat_shiftLeft,BitVec.toNat_setWidth];rfl
 show BitVec.toNat (w4 bl i)=_
 rw[w4,w4N,BitVec.toNat_or,BitVec.toNat_or,BitVec.toNat_or,s,s,s,BitVec.toNat_setWidth,nA,nA,nA,nA]
 rfl
theorem TM(bl:L8): ∀k,(W1 bl k).map tN=W1N (bl.map BitVec.toNat) k
 |0=>by rw[W1,W1N,List.map_replicate];rfl
 |k+1=>by rw[W1,W1N,List.map_set,TM bl k,w4_e]
theorem w5_e(ws:L3)(i:Nat):tN (w5 ws i)=w5N (ws.map tN) i:=by
 rw[w5,w5N,pP,pP,pP,l1_e,l0_e,nA,nA,nA,nA]
theorem Nb(bl:L8): ∀k,(W2 bl k).map tN=W2N (bl.map BitVec.toNat) k
 |0=>TM bl 16
 |k+1=>by rw[W2,W2N,List.map_set,Nb bl k,w5_e,Nb bl k]
theorem Ur(v:V8)(k w:BitVec 32):(rnd v k w).n=HL v.n (tN k) (tN w):=by
 have t:tN (v.h+un v.e+(v.e &&& v.f^^^ ~~~v.e &&& v.g)+k+w)=ttN v.n (tN k) (tN w):=by
  rw[pP,pP,pP,pP,s1_e,kj,uO,uO,VI];rfl
 have e1:tN (rnd v k w).a=(HL v.n (tN k) (tN w)).a:=by
  show tN ((v.h+un v.e+(v.e &&& v.f^^^ ~~~v.e &&& v.g)+k+w)+(Eo v.a+(v.a &&& v.b^^^v.a &&& v.c^^^v.b &&& v.c)))=_
  rw[pP,t,pP,s0_e,kj,kj,uO,uO,uO];rfl
 have e2:tN (rnd v k w).e=(HL v.n (tN k) (tN w)).e:=by
  show tN (v.d+(v.h+un v.e+(v.e &&& v.f^^^ ~~~v.e &&& v.g)+k+w))=_
  rw[pP,t];rfl
 show VN.mk (tN (rnd v k w).a) _ _ _ (tN (rnd v k w).e) _ _ _=_
 rw[e1,e2];rfl
theorem EF(v:V8)(ws:L3): ∀k,(nC v ws k).n=yb v.n (KW.map tN) (ws.map tN) k
 |0=>rfl
 |k+1=>by rw[nC,yb,Ur,EF v ws k,nA,nA]
theorem vN_e(st:L3):(v8 st).n=vN (st.map tN):=by
 simp only[vN,nA];rfl
theorem Od(st:L3)(bl:L8):(tT st bl).map tN=CX (KW.map tN) (st.map tN) (bl.map BitVec.toNat):=by
 have h:=EF (v8 st) (W2 bl 48) 64
 rw[vN_e,Nb]at h
 rw[CX,←h]
 simp only[tT,Ue,List.map_cons,List.map_nil,nA,pP]
 rfl
theorem CO(st:L3)(b:L8)(l:List L8): ∀k,go st (b::l) (k+1)=go (tT st b) l k
 |0=>rfl
 |k+1=>by rw[go,CO st b l k];rfl
theorem Kc: ∀(l:List L8) (st:L3),(go st l l.length).map tN=P9 (KW.map tN) (st.map tN) (l.map (·.map BitVec.toNat))
 |[],_=>rfl
 |b::l,st=>by
  rw[List.length_cons,CO,Kc l,Od];rfl
theorem Pj(l:L3):(l.map tN).map (BitVec.ofNat 32)=l:=by
 rw[List.map_map]
 exact (List.map_congr_left fun x _=>BitVec.ofNat_toNat 32 x|>.trans (BitVec.setWidth_eq x)).trans (List.map_id l)
theorem lP(bs r:L8)(h:DG ((P9 (KW.map tN) (IV.map tN) ((A3 bs).map (·.map BitVec.toNat))).map (BitVec.ofNat 32)) 8=r):SHA bs=r:=by
 rw[SHA,←Pj (go IV (A3 bs) (A3 bs).length),Kc];exact h
end Sh
end
section
def tC:W2:=(zp 0x4a1a6fbdd75a0a015d8b97f9b7778cb923e5fab97e6dc0ada2f001b452745ac708ce13797418e6a361d408d7d680684,zp 0xdbba1ca562e8bdb6032da29043bd2a3b08775da7ac5d24b3af502c0a9279ac704e6ddfb9d18a3c57f161d2c62d60e1f)
def UQ:W2:=(zp 0x21535d46c591ae51ea59ab9491a6b9cd35ff4f85826e9915e8b0c757f9ab2ab5090fce821399c2cec7f0c0e6d77cd9c,zp 0x25a27be7a3911aa82f64e6d40e73db7f4ada224ea508874ef6bd351588204f0933c5a53815ddcd17c33cb3a26ac8a65)
def mmy0:W2:=(zp 0x9315ba1a011f20cd38ffaabb09603d06a295ef31792f2c55128a130273557a146c65e15a894b561ea42449f72e05ce8,zp 0x36e9a81bb9182d66500bc370e277f842552f69e08e67141cffa537cd2507d5f69028db0682c32bf3f011f6d6fb18f74)
def Ps:W2×W2:=((zp 0xe5528f71e373b4cf4afeae262a9f7740af62f1f146cb03b2f585a3c472692d1e2312171c6affb64079df761a6fb895c,zp 0x40d6dac87e668f0c302c639a58fca14889c97ab0af29bff72d109475ef9633938e46dacaf3800b143c3951edfac00f5),(zp 0xe9aaf4f09f560fdc6700fba1f2fa6ea051feea7c1522fb68b475762a1222fa5a4a32027c5665199aa084ab2eaa2eac0,zp 0x7e31b613c8b044266240abcdbc53de1205bbd28644eda52d4acc7bfc6ac181dc09f84e9f0917ddb3fb2db605dcb5d71))
theorem SZ{x r:W2}(s:SwR tC x r):x=UQ∧sgS r tC=mmy0:=by
 have h:=M4 (X:=(zp 0x1445931e8f87914a5e5dff9a6367ea5b6eecfebfa5dbd3644276be2084cf50dbd6f255c3e3c71fa7e756d3e8eb98d8c,zp 0x104dc64d945da164baef0f4ca48c2f5bdd79ca3e6d34207d6ca583818d41c98061051b2988759d8273ee71dccdab02a3)) (X':=UQ) (R:=(zp 0x9315ba1a011f20cd38ffaabb09603d06a295ef31792f2c55128a130273557a146c65e15a894b561ea42449f72e05ce8,zp 0x36e9a81bb9182d66500bc370e277f842552f69e08e67141cffa537cd2507d5f69028db0682c32bf3f011f6d6fb18f74)) (q:=zp 0xdac9d21e47174c96a071c9e810c4a14509be19c174d93dca733279dbf3e05d1b596ec771c74d7df2b7a3db90a55e76) (by decide+kernel) (by decide+kernel) (by decide+kernel) (by decide+kernel) (by decide+kernel) (by decide+kernel) (by decide+kernel) s
 exact ⟨h.1,by rw[h.2];decide+kernel⟩
theorem mmq0{x r:W2}(s:SwR tC x r):(XIs x,YIs x (sgS r tC))=Ps:=by
 rw[(SZ s).2,(SZ s).1]
 exact Prod.ext (Kb (by decide+kernel) (by decide+kernel)) (KY (by decide+kernel) (by decide+kernel))
theorem mmo0:E2w.on Ps:=by
 unfold Ec.on
 decide+kernel
def tG:W2:=(zp 0x88b742e34a06f08dae75df6b2bea04eb3e473a392b6fd00284a28b63ad06976480d134d08e780ac1654ea9398db027a,zp 0xba39e89ae159b80dce7d0779408abc9852e05f54fb489f657ae1495caf3223fe2b5eb69b8daca03a010b491852ed9fb)
def Tp:W2:=(zp 0x1282216845306bbd6e021b45b7a42bf1fc20df27014f92120519b37afd7e697762112b16860f3b08c8a79e95f102f4eb,zp 0xa4ba0dba5603a134bd786cca59f66eff1940460ee60c65e5f3b5765da92a4d5152aeeaf1cc81c0d80d24c625d4ddce5)
def mmy1:W2:=(zp 0xb5f594a31f82557fb104862b8da474f82730f49b063c1500a3f44a2524027f5d045c446d010cae05b3cb59720cc237a,zp 0x83d1bac0b3db3945538e523d6d97e66388592e8e1ffee055ef37b9288316aadd58bcf5f1adc9bc9d2eb8ed1f9092ef0)
def Nu:W2×W2:=((zp 0x18fe49d245cb404aa63bc2979912ca9199e29263bf25c55bcf8a5570509429b33744b0d9e5e38c8b0ffa96ca37f34f0,zp 0x8af245a8c56afe24ab1a5e9d0b2e57d98ad35b1a2f1ab1741847a3efbd70c9f93d9b12db792a9fda10ca67fde0c7bde),(zp 0x18339860a12634c09f56c86d7394f66dc87632a6a94ea54e3638d91b543a48cd83e6189211d031c35088f1655d645237,zp 0x18f87c161a07eb19ade5e67e09d3949e2d5ab28bc33b8795d06378ef88652a286fea933d0b106a39e405aa07a2285f3f))
theorem Rw{x r:W2}(s:SwR tG x r):x=Tp∧sgS r tG=mmy1:=by
 have h:=Qr (R:=(zp 0xb5f594a31f82557fb104862b8da474f82730f49b063c1500a3f44a2524027f5d045c446d010cae05b3cb59720cc237a,zp 0x83d1bac0b3db3945538e523d6d97e66388592e8e1ffee055ef37b9288316aadd58bcf5f1adc9bc9d2eb8ed1f9092ef0)) (X:=Tp) (by decide+kernel) (by decide+kernel) (by decide+kernel) (by decide+kernel) s
 exact ⟨h.1,by rw[h.2];decide+kernel⟩
theorem mmq1{x r:W2}(s:SwR tG x r):(XIs x,YIs x (sgS r tG))=Nu:=by
 rw[(Rw s).2,(Rw s).1]
 exact Prod.ext (Kb (by decide+kernel) (by decide+kernel)) (KY (by decide+kernel) (by decide+kernel))
theorem mmo1:E2w.on Nu:=by
 unfold Ec.on
 decide+kernel
def mmX:W2:=(zp 0x15d20c32159aace6759a783461fd9e3c5ea985d29a7a466bc11c0ad3e5923bfee7e335057028e7c7c4db7df243baee61,zp 0x197c335f20db08e91c53aecbabf17e0c0880d2d3f17fa9d9f4f2bb7caae0c05c201db70fd56d044ed05b6cb2968dbb7d)
theorem Rc{x r x' r':W2}(s:SwR tC x r)(s':SwR tG x' r'): ∃y,E2w.times (E2w.ad (some (XIs x,YIs x (sgS r tC))) (some (XIs x',YIs x' (sgS r' tG)))) HEF=some (mmX,y):=by
 rw[mmq0 s,mmq1 s']
 exact BI mmo0 mmo1 (mz Ps) (mz Nu) Fl (by decide+kernel)
end
section
namespace Xm
def mmm:L8:=[109#8]
def mmd:L8:=[66#8,76#8,83#8,95#8,83#8,73#8,71#8,95#8,66#8,76#8,83#8,49#8,50#8,51#8,56#8,49#8,71#8,50#8,95#8,88#8,77#8,68#8,58#8,83#8,72#8,65#8,45#8,50#8,53#8,54#8,95#8,83#8,83#8,87#8,85#8,95#8,82#8,79#8,95#8,80#8,79#8,80#8,95#8]
def mmb:L8:=[123#8,71#8,213#8,206#8,230#8,221#8,139#8,80#8,195#8,100#8,179#8,9#8,239#8,248#8,219#8,121#8,59#8,67#8,238#8,233#8,90#8,183#8,54#8,237#8,243#8,192#8,188#8,151#8,202#8,133#8,187#8,46#8]
def mml:Nat→L8
 |0=>[0#8,0#8,0#8,0#8,0#8,0#8,0#8,0#8,0#8,0#8,0#8,0#8,0#8,0#8,0#8,0#8,0#8,0#8,0#8,0#8,0#8,0#8,0#8,0#8,0#8,0#8,0#8,0#8,0#8,0#8,0#8,0#8]
 |1=>[233#8,243#8,94#8,46#8,92#8,128#8,246#8,94#8,201#8,255#8,229#8,232#8,220#8,235#8,67#8,138#8,89#8,141#8,220#8,239#8,198#8,80#8,150#8,242#8,255#8,5#8,130#8,85#8,193#8,159#8,150#8,94#8]
 |2=>[123#8,106#8,141#8,225#8,33#8,56#8,34#8,181#8,227#8,178#8,69#8,227#8,216#8,181#8,80#8,213#8,193#8,175#8,53#8,17#8,181#8,108#8,40#8,216#8,41#8,127#8,26#8,95#8,16#8,92#8,95#8,159#8]
 |3=>[137#8,19#8,115#8,95#8,213#8,222#8,108#8,66#8,47#8,107#8,9#8,245#8,211#8,113#8,239#8,43#8,168#8,66#8,250#8,106#8,217#8,161#8,154#8,46#8,187#8,60#8,106#8,175#8,104#8,200#8,201#8,131#8]
 |4=>[253#8,180#8,156#8,144#8,219#8,151#8,20#8,70#8,87#8,98#8,89#8,5#8,57#8,229#8,82#8,56#8,143#8,169#8,40#8,200#8,6#8,255#8,124#8,243#8,132#8,144#8,3#8,103#8,221#8,185#8,182#8,82#8]
 |5=>[213#8,239#8,78#8,111#8,76#8,88#8,150#8,146#8,179#8,217#8,181#8,212#8,200#8,240#8,93#8,168#8,136#8,18#8,155#8,38#8,110#8,91#8,73#8,141#8,183#8,84#8,162#8,10#8,174#8,29#8,255#8,192#8]
 |6=>[83#8,237#8,92#8,221#8,179#8,250#8,120#8,30#8,238#8,212#8,149#8,238#8,189#8,94#8,81#8,63#8,140#8,154#8,19#8,104#8,143#8,3#8,74#8,181#8,146#8,224#8,8#8,196#8,23#8,171#8,209#8,153#8]
 |7=>[28#8,190#8,98#8,198#8,79#8,142#8,86#8,0#8,81#8,219#8,173#8,44#8,221#8,44#8,73#8,212#8,103#8,191#8,247#8,78#8,201#8,230#8,160#8,154#8,180#8,238#8,112#8,83#8,104#8,75#8,255#8,124#8]
 |_=>[94#8,54#8,50#8,215#8,242#8,99#8,63#8,84#8,156#8,195#8,108#8,171#8,68#8,220#8,94#8,69#8,251#8,216#8,116#8,227#8,116#8,52#8,73#8,39#8,222#8,120#8,139#8,199#8,90#8,111#8,241#8,166#8]
theorem mm_b:B0 mmm mmd 256=mmb:=Sh.lP _ _ (by decide+kernel)
theorem Tz:Xk mmb (D mmd) 0=mml 0:=by decide+kernel
theorem JT:Xk mmb (D mmd) 1=mml 1:=by
 show Xk mmb (D mmd) (0+1)=_
 rw[Xk,Tz]
 exact Sh.lP _ _ (by decide+kernel)
theorem Li:Xk mmb (D mmd) 2=mml 2:=by
 show Xk mmb (D mmd) (1+1)=_
 rw[Xk,JT]
 exact Sh.lP _ _ (by decide+kernel)
theorem K8:Xk mmb (D mmd) 3=mml 3:=by
 show Xk mmb (D mmd) (2+1)=_
 rw[Xk,Li]
 exact Sh.lP _ _ (by decide+kernel)
theorem J0:Xk mmb (D mmd) 4=mml 4:=by
 show Xk mmb (D mmd) (3+1)=_
 rw[Xk,K8]
 exact Sh.lP _ _ (by decide+kernel)
theorem Ke:Xk mmb (D mmd) 5=mml 5:=by
 show Xk mmb (D mmd) (4+1)=_
 rw[Xk,J0]
 exact Sh.lP _ _ (by decide+kernel)
theorem Jw:Xk mmb (D mmd) 6=mml 6:=by
 show Xk mmb (D mmd) (5+1)=_
 rw[Xk,Ke]
 exact Sh.lP _ _ (by decide+kernel)
theorem K3:Xk mmb (D mmd) 7=mml 7:=by
 show Xk mmb (D mmd) (6+1)=_
 rw[Xk,Jw]
 exact Sh.lP _ _ (by decide+kernel)
theorem Th:Xk mmb (D mmd) 8=mml 8:=by
 show Xk mmb (D mmd) (7+1)=_
 rw[Xk,K3]
 exact Sh.lP _ _ (by decide+kernel)
theorem RG:E mmm mmd 256=mml 1++mml 2++mml 3++mml 4++mml 5++mml 6++mml 7++mml 8:=by
 rw[E,mm_b,show (256+31) / 32=8 from rfl]
 simp only[O,List.nil_append]
 rw[JT,Li,K8,J0,Ke,Jw,K3,Th]
 decide+kernel
theorem mm_0:N2 (E mmm mmd 256) 0=tC:=by rw[RG];decide+kernel
theorem mm_1:N2 (E mmm mmd 256) 1=tG:=by rw[RG];decide+kernel
end Xm
end
end Go.Proofs.YtfgacclgjklgnaaGreatDoor
