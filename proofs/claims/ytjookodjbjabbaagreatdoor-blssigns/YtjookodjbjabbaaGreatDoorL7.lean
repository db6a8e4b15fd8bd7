/- L7 -/
import Derived.Test.YtjookodjbjabbaaGreatDoorL6
import Derived.Test.YtjookodjbjabbaaGreatDoorXW
import Derived.Test.YtjookodjbjabbaaGreatDoorX2
import Derived.Test.YtjookodjbjabbaaGreatDoorL3
import Derived.Test.YtjookodjbjabbaaGreatDoorL5
import Derived.Test.YtjookodjbjabbaaGreatDoorX3
import Derived.Test.YtjookodjbjabbaaGreatDoorL2
import Derived.Test.YtjookodjbjabbaaGreatDoorL4
set_option maxRecDepth 100000
set_option maxHeartbeats 1000000
namespace Go.Proofs.YtjookodjbjabbaaGreatDoor
open Go.Proofs.Tryz
section
open Go.RowKit
attribute [local simp] a7 bv aJ aB aQ a5 aT aK aO bf bC a6 bz List.length_append gA cM
theorem ent206:ak prog 206:=fun _ _=>kr
namespace Xm
attribute [local simp] Sh.hO lI qt kO fO gq Sh.cf kK
attribute [local simp] N2r_len
theorem tiQ:TI prog 78 (aM (List.replicate 12 (0#64))) 12 96:=sL kr
theorem Wo(e:Option Addr)(len cap:Nat)(bs:L8)(hb:bs.length=len)(hlen:len≤1000)(hc:len≤cap)(w:World)(hw:Gt w)(hby:BytesAt w e bs):CLS 241 [.slice e len cap].toArray w (fun r w'=>r=.returned (EV (ZB bs))∧Grow w w'):=by
 subst hb
 exact xq e cap bs om hc w hw hby
theorem cut3{w:World}{a:Option Addr}{rs:L8}(h:BytesAt w a rs)(l k m:Nat)(hm:m≠l):BytesAt w (if m=l then a else a.map (·.add (l*1))) ((rs.drop l).take k):=by
 have h2:=h.cut (cap:=rs.length+l+1) l k om
 rw[if_neg om]at h2
 rw[if_neg hm]
 exact h2
theorem Ct(a:Option Addr)(len cap:Nat)(bs:L8)(hlen:bs.length=len)(hc:len≤cap)(i:Nat)(hi:64*i+64≤len)(hl:len≤100000)(w:World)(hw:Gt w)(hb:BytesAt w a bs):CLS 206 [.slice a len cap,I (i:Int)].toArray w (fun e w'=>e=.returned (EV (ZB ((bs.drop (64*i)).take 64)))∧Grow w w'):=by
 refine Hf func206 rfl hw<|fun hGF=>Xp<|Al 4 hGF zf52<|fun b4=>aa<|Xp<|Mv rfl<|Bnr (v:=I ((64*i:Nat):Int)) rfl rfl (fun _=>(bB _ _ _ oi).trans (by rw[show (64:Int)*(i:Int)=((64*i:Nat):Int) by omega]))<|Mv rfl<|Bnr (v:=I ((i+1:Nat):Int)) rfl rfl (fun _=>(au _ _ _ oi).trans rr)<|Bnr (v:=I ((64*i+64:Nat):Int)) rfl rfl (fun _=>(bB _ _ _ oi).trans (by rw[show (64:Int)*((i+1:Nat):Int)=((64*i+64:Nat):Int) by omega]))<|Asg rfl<|Asg rfl<|aa<|Xp<|Mv rfl<|Mv rfl<|Mv rfl<|Mv rfl<|gF (l:=64*i) (h':=64*i+64) (m:=64*i+64) rfl underlying22 sizeOf5 rfl rfl rfl ⟨om,Nat.le_refl _,om⟩ rfl rfl<|Cc rfl ent241 (fun w' hC hG=>Wo _ _ _ ((bs.drop (64*i)).take 64) (by rw[List.length_take,List.length_drop,hlen];omega) om (Nat.le_refl _) w' hG (BytesAt.grow (cut3 hb (64*i) 64 _ om) (ac hC)))<|Sa 4 hGF rfl rfl rfl bJ<|aa<|am<|Rr<|?_
 exact av 4 rfl rfl rfl isAgg52 sizeOf52 sm (fun w hw=>⟨rfl,ac hw⟩)
theorem pf_0(a1:Option Addr)(cap1:Nat)(msg:L8)(a2:Option Addr)(cap2:Nat)(dst:L8) (z:Int)(h:z<0)(w:World)(hw:Gt w):CLS 171 [.slice a1 msg.length cap1,.slice a2 dst.length cap2,I z].toArray w (fun e w'=>e=.returned (.tuple #[.slice none 0 0,I 130])∧Grow w w'):=by
 refine Hf func171 rfl hw<|fun hGF=>ae (E:=EE [205])<|Asg rfl<|Asg rfl<|aa<|ah<|ae (E:=EE [205])<|Mv rfl<|Bnb true rfl rfl (fun _=>az _ _ _) (decide_eq_true om)<|Mv rfl<|Sk<|Sk<|Pk rfl rfl rfl<|aa<|aR rfl<|ae (E:=EE [205])<|Asg rfl<|Asg rfl<|aa<|am<|Rr<|?_
 exact cj rfl rfl rfl (fun w hw=>⟨rfl,ac hw⟩)
theorem pf_1(a1:Option Addr)(cap1:Nat)(msg:L8)(a2:Option Addr)(cap2:Nat)(dst:L8) (z:Int)(h:32<z)(w:World)(hw:Gt w):CLS 171 [.slice a1 msg.length cap1,.slice a2 dst.length cap2,I z].toArray w (fun e w'=>e=.returned (.tuple #[.slice none 0 0,I 130])∧Grow w w'):=by
 refine Hf func171 rfl hw<|fun hGF=>ae (E:=EE [205])<|Asg rfl<|Asg rfl<|aa<|ah<|ae (E:=EE [205])<|Mv rfl<|Bnb false rfl rfl (fun _=>az _ _ _) (decide_eq_false om)<|Mv rfl<|Mv rfl<|Bnb true rfl rfl (fun _=>bc _ _ _) (decide_eq_true om)<|Pk rfl rfl rfl<|aa<|aR rfl<|ae (E:=EE [205])<|Asg rfl<|Asg rfl<|aa<|am<|Rr<|?_
 exact cj rfl rfl rfl (fun w hw=>⟨rfl,ac hw⟩)
theorem pf_2(a1:Option Addr)(cap1:Nat)(msg:L8)(a2:Option Addr)(cap2:Nat)(dst:L8)(hc1:msg.length≤cap1)(hc2:dst.length≤cap2)(hl1:msg.length≤100000)(hl2:dst.length≤100000)(z:Int)(h0: ¬z<0)(h1: ¬32<z)(hl:255<dst.length∨65536<msg.length)(w:World)(hw:Gt w)(hb1:BytesAt w a1 msg)(hb2:BytesAt w a2 dst):CLS 171 [.slice a1 msg.length cap1,.slice a2 dst.length cap2,I z].toArray w (fun e w'=>e=.returned (.tuple #[.slice none 0 0,I 130])∧Grow w w'):=by
 have hGF:BOk Gt (pl w):=gt_low.plain hw
 have hgw:Grow w w:=Grow.refl w
 refine Hd func171 rfl hGF<|ae (E:=EE [205])<|Asg rfl<|Asg rfl<|aa<|ah<|ae (E:=EE [205])<|Mv rfl<|Bnb false rfl rfl (fun _=>az _ _ _) (decide_eq_false om)<|Mv rfl<|Mv rfl<|Bnb false rfl rfl (fun _=>bc _ _ _) (decide_eq_false om)<|Pk rfl rfl rfl<|aa<|aC rfl<|aq<|ae (E:=EE [205])<|Mv rfl<|Mv rfl<|Mv rfl<|Bnr rfl rfl (fun _=>bB _ _ _ oi)<|?_
 refine jP rfl rfl ent205 rfl rfl gt_low (aA hGF) (fun w' hC hG=>pxc a1 cap1 msg a2 cap2 dst (128*z) w' om hc1 om hc2 hG (hb1.grow (hgw.trans (ac hC))) (hb2.grow (hgw.trans (ac hC)))) (fun w0 w1 v h0 hg hG1 hq=> ?_)
 replace hgw:=hgw.trans ((ac h0).trans hg)
 clear h0 hg hGF
 have hGF:BOk Gt (pl w1):=gt_low.plain hG1
 obtain rfl:=hq.bad (hl.elim (fun h=>.inr (.inr (.inl h))) fun h=>.inr (.inr (.inr h)))
 refine Mv rfl<|Ext rfl rfl<|Ext rfl rfl<|Asg rfl<|Asg rfl<|aa<|ah<|ae (E:=EE [205])<|Mv rfl<|Bnb true rfl rfl (fun _=>bF _ _ _) (rfl)<|aa<|aR rfl<|ae (E:=EE [205])<|Mv rfl<|Asg rfl<|Asg rfl<|aa<|am<|Rr<|?_
 exact cj rfl rfl rfl (fun w hw=>⟨rfl,hgw.trans (ac hw)⟩)
theorem M8(f:Nat→L6)(z:L6)(n k:Nat)(hk:k<n)(hf:(f k).length=12):lay (0+12*k) ((f k).map U64) ((RW 12 (fun i=>if i<k then f i else z) n).map U64)=(RW 12 (fun i=>if i<k+1 then f i else z) n).map U64:=by
 rw[FQ _ n k (f k) hk hf _ om]
 congr 1
 refine ld fun i _=> ?_
 by_cases h:i=k
 ·rw[if_pos h,if_pos om,h]
 ·rw[if_neg h]
  by_cases h2:i<k
  ·rw[if_pos h2,if_pos om]
  ·rw[if_neg h2,if_neg om]
theorem SU(bs:L8)(k:Nat):fe (ZB ((bs.drop (64*(2*k))).take 64))++fe (ZB ((bs.drop (64*(2*k+1))).take 64))=N2r bs k:=by
 rw[N2r,N2,show 64*(2*k)=128*k by omega,show 64*(2*k+1)=128*k+64 by omega]
theorem WI(a1:Option Addr)(cap1:Nat)(msg:L8)(a2:Option Addr)(cap2:Nat)(dst:L8)(n:Nat)(hc1:msg.length≤cap1)(hc2:dst.length≤cap2)(hl1:msg.length≤100000)(hl2:dst.length≤100000)(hn:n≤32)(hd:dst.length≤255)(hm:msg.length≤65536)(w:World)(hw:Gt w)(hb1:BytesAt w a1 msg)(hb2:BytesAt w a2 dst):CLS 171 [.slice a1 msg.length cap1,.slice a2 dst.length cap2,I (n:Int)].toArray w (fun e w'=> ∃a cap,e=.returned (.tuple #[.slice a n cap,I 0])∧Grow w w'∧At2 w w' a n (N2r (E msg dst (128*n)))):=by
 have hGF:BOk Gt (pl w):=gt_low.plain hw
 have hgw:Grow w w:=Grow.refl w
 refine Hd func171 rfl hGF<|ae (E:=EE [205])<|Asg rfl<|Asg rfl<|aa<|ah<|ae (E:=EE [205])<|Mv rfl<|Bnb false rfl rfl (fun _=>az _ _ _) (decide_eq_false om)<|Mv rfl<|Mv rfl<|Bnb false rfl rfl (fun _=>bc _ _ _) (decide_eq_false om)<|Pk rfl rfl rfl<|aa<|aC rfl<|aq<|ae (E:=EE [205])<|Mv rfl<|Mv rfl<|Mv rfl<|Bnr rfl rfl (fun _=>bB _ _ _ oi)<|?_
 refine jP rfl rfl ent205 rfl rfl gt_low (aA hGF) (fun w' hC hG=>pxc a1 cap1 msg a2 cap2 dst (128*(n:Int)) w' om hc1 om hc2 hG (hb1.grow (hgw.trans (ac hC))) (hb2.grow (hgw.trans (ac hC)))) (fun w0 w1 v h0 hg hG1 hq=> ?_)
 replace hgw:=hgw.trans ((ac h0).trans hg)
 clear h0 hg hGF
 have hGF:BOk Gt (pl w1):=gt_low.plain hG1
 obtain ⟨xa,xc,rfl,hx,hle⟩:=hq.ok (by rintro (h|h|h|h)<;>omega)
 rw[show ((128:Int)*(n:Int)).toNat=128*n by omega]at*
 refine Mv rfl<|Ext rfl rfl<|Ext rfl rfl<|Asg rfl<|Asg rfl<|aa<|ah<|ae (E:=EE [205])<|Mv rfl<|Bnb false rfl rfl (fun _=>bF _ _ _) (rfl)<|aa<|aC rfl<|aq<|ae (E:=EE [205])<|Mv rfl<|xi (l:=n) (m:=n) (c:=(RW 12 (fun _=>List.replicate 12 0#64) n).map U64) 30 hGF rfl rfl (Nat.le_refl _) underlying218 tiQ ⟨om,om,om⟩ (XN _ sm _) rfl rfl<|fun b30=>Asg rfl<|aa<|ah<|ae (E:=EE [205])<|Mv rfl<|bi rfl (fun _=>aI underlying218 _ _ _ _) rfl rfl<|Mv rfl<|aa<|ai<|bL (ι:={k:Nat // k≤n}) (fun z=>[(8,.slice xa (E msg dst (128*n)).length xc),(10,.slice (spt b30) n n),(32,I (n:Int)),(33,I (z.1:Int))]) (fun z=>[(30,b30,(RW 12 (fun i=>if i<z.1 then N2r (E msg dst (128*n)) i else List.replicate 12 0#64) n).map U64,78)]) (fun z=>n-z.1) ⟨0,om⟩ hGF trv ⟨by rw[ld (s:=12) (g:=fun _=>List.replicate 12 0#64) (fun i _=>if_neg (Nat.not_lt_zero i))];rfl,trivial⟩<|?_
 rintro ⟨k,hk⟩
 dsimp only
 refine ae (E:=EE [205])<|Bnr rfl rfl (fun _=>az _ _ _)<|aa<|ah<|?_
 refine bG rfl (fun hc=> ?_) (fun hc=> ?_)
 ·have hlt:k<n:=by simp at hc;omega
  clear hc
  refine aq<|ah<|ai<|ae (E:=EE [205])<|Mv rfl<|Asg rfl<|aa<|bN (E:=EE [205])<|Mv rfl<|Mv rfl<|Mv rfl<|Mv rfl<|Bnr (v:=I ((2*k:Nat):Int)) rfl rfl (fun _=>(bB _ _ _ oi).trans (by rw[show (2:Int)*(k:Int)=((2*k:Nat):Int) by omega]))<|Cc rfl ent206 (fun w' hC hG=>Ct xa _ xc (E msg dst (128*n)) rfl hle (2*k) (by rw[kN];omega) (by rw[kN];omega) w' hG (hx.grow (ac hC)))<|Mv rfl<|Mv rfl<|Bnr (v:=I ((2*k:Nat):Int)) rfl rfl (fun _=>(bB _ _ _ oi).trans (by rw[show (2:Int)*(k:Int)=((2*k:Nat):Int) by omega]))<|Bnr (v:=I ((2*k+1:Nat):Int)) rfl rfl (fun _=>(au _ _ _ oi).trans rr)<|Cc rfl ent206 (fun w' hC hG=>Ct xa _ xc (E msg dst (128*n)) rfl hle (2*k+1) (by rw[kN];omega) (by rw[kN];omega) w' hG (hx.grow (ac hC)))<|cv gg rfl rfl sm sm rfl rfl<|?_
  rw[SU]
  refine iZ (s:=12) k rfl rfl underlying218 sizeOf78 om om rfl rfl<|gh 30 hGF rfl rfl rfl sizeOf78 (by rw[List.length_map,N2r_len]) (be _) (by rw[List.length_map,List.length_map,N2r_len,cM];omega) rfl<|?_
  rw[M8 (N2r (E msg dst (128*n))) _ n k hlt (N2r_len _ _)]
  refine aa<|bN (E:=EE [205])<|Bnr (v:=I ((k+1:Nat):Int)) rfl rfl (fun _=>(au _ _ _ oi).trans rr)<|Mv rfl<|aa<|?_
  repeat (first|refine aP ?_|refine cq ?_)
  exact aD<|⟨rfl,⟨k+1,om⟩,_,by show n-(k+1)<n-k;omega,rfl,trv,trv⟩
 ·have hke:k=n:=by simp at hc;omega
  clear hc
  subst hke
  refine aW<|ae (E:=EE [205])<|Mv rfl<|Asg rfl<|Asg rfl<|aa<|am<|?_
  repeat (first|refine bP ?_|refine bR ?_|refine fH ?_)
  exact cj rfl rfl rfl (fun w hw=>⟨_,_,rfl,hgw.trans (ac hw),.inr ⟨b30,rfl,(hw.own 30 b30 _ _ rfl).2.elim (fun h=>Nat.le_trans hgw.size h) False.elim,by rw[←ld (s:=12) (fun i hi=>if_pos hi)];exact (hw.own 30 b30 _ _ rfl).1.range⟩⟩)
theorem pfc:PFC:=by
 intro a1 cap1 msg a2 cap2 dst z w hl1 hc1 hl2 hc2 hw hb1 hb2
 have err:FBad msg dst z→∀{e:Ending} {w':World},e=.returned (.tuple #[.slice none 0 0,I 130])∧Grow w w'→∃v,e=.returned v∧Grow w w'∧RFt msg dst z w w' v:=fun hb _ _ h=>⟨_,h.1,h.2,fun _=>rfl,fun hn=>absurd hb hn⟩
 by_cases h0:z<0
 ·exact (pf_0 a1 cap1 msg a2 cap2 dst z h0 w hw).mono fun _ _ h=>err (.inl h0) h
 by_cases h1:32<z
 ·exact (pf_1 a1 cap1 msg a2 cap2 dst z h1 w hw).mono fun _ _ h=>err (.inr (.inl h1)) h
 by_cases h2:255<dst.length∨65536<msg.length
 ·exact (pf_2 a1 cap1 msg a2 cap2 dst hc1 hc2 hl1 hl2 z h0 h1 h2 w hw hb1 hb2).mono fun _ _ h=>err (.inr (.inr h2)) h
 obtain ⟨n,rfl⟩: ∃n:Nat,z=(n:Int):=⟨z.toNat,om⟩
 refine (WI a1 cap1 msg a2 cap2 dst n hc1 hc2 hl1 hl2 om om om w hw hb1 hb2).mono fun e w' ⟨a,cap,he,hg,hc⟩=>⟨_,he,hg,fun hb=>absurd hb ?_,fun _=>⟨a,cap,rfl,hc⟩⟩
 rintro (h|h|h|h)<;>omega
end Xm
end
section
open J2
open Go.RowKit
attribute [local simp] a7 bv aJ aB aQ a5 aT aK aO bf bC a6 bz bE cM dK ka
theorem ent124:ak prog 124:=fun _ _=>kr
theorem ent172:ak prog 172:=fun _ _=>kr
theorem ent126:ak prog 126:=fun _ _=>kr
theorem QU  :PUR 79 [] (.string SUb):=by
 intro w hw
 refine Hf func79 rfl hw<|fun hGF=>Xp<|Asg rfl<|aa<|Xp<|Asg rfl<|aa<|am<|Rr<|?_
 exact aG rfl rfl (fun w hw=>⟨rfl,ac hw⟩)
theorem Yi(p q:GP)(hq:K3 p HBs=q)(b cap:Nat)(w:World)(hw:Gt w)(h:w.rangeAt b 0 (HBs.map U8)):CLS 173 [PtV p,.slice (spt b) HBs.length cap].toArray w (fun r w'=>r=.returned (PtV q)∧Grow w w'):=by
 subst hq
 exact XK p _ cap HBs dc w hw (BytesAt.range h)
def gCl(p:GP):GP:=K3 p HBs
theorem VO(p:GP)(bs:L8):(K3 p bs).P=E2w.times p.P (BN bs bs.length):=rfl
theorem Xh(p:GP):(gCl p).P=E2w.times p.P HEF:=by rw[gCl,VO,OR]
theorem Ua(p:GP):PUR 125 [PtV p] (PtV (gCl p)):=by
 intro w hw
 refine Hf func125 rfl hw<|fun hGF=>ae (E:=EE [1000022])<|Bx 1 hGF rfl<|fun b1=>Al 2 hGF zv80<|fun b2=>aa<|ae (E:=EE [1000022])<|La 1 rfl rfl co<|ek 4 HBs hGF rfl rfl rfl dc dc underlying22 sizeOf5 zeroValue5 rfl rfl<|fun b4=>mC 4 rfl hGF rfl rfl underlying22 underlying5 rfl rfl<|Cc rfl ent173 (fun w' hC hG=>Yi p (gCl p) rfl _ _ w' hG (aH (n:=4) rfl w' hC))<|Sa 2 hGF rfl rfl rfl co<|aa<|am<|Rr<|?_
 exact av 2 rfl rfl rfl isAgg80 sizeOf80 sm (fun w hw=>⟨rfl,ac hw⟩)
def PE2(f:Nat→W2):List (List Value):=(List.range 2).map fun (k:Nat)=>[EV2 (f k)]
theorem uj(f:Nat→W2):(PE2 f).length=2:=by rw[PE2,List.length_map,List.length_range]
theorem A6(f:Nat→W2)(k:Nat)(h:k<2):(PE2 f)[k]? =some [EV2 (f k)]:=by
 rw[PE2,List.getElem?_map,List.getElem?_range h];rfl
theorem RE(f:Nat→W2)(k:Nat)(v:List Value)(h:(PE2 f)[k]? =some v):k<2∧v=[EV2 (f k)]:=by
 have hk:k<2:=by
  rcases Nat.lt_or_ge k 2 with hk|hk
  ·exact hk
  ·rw[List.getElem?_eq_none (by rw[uj];exact hk)]at h;cases h
 exact ⟨hk,(Option.some.inj ((A6 f k hk).symm.trans h)).symm⟩
def RdE(bb b cap:Nat)(f:Nat→W2):Cls:=fun w=>w.cell? ⟨bb,0,none⟩=some (.slice (spt b) 2 cap)∧w.rangeAt b 0 ((RW 12 (RPr f) 2).map U64)
theorem qI(bb b cap:Nat)(f:Nat→W2):fV prog Gt 172 [pnt bb] (PE2 f) (RdE bb b cap f):=by
 intro l J Jx hJ hJx hRd hGx hY w hj
 have okJ: ∀k,BOk Gt (Bi w (fun Y=>J Y k)):=fun k=>⟨fun _ _ _ h=>(hRd _ _ _ h.rid).1,hJ k⟩
 have okX: ∀k,BOk Gt (Bi w (fun Y=>Jx Y k)):=fun k=>⟨fun _ _ _ h=>hGx _ _ _ h.rid,hJx k⟩
 have c1: ∀k L w',Hp (Bi w (fun Y=>J Y k)) L w'→RdE bb b cap f w':=fun k L w' h=>(hRd _ _ _ h.rid).2
 refine cx (G:=Gt) func172 rfl rfl (Hp (Bi w (fun Y=>J Y 0)) []) (cm (Bi w _) hj (hJ 0)) (aA (okJ 0))<|Xp<|bT rfl isAgg218 (fun w h=>(c1 _ _ w h).1) rfl rfl<|bi rfl (fun _=>aI underlying218 _ _ _ _) rfl rfl<|Mv rfl<|aa<|ai<|gQ (ι:={i:Nat // i≤2}) (fun y=>[(0,.func (.yield l) #[] #[]),(1,pnt bb),(5,.slice (spt b) 2 cap),(6,I ((2:Nat):Int)),(7,I (y.1:Int))]) (fun y=>Bi w (fun Y=>J Y y.1)) (fun y=>[]) (fun y=>2-y.1) ⟨0,Nat.zero_le _⟩ (fun _=>okJ _) rfl trv trivial<|?_
 rintro ⟨i,hi⟩
 dsimp only
 refine Xp<|Bnr rfl rfl (fun _=>az _ _ _)<|aa<|ah<|?_
 refine bG rfl (fun hc=> ?_) (fun hc=> ?_)
 ·have hi2:i<2:=by simp at hc;omega
  refine aq<|ah<|ai<|Xp<|iZ (s:=12) i rfl rfl underlying218 sizeOf78 om om rfl rfl<|da (cs:=(fe (f i).1++fe (f i).2).map U64) rfl isAgg78 sizeOf78 sm (fun w h=>gL (c1 _ _ w h).2 om (dK _ _)) rfl rfl<|Al 4 (okJ _) zv78<|fun b4=>Sa 4 (okJ _) rfl rfl rfl aZ<|aa<|Xp<|Mv rfl<|La 4 rfl rfl aZ<|?_
  refine dC (hY.b (k:=i) (A6 f i om) w) (okJ _) (okX _) rfl rfl rfl rfl rfl ?_ ?_
  ·refine bu rfl (fun _=>a9 _) rfl rfl<|aa<|aC rfl<|aq<|Xq<|Bnr rfl rfl (fun _=>au _ _ _ oi)<|Mv rfl<|aa<|?_
   repeat (refine aP ?_)
   exact aD<|⟨rfl,⟨i+1,om⟩,_,by show 2-(i+1)<2-i;omega,rfl,trv,trivial⟩
  ·refine bu rfl (fun _=>a9 _) rfl rfl<|aa<|aR rfl<|am<|Rr<|?_
   repeat (first|refine dH ?_|refine cq ?_|refine dS rfl ?_|refine bP ?_|refine bR ?_)
   exact dv rfl (fun w hw=>⟨⟨_,rfl⟩,.inr ⟨_,cg (hJx _) hw.rid⟩⟩)
 ·obtain rfl:i=2:=by simp at hc;omega
  refine aW ?_
  repeat (first|refine dH ?_|refine cq ?_|refine dS rfl ?_|refine bP ?_|refine bR ?_)
  refine cQ rfl (fun w hw=>⟨⟨_,rfl⟩,.inl ?_⟩)
  have:=cg (hJ _) hw.rid
  rw[uj]
  exact this
theorem Pu{u:W2}{A:W2×W2}(h:SwA u A): ∃p:GP,p.P=some A∧PUR 174 [EV2 u] (PtV p):=by
 obtain ⟨x,r,s,rfl⟩:=h
 exact ⟨_,rfl,pmap s⟩
def gS(p:Nat→GP):Nat→GP
 |0=>gInf
 |k+1=>Is (gS p k) (p k)
theorem gS_P{p:Nat→GP}{A B:W2×W2}(h0:(p 0).P=some A)(h1:(p 1).P=some B):(gS p 2).P=E2w.ad (some A) (some B):=by
 show E2w.ad (E2w.ad none (p 0).P) (p 1).P=_
 rw[h0,h1];rfl
theorem Ml(msg dst:L8)(hbad:Xm.FBad msg dst 2)(a1:Option Addr)(cap1:Nat)(a2:Option Addr)(cap2:Nat)(w:World)(hl1:msg.length≤65600)(hc1:msg.length≤cap1)(hl2:dst.length≤1000)(hc2:dst.length≤cap2)(hw:Gt w)(hb1:BytesAt w a1 msg)(hb2:BytesAt w a2 dst):CLS 124 [.slice a1 msg.length cap1,.slice a2 dst.length cap2].toArray w (fun e w'=>e=.returned (.tuple #[.nilFunc,I 130])∧Grow w w'):=by
 refine Hf func124 rfl hw<|fun hGF=>ae (E:=EE [171,2000171])<|Asg rfl<|Asg rfl<|aa<|ae (E:=EE [171,2000171])<|Mv rfl<|Mv rfl<|?_
 refine bQ rfl rfl ent171 rfl rfl (fun w' hw'=>(Xm.pfc a1 cap1 msg a2 cap2 dst 2 w' om hc1 om hc2 (hGF.g _ _ _ hw') (hb1.grow (ac hw')) (hb2.grow (ac hw'))).mono fun e w'' h=> ?_)
 obtain ⟨v,rfl,hg,hq⟩:=h
 obtain rfl:=hq.bad hbad
 refine ⟨_,_,rfl,aA hGF,hw'.grow ao hg,fun _ h=>h, ?_⟩
 clear hq hg hw'
 refine Mv rfl<|Ext rfl rfl<|Ext rfl rfl<|iw 6 hGF zeroValue218 rfl rfl<|fun b6=>d8 6 hGF rfl rfl rfl sizeOf218 rfl dc rfl<|Asg rfl<|aa<|ah<|ae (E:=EE [171,2000171])<|Mv rfl<|Bnb true rfl rfl (fun _=>bF _ _ _) (rfl)<|aa<|aR rfl<|ae (E:=EE [171,2000171])<|Mv rfl<|Asg rfl<|Asg rfl<|aa<|am<|Rr<|?_
 exact cj rfl rfl rfl (fun w hw=>⟨rfl,ac hw⟩)
theorem Ux(msg dst:L8)(hbad: ¬Xm.FBad msg dst 2)(a1:Option Addr)(cap1:Nat)(a2:Option Addr)(cap2:Nat)(w:World)(hl1:msg.length≤65600)(hc1:msg.length≤cap1)(hl2:dst.length≤1000)(hc2:dst.length≤cap2)(hw:Gt w)(hb1:BytesAt w a1 msg)(hb2:BytesAt w a2 dst):CLS 124 [.slice a1 msg.length cap1,.slice a2 dst.length cap2].toArray w (fun e w'=> ∃b cap b1,e=.returned (.tuple #[.func (.func 172) #[] #[pnt b1],I 0])∧Grow w w'∧w.heap.size≤b∧w'.rangeAt b 0 (U2c msg dst)∧w.heap.size≤b1∧w'.rangeAt b1 0 [.slice (spt b) 2 cap]):=by
 refine Hf func124 rfl hw<|fun hGF=>ae (E:=EE [171,2000171])<|Asg rfl<|Asg rfl<|aa<|ae (E:=EE [171,2000171])<|Mv rfl<|Mv rfl<|?_
 refine bQ rfl rfl ent171 rfl rfl (fun w' hw'=>(Xm.pfc a1 cap1 msg a2 cap2 dst 2 w' om hc1 om hc2 (hGF.g _ _ _ hw') (hb1.grow (ac hw')) (hb2.grow (ac hw'))).mono fun e w'' h=> ?_)
 obtain ⟨v,rfl,hg,hq⟩:=h
 obtain ⟨b,cap,rfl,hbs,hbr⟩:=tM hq hbad
 refine ⟨_,_,rfl,aA (nL hGF),FC hw' ao hg hbs (y9 hbr) hbr,fun _ h=>jS h, ?_⟩
 have hbs0:w.heap.size≤b:=Nat.le_trans (ac hw').size hbs
 clear hq hg hw' hbs hbr
 refine Mv rfl<|Ext rfl rfl<|Ext rfl rfl<|iw 6 (nL hGF) zeroValue218 rfl rfl<|fun b6=>d8 6 (nL hGF) rfl rfl rfl sizeOf218 rfl dc rfl<|Asg rfl<|aa<|ah<|ae (E:=EE [171,2000171])<|Mv rfl<|Bnb false rfl rfl (fun _=>bF _ _ _) (rfl)<|aa<|aC rfl<|aq<|ae (E:=EE [171,2000171])<|gz rfl rfl rfl rfl<|Asg rfl<|Asg rfl<|aa<|am<|Rr<|?_
 exact cj rfl rfl rfl (fun w hw=>⟨b,cap,b6,rfl,hbl hw,hbs0,xA hw,(hw.own 6 b6 _ _ rfl).2.elim id False.elim,(hw.own 6 b6 _ _ rfl).1.range⟩)
theorem EF(f:Nat→W2)(p:Nat→GP)(hm0: ∀k,k<2→PUR 174 [EV2 (f k)] (PtV (p k)))(b1 b cap:Nat)(w:World)(hw:Gt w)(hRs: ∀w',Grow w w'→RdE b1 b cap f w'):
 CLS 126 [.func (.func 172) #[] #[pnt b1]].toArray w (fun r w'=>r=.returned (PtV (gS p 2))∧Grow w w'):=by
 have hGF:BOk Gt (pl w):=gt_low.plain hw
 refine cz (G:=Gt) func126 rfl rfl (Hp (pl w) []) (cm (pl w) trivial ao) (aA hGF)<|Xp<|Al 2 hGF zv80<|fun b2=>aa<|Xp<|Al 3 hGF zv80<|fun b3=>aa<|ah<|Xp<|Mv rfl<|aa<|ai<|?_
 refine ft (fun _=>pl w) (fun _ _=>pl w) (fun _=>hGF) (fun _ _=>hGF) (fun _=>rfl) (fun _ _=>rfl) rfl rfl ent172 (qI b1 b cap f) (fun x hx=>by obtain ⟨k,hk,rfl⟩:=List.mem_map.1 hx;rfl) rfl (fun k=>[(2,b2,(GL (gInf)).map U64,80),(3,b3,(GL (gS p k)).map U64,80)]) (fun _ _ _=>False) trv (fun k _ w' h=>hRs w' (h.below (fun _ h=>h))) ?_ ?_ (fun _ _ _ _ _ h=>h.elim)
 ·intro k v hx R hR
  obtain ⟨hk,rfl⟩:=RE f k v hx
  have hm:=hm0 k hk
  refine Xq<|dX 4 (hR (pl w) rfl hGF).1 zv78 rfl rfl<|fun b4=>aw 4 (hR (pl w) rfl hGF).1 rfl rfl rfl sizeOf78 sm sm (be _) rfl<|aa<|?_
  refine ⟨rfl,_,rfl, ?_⟩
  refine ai<|Xe []<|La 3 rfl rfl co<|La 4 rfl rfl aZ<|Ca rfl (hm)<|Ca rfl (Ig _ _)<|aw 3 (hR (pl w) rfl hGF).2.1 rfl rfl rfl sizeOf80 sm sm (be _) rfl<|aa<|?_
  repeat (refine aP ?_)
  exact ⟨_,rfl,trv⟩
 ·intro D hD
  rw[uj]
  refine Xp<|La 3 rfl rfl co<|Sa 2 hD rfl rfl rfl co<|aa<|am<|Rr<|?_
  exact d9 (.inl rfl) ao (av 2 rfl rfl rfl isAgg80 sizeOf80 sm (fun w hw=>⟨rfl,ac hw⟩))
theorem R0{B:Bs}{L:Hl}{Y:Nat→Prop}{w w':World}{b d:Nat}{cs ds:List Value}(h:Hq B L Y w)(hr:Rides B.J)(hg:Grow w w')(hb:w.heap.size≤b)(hb':b<w'.heap.size)(hc:w'.rangeAt b 0 cs)(hd:w.heap.size≤d)(hd':d<w'.heap.size)(he:w'.rangeAt d 0 ds):Hq (pj (pj B b cs) d ds) L Y w':=by
 have k:=FC h hr hg hb hb' hc
 refine ⟨k.os,k.tape,k.output,k.size,k.keep,k.own,k.inj,k.apart,k.high,k.lt,k.rid,fun e=> ?_,hd',he⟩
 rcases e with e|e
 ·have:=h.ownlt e;omega
 ·have:=h.lt _ e;omega
theorem Si{w w':World}{b1 b cap:Nat}{f:Nat→W2}(h1:w.rangeAt b1 0 [.slice (spt b) 2 cap])(h2:w.rangeAt b 0 ((RW 12 (RPr f) 2).map U64))(hg:Grow w w'):RdE b1 b cap f w':=⟨(nO h1 hg) 0 _ rfl,nO h2 hg⟩
theorem Eu(msg dst:L8)(hbad:Xm.FBad msg dst 2)(a1:Option Addr)(cap1:Nat)(a2:Option Addr)(cap2:Nat)(w:World)(hl1:msg.length≤65600)(hc1:msg.length≤cap1)(hl2:dst.length≤1000)(hc2:dst.length≤cap2)(hw:Gt w)(hb1:BytesAt w a1 msg)(hb2:BytesAt w a2 dst):CLS 78 [.slice a1 msg.length cap1,.slice a2 dst.length cap2].toArray w (fun e w'=>e=.returned (.tuple #[PtV gInf,I 130])∧Grow w w'):=by
 refine Hf func78 rfl hw<|fun hGF=>ae (E:=EE [124,2000124])<|Al 4 hGF zv80<|fun b4=>Asg rfl<|aa<|ae (E:=EE [124,2000124])<|Mv rfl<|Mv rfl<|?_
 refine bQ rfl rfl ent124 rfl rfl (fun w' hw'=>(Ml msg dst hbad a1 cap1 a2 cap2 w' hl1 hc1 hl2 hc2 (hGF.g _ _ _ hw') (hb1.grow (ac hw')) (hb2.grow (ac hw'))).mono fun e w'' h=> ?_)
 obtain ⟨rfl,hg⟩:=h
 refine ⟨_,_,rfl,aA hGF,hw'.grow ao hg,fun _ h=>h, ?_⟩
 clear hg hw'
 refine Mv rfl<|Ext rfl rfl<|Ext rfl rfl<|Asg rfl<|Asg rfl<|aa<|ah<|ae (E:=EE [124,2000124])<|Mv rfl<|Bnb true rfl rfl (fun _=>bF _ _ _) (rfl)<|aa<|aR rfl<|ae (E:=EE [124,2000124])<|j8 pP rfl rfl<|Mv rfl<|Sa 4 hGF rfl rfl rfl co<|Asg rfl<|aa<|am<|Rr<|?_
 exact a8 4 rfl rfl rfl rfl isAgg80 sizeOf80 sm (fun w hw=>⟨rfl,ac hw⟩)
theorem Ft(msg dst:L8)(hbad: ¬Xm.FBad msg dst 2)(p:Nat→GP)(hm0: ∀k,k<2→PUR 174 [EV2 (U2n msg dst k)] (PtV (p k)))(a1:Option Addr)(cap1:Nat)(a2:Option Addr)(cap2:Nat)(w:World)(hl1:msg.length≤65600)(hc1:msg.length≤cap1)(hl2:dst.length≤1000)(hc2:dst.length≤cap2)(hw:Gt w)(hb1:BytesAt w a1 msg)(hb2:BytesAt w a2 dst):CLS 78 [.slice a1 msg.length cap1,.slice a2 dst.length cap2].toArray w (fun e w'=>e=.returned (.tuple #[PtV (gCl (gS p 2)),I 0])∧Grow w w'):=by
 refine Hf func78 rfl hw<|fun hGF=>ae (E:=EE [124,2000124])<|Al 4 hGF zv80<|fun b4=>Asg rfl<|aa<|ae (E:=EE [124,2000124])<|Mv rfl<|Mv rfl<|?_
 refine bQ rfl rfl ent124 rfl rfl (fun w' hw'=>(Ux msg dst hbad a1 cap1 a2 cap2 w' hl1 hc1 hl2 hc2 (hGF.g _ _ _ hw') (hb1.grow (ac hw')) (hb2.grow (ac hw'))).mono fun e w'' h=> ?_)
 obtain ⟨b,cap,b1,rfl,hg,hbs,hbr,hds,hdr⟩:=h
 refine ⟨_,_,rfl,aA (nL (nL hGF)),R0 hw' ao hg hbs (y9 hbr) hbr hds (block_lt_of_cell (hdr 0 _ rfl)) hdr,fun _ h=>jS (jS h), ?_⟩
 clear hg hw' hbs hbr hds hdr
 refine Mv rfl<|Ext rfl rfl<|Ext rfl rfl<|Asg rfl<|Asg rfl<|aa<|ah<|ae (E:=EE [124,2000124])<|Mv rfl<|Bnb false rfl rfl (fun _=>bF _ _ _) (rfl)<|aa<|aC rfl<|aq<|ae (E:=EE [124,2000124])<|Mv rfl<|Cc rfl ent126 (fun w' hC hG=>EF (U2n msg dst) p hm0 b1 b cap w' hG (fun w'' hg=>Si (xA hC) (xA (jS hC)) hg))<|Ca rfl (Ua _)<|Sa 4 (nL (nL hGF)) rfl rfl rfl co<|Asg rfl<|aa<|am<|Rr<|?_
 exact a8 4 rfl rfl rfl rfl isAgg80 sizeOf80 sm (fun w hw=>⟨rfl,hbl hw⟩)
theorem phs:PHs:=by
 refine ⟨fun msg dst hb=>⟨gInf,rfl,fun a1 cap1 a2 cap2 w=>Eu msg dst hb a1 cap1 a2 cap2 w⟩,fun msg dst A B hb h=> ?_⟩
 obtain ⟨p0,e0,h0⟩:=Pu h.s0
 obtain ⟨p1,e1,h1⟩:=Pu h.s1
 refine ⟨gCl (gS (fun k=>if k=0 then p0 else p1) 2), ?_,fun a1 cap1 a2 cap2 w=>Ft msg dst hb _ (fun k hk=> ?_) a1 cap1 a2 cap2 w⟩
 ·rw[Xh,gS_P (A:=A) (B:=B) e0 e1]
 ·match k,hk with
  |0,_=>exact h0
  |1,_=>exact h1
end
section
open Go.RowKit
theorem eS(P:Pt Zp):(EN1 P).length=48:=by
 cases P with
 |none=>rfl
 |some p=>exact (pI _ _).trans (aO _)
theorem fE(P:Pt W2):(EN2 P).length=96:=by
 cases P with
 |none=>rfl
 |some p=>exact (pI _ _).trans (by rw[List.length_append,aO,aO])
attribute [local simp] a7 bv aJ aB aQ a5 aT aK aO bf bC a6 bz J1.bE J2.bE cf fC eS fE
attribute [local simp] gc
theorem ent8:ak prog 8:=fun _ _=>kr
theorem ent14:ak prog 14:=fun _ _=>kr
theorem ent27:ak prog 27:=fun _ _=>kr
theorem ent26:ak prog 26:=fun _ _=>kr
theorem ent25:ak prog 25:=fun _ _=>kr
theorem ent62:ak prog 62:=fun _ _=>kr
theorem ent34:ak prog 34:=fun _ _=>kr
theorem ent61:ak prog 61:=fun _ _=>kr
theorem ent109:ak prog 109:=fun _ _=>kr
theorem ent160:ak prog 160:=fun _ _=>kr
theorem zv30(w:World):(zeroValue 30).run prog w=.ok (.agg ((List.replicate 48 (0#8)).map U8).toArray) w:=(zeroValue30 w).trans rr
theorem zv33(w:World):(zeroValue 33).run prog w=.ok (.agg ((List.replicate 96 (0#8)).map U8).toArray) w:=(zeroValue33 w).trans rr
theorem UH(x:Zr):PUR 7 [RV x] (.agg ((EN1 (J1.sJ J1.yF x).P).map U8).toArray):=by
 intro w hw
 refine Hf func7 rfl hw<|fun hGF=>Xp<|Bx 1 hGF rfl<|fun b1=>Al 2 hGF zv30<|fun b2=>aa<|Xd []<|Ca rfl (J1.I8)<|La 1 rfl rfl iO<|Ca rfl (J1.vK _ x)<|Ca rfl (QS _)<|aw 2 hGF rfl rfl rfl sizeOf30 (by simp[*]) sm (bH _) rfl<|aa<|am<|Rr<|?_
 exact av 2 rfl rfl rfl isAgg30 sizeOf30 sm (fun w hw=>⟨rfl,ac hw⟩)
theorem ZS:SUb.data.toList=SUs.map (fun x=>UInt8.ofBitVec x):=rfl
def HsC(msg:L8)(p:J2.GP)(c:Int):Prop:= ∀(a1:Option Addr) (cap1:Nat) (a2:Option Addr) (cap2:Nat) (w:World),msg.length≤65600→msg.length≤cap1→SUs.length≤1000→SUs.length≤cap2→Gt w→BytesAt w a1 msg→BytesAt w a2 SUs→CLS 78 [.slice a1 msg.length cap1,.slice a2 SUs.length cap2].toArray w (fun e w'=>e=.returned (.tuple #[J2.PtV p,I c])∧Grow w w')
structure Ms(msg:L8)(p:J2.GP)(c:Int):Prop where
 h:HsC msg p c
 r:E2w.times p.P ORD=none
theorem Vg(msg:L8)(p:J2.GP)(c:Int)(hM:Ms msg p c)(a:Option Addr)(cap:Nat)(w:World)(hl:msg.length≤65600)(hc:msg.length≤cap)(hw:Gt w)(hb:BytesAt w a msg):CLS 34 [.slice a msg.length cap].toArray w (fun r w'=>r=.returned (.tuple #[J2.PtV p,I c])∧Grow w w'):=by
 refine Hf func34 rfl hw<|fun hGF=>ae (E:=EE [1000022])<|Al 2 hGF J2.zv80<|fun b2=>Asg rfl<|aa<|ae (E:=EE [1000022])<|Mv rfl<|Ca rfl (QU)<|?_
 refine yH 6 (xs:=SUs) rfl hGF rfl underlying9 underlying22 underlying5 ZS rfl rfl (fun b6 c6 k6 e6 l6 t6=> ?_)
 refine Cc rfl ent78 (fun w' hC hG=>hM.h a cap _ _ w' hl hc dc l6 hG (hb.grow (ac hC)) (cH (aH (n:=6) rfl w' hC) t6))<|Ext rfl rfl<|Ext rfl rfl<|Sa 2 hGF rfl rfl rfl co<|Asg rfl<|aa<|am<|Rr<|?_
 exact a8 2 rfl rfl rfl rfl isAgg80 sizeOf80 sm (fun w hw=>⟨rfl,ac hw⟩)
theorem wN(x:Zr)(msg:L8)(p:J2.GP)(hM:Ms msg p 0)(a:Option Addr)(cap:Nat)(w:World)(hl:msg.length≤65600)(hc:msg.length≤cap)(hw:Gt w)(hb:BytesAt w a msg):CLS 8 [RV x,.slice a msg.length cap].toArray w (fun r w'=>r=.returned (.tuple #[.agg ((EN2 (J2.sJ p x).P).map U8).toArray,I 0])∧Grow w w'):=by
 refine Hf func8 rfl hw<|fun hGF=>Xp<|Bx 2 hGF rfl<|fun b2=>Al 4 hGF zv33<|fun b4=>Asg rfl<|aa<|Xp<|Mv rfl<|Cc rfl ent34 (fun w' hC hG=>Vg msg p _ hM a cap w' hl hc hG (hb.grow (ac hC)))<|Mv rfl<|Ext rfl rfl<|Ext rfl rfl<|Al 6 hGF J2.zv80<|fun b6=>Sa 6 hGF rfl rfl rfl co<|Asg rfl<|aa<|ah<|Xp<|Mv rfl<|Bnb false rfl rfl (fun _=>bF _ _ _) (rfl)<|aa<|aC rfl<|aq<|Xp<|La 6 rfl rfl co<|La 2 rfl rfl iO<|Ca rfl (J2.vK _ x)<|Ca rfl (R3 _)<|aw 4 hGF rfl rfl rfl sizeOf33 (by simp[*]) sm (bH _) rfl<|Asg rfl<|aa<|am<|Rr<|?_
 exact a8 4 rfl rfl rfl rfl isAgg33 sizeOf33 sm (fun w hw=>⟨rfl,ac hw⟩)
theorem Me(bs:L8)(hn:bs.length=48)(P:Pt Zp)(h0:P=none)(hD:D1 bs 0 P):PUR 14 [.agg ((bs).map U8).toArray] (.tuple #[J1.PtV J1.gInf,I 160]):=by
 intro w hw
 refine Hf func14 rfl hw<|fun hGF=>Xp<|Bx 1 hGF rfl<|fun b1=>Al 2 hGF J1.zv54<|fun b2=>Asg rfl<|aa<|Xp<|bD (l:=0) (h':=48) rfl underlying30 sizeOf5 rfl rfl dc dc rfl rfl<|Cc rfl ent45 (fun w' hC hG=>Gf _ 48 48 bs hn _ P hD dc w' hG (BytesAt.range (aH (n:=1) rfl w' hC)))<|Mv rfl<|Ext rfl rfl<|Ext rfl rfl<|Al 4 hGF J1.zv54<|fun b4=>Sa 4 hGF rfl rfl rfl cn<|Asg rfl<|aa<|ah<|ai<|Xp<|Mv rfl<|Bnb false rfl rfl (fun _=>bF _ _ _) (rfl)<|Asg rfl<|aa<|aC rfl<|Xp<|La 4 rfl rfl cn<|Cbl true rfl ent20 (J1.pR _) (decide_eq_true h0)<|Asg rfl<|aa<|aR rfl<|Xp<|Ca rfl (J1.ma)<|Sa 2 hGF rfl rfl rfl cn<|Asg rfl<|aa<|am<|Rr<|?_
 exact a8 2 rfl rfl rfl rfl isAgg54 sizeOf54 sm (fun w hw=>⟨rfl,ac hw⟩)
theorem SX(bs:L8)(hn:bs.length=48)(P:Pt Zp)(h0: ¬P=none)(hD:D1 bs 0 P):PUR 14 [.agg ((bs).map U8).toArray] (.tuple #[J1.PtV (cA1 P (oI hD)),I 0]):=by
 intro w hw
 refine Hf func14 rfl hw<|fun hGF=>Xp<|Bx 1 hGF rfl<|fun b1=>Al 2 hGF J1.zv54<|fun b2=>Asg rfl<|aa<|Xp<|bD (l:=0) (h':=48) rfl underlying30 sizeOf5 rfl rfl dc dc rfl rfl<|Cc rfl ent45 (fun w' hC hG=>Gf _ 48 48 bs hn _ P hD dc w' hG (BytesAt.range (aH (n:=1) rfl w' hC)))<|Mv rfl<|Ext rfl rfl<|Ext rfl rfl<|Al 4 hGF J1.zv54<|fun b4=>Sa 4 hGF rfl rfl rfl cn<|Asg rfl<|aa<|ah<|ai<|Xp<|Mv rfl<|Bnb false rfl rfl (fun _=>bF _ _ _) (rfl)<|Asg rfl<|aa<|aC rfl<|Xp<|La 4 rfl rfl cn<|Cbl false rfl ent20 (J1.pR _) (decide_eq_false h0)<|Asg rfl<|aa<|aC rfl<|aq<|Xp<|La 4 rfl rfl cn<|Sa 2 hGF rfl rfl rfl cn<|Asg rfl<|aa<|am<|Rr<|?_
 exact a8 2 rfl rfl rfl rfl isAgg54 sizeOf54 sm (fun w hw=>⟨rfl,ac hw⟩)
theorem Z2(bs:L8)(hn:bs.length=96)(c:Int)(P:Pt W2)(hD:D2 bs c P):PUR 110 [.agg ((bs).map U8).toArray] (.tuple #[J2.PtV (cA2 P (oG hD)),I c]):=by
 intro w hw
 refine Hf func110 rfl hw<|fun hGF=>Xp<|Bx 1 hGF rfl<|fun b1=>Al 2 hGF J2.zv80<|fun b2=>Asg rfl<|aa<|Xp<|bD (l:=0) (h':=96) rfl underlying33 sizeOf5 rfl rfl dc dc rfl rfl<|Cc rfl ent161 (fun w' hC hG=>RY _ 96 96 bs hn _ P hD dc w' hG (BytesAt.range (aH (n:=1) rfl w' hC)))<|Ext rfl rfl<|Ext rfl rfl<|Sa 2 hGF rfl rfl rfl co<|Asg rfl<|aa<|am<|Rr<|?_
 exact a8 2 rfl rfl rfl rfl isAgg80 sizeOf80 sm (fun w hw=>⟨rfl,ac hw⟩)
end
section
open Go.RowKit
attribute [local simp] a7 bv aJ aB aQ a5 aT aK aO bf bC a6 bz J1.bE J2.bE cf fC eS fE
attribute [local simp] gc
theorem Lz{w w':World}{b o:Nat}{c:List Value}(h:w.rangeAt b o c)(hg:Grow w w'):w'.rangeAt b o c:=fun j v hv=>(hg.cell (block_lt_of_cell (h j v hv))).trans (h j v hv)
theorem tQ{n m x y:Nat}{c d:List Value}{s t:TypeId}(hx:x≠y): ∀n' m' b c1 t1 c2 t2,lkB [(n,x,c,s),(m,y,d,t)] n'=some (b,c1,t1)→lkB [(n,x,c,s),(m,y,d,t)] m'=some (b,c2,t2)→n'=m':=by
 intro n' m' b c1 t1 c2 t2 h1 h2
 rcases aL h1 with ⟨e1,k1⟩|⟨_,h1⟩
 ·rcases aL h2 with ⟨e2,_⟩|⟨_,h2⟩
  ·exact e1.trans e2.symm
  ·rcases aL h2 with ⟨_,k2⟩|⟨_,h2⟩
   ·cases k1;cases k2;exact absurd rfl hx
   ·cases h2
 ·rcases aL h1 with ⟨e1,k1⟩|⟨_,h1⟩
  ·rcases aL h2 with ⟨_,k2⟩|⟨_,h2⟩
   ·cases k1;cases k2;exact absurd rfl hx
   ·rcases aL h2 with ⟨e2,_⟩|⟨_,h2⟩
    ·exact e1.trans e2.symm
    ·cases h2
  ·cases h1
def KsAt(w:World)(b s n:Nat)(K:Nat→L8):Prop:= ∀i,i<n→w.rangeAt b (0+s*i) ((K i).map U8)
theorem KsAt.up{w w':World}{b s n:Nat}{K:Nat→L8}(h:KsAt w b s n K)(hg:Grow w w'):KsAt w' b s n K:=fun i hi=>Lz (h i hi) hg
namespace J1
def gSm(p:Nat→GP):Nat→GP
 |0=>gInf
 |i+1=>Is (gSm p i) (p i)
def PEs(p:Nat→GP)(e:Nat→Int)(n:Nat):List (List Value):=(List.range n).map fun (k:Nat)=>[PtV (p k),I (e k)]
theorem tR(p:Nat→GP)(e:Nat→Int)(n:Nat):(PEs p e n).length=n:=by rw[PEs,List.length_map,List.length_range]
theorem Df(p:Nat→GP)(e:Nat→Int){n k:Nat}(h:k<n):(PEs p e n)[k]? =some [PtV (p k),I (e k)]:=by
 rw[PEs,List.getElem?_map,List.getElem?_range h];rfl
theorem Qu(p:Nat→GP)(e:Nat→Int){n k:Nat}{v:List Value}(h:(PEs p e n)[k]? =some v):k<n∧v=[PtV (p k),I (e k)]:=by
 have hk:k<n:=by
  rcases Nat.lt_or_ge k n with hk|hk
  ·exact hk
  ·rw[List.getElem?_eq_none (by rw[tR];exact hk)]at h;cases h
 exact ⟨hk,(Option.some.inj ((Df p e hk).symm.trans h)).symm⟩
structure RdK(b1 b2 b cap n:Nat)(K:Nat→L8)(w:World):Prop where
 l:w.cell? ⟨b1,0,none⟩=some (.slice (spt b) n cap)
 f:w.cell? ⟨b2,0,none⟩=some (.func (.func 14) #[] #[])
 k:KsAt w b 48 n K
def Vd(K:Nat→L8)(p:Nat→GP)(e:Nat→Int)(n:Nat):Prop:= ∀i,i<n→(K i).length=48∧PUR 14 [.agg ((K i).map U8).toArray] (.tuple #[PtV (p i),I (e i)])
theorem Vk(a:Option Addr)(l c f:Nat)(w:World)(hw:Gt w):CLS 109 [.slice a l c,.func (.func f) #[] #[]].toArray w (fun e w'=> ∃b1 b2,e=.returned (.func (.func 160) #[] #[pnt b1,pnt b2])∧Grow w w'∧w.heap.size≤b1∧w.heap.size≤b2∧b1≠b2∧OwnB w' b1 [.slice a l c] 65∧OwnB w' b2 [.func (.func f) #[] #[]] 56):=by
 refine Hf func109 rfl hw<|fun hGF=>Xp<|i9 2 hGF rfl rfl rfl<|fun b2=>i9 3 hGF rfl rfl rfl<|fun b3=>Asg rfl<|aa<|Xp<|gz rfl rfl rfl rfl<|Asg rfl<|aa<|am<|Rr<|?_
 exact aG rfl rfl (fun w hw=>⟨b2,b3,rfl,ac hw,(hw.own 2 b2 _ _ rfl).2.elim id False.elim,(hw.own 3 b3 _ _ rfl).2.elim id False.elim,fun e=>(by subst e;exact absurd (hw.inj 2 3 _ _ _ _ _ rfl rfl) dc),(hw.own 2 b2 _ _ rfl).1,(hw.own 3 b3 _ _ rfl).1⟩)
theorem qI(b1 b2 b cap n:Nat)(hn:n≤1000)(K:Nat→L8)(p:Nat→GP)(e:Nat→Int)(hP:Vd K p e n):fV prog Gt 160 [pnt b1,pnt b2] (PEs p e n) (RdK b1 b2 b cap n K):=by
 intro l J Jx hJ hJx hRd hGx hY w hj
 have okJ: ∀k,BOk Gt (Bi w (fun Y=>J Y k)):=fun k=>⟨fun _ _ _ h=>(hRd _ _ _ h.rid).1,hJ k⟩
 have okX: ∀k,BOk Gt (Bi w (fun Y=>Jx Y k)):=fun k=>⟨fun _ _ _ h=>hGx _ _ _ h.rid,hJx k⟩
 have c1: ∀k L w',Hp (Bi w (fun Y=>J Y k)) L w'→RdK b1 b2 b cap n K w':=fun k L w' h=>(hRd _ _ _ h.rid).2
 refine cx (G:=Gt) func160 rfl rfl (Hp (Bi w (fun Y=>J Y 0)) []) (cm (Bi w _) hj (hJ 0)) (aA (okJ 0))<|Xp<|bT rfl isAgg65 (fun w h=>(c1 _ _ w h).l) rfl rfl<|bi rfl (fun _=>aI underlying65 _ _ _ _) rfl rfl<|Mv rfl<|aa<|ai<|gQ (ι:={i:Nat // i≤n}) (fun y=>[(0,.func (.yield l) #[] #[]),(1,pnt b1),(2,pnt b2),(6,.slice (spt b) n cap),(7,I (n:Int)),(8,I (y.1:Int))]) (fun y=>Bi w (fun Y=>J Y y.1)) (fun y=>[]) (fun y=>n-y.1) ⟨0,Nat.zero_le _⟩ (fun _=>okJ _) rfl trv trivial<|?_
 rintro ⟨i,hi⟩
 dsimp only
 refine Xp<|Bnr rfl rfl (fun _=>az _ _ _)<|aa<|ah<|?_
 refine bG rfl (fun hc=> ?_) (fun hc=> ?_)
 ·have hi2:i<n:=by simp at hc;omega
  refine aq<|ah<|ai<|Xp<|iZ (s:=48) i rfl rfl underlying65 sizeOf30 om om rfl rfl<|?_
  have hKi:=(hP i hi2).1
  refine da (cs:=(K i).map U8) rfl isAgg30 sizeOf30 (by rw[List.length_map];exact hKi) (fun w h=>(c1 _ _ w h).k i hi2) rfl rfl<|Al 5 (okJ _) zv30<|fun b5=>aw 5 (okJ _) rfl rfl rfl sizeOf30 (by rw[List.length_map];exact hKi) sm (bH _) rfl<|aa<|Xp<|Mv rfl<|bT rfl isAgg56 (fun w h=>(c1 _ _ w h).f) rfl rfl<|bY 5 rfl rfl isAgg30 sizeOf30 (by rw[List.length_map];exact hKi) rfl rfl<|Kb rfl rfl ent14 (hP i hi2).2 (okJ _) rfl rfl rfl<|Ext rfl rfl<|Ext rfl rfl<|?_
  refine dC (hY.b (k:=i) (Df p e hi2) w) (okJ _) (okX _) rfl rfl rfl rfl rfl ?_ ?_
  ·refine bu rfl (fun _=>a9 _) rfl rfl<|aa<|aC rfl<|aq<|Xq<|Bnr rfl rfl (fun _=>au _ _ _ oi)<|Mv rfl<|aa<|?_
   repeat (refine aP ?_)
   exact aD<|⟨rfl,⟨i+1,om⟩,_,by show n-(i+1)<n-i;omega,rfl,trv,trivial⟩
  ·refine bu rfl (fun _=>a9 _) rfl rfl<|aa<|aR rfl<|am<|Rr<|?_
   repeat (first|refine dH ?_|refine cq ?_|refine dS rfl ?_|refine bP ?_|refine bR ?_)
   exact dv rfl (fun w hw=>⟨⟨_,rfl⟩,.inr ⟨_,cg (hJx _) hw.rid⟩⟩)
 ·obtain rfl:i=n:=by simp at hc;omega
  refine aW ?_
  repeat (first|refine dH ?_|refine cq ?_|refine dS rfl ?_|refine bP ?_|refine bR ?_)
  refine cQ rfl (fun w hw=>⟨⟨_,rfl⟩,.inl ?_⟩)
  have:=cg (hJ _) hw.rid
  rw[tR]
  exact this
theorem Dt:nu prog 54 "Add" 122:=fun _ _=>kr
theorem Qt(n:Nat)(h0:0<n)(hn:n≤512)(K:Nat→L8)(p:Nat→GP)(e:Nat→Int)(hP:Vd K p e n)(j:Nat)(hjn:j≤n)(he0: ∀i,i<j→e i=0)(heb:j<n→¬e j=0)(b cap:Nat)(w:World)(hw:Gt w)(hK:KsAt w b 48 n K):CLS 61 [.slice (spt b) n cap,.func (.func 14) #[] #[]].toArray w (fun r w'=>r=.returned (.tuple #[PtV (if j=n then gSm p n else gInf),I (if j=n then 0 else e j)])∧Grow w w'):=by
 have hGF:BOk Gt (pl w):=gt_low.plain hw
 refine cz (G:=Gt) func61 rfl rfl (Hp (pl w) []) (cm (pl w) trivial ao) (aA hGF)<|ae (E:=EE [109])<|Al 4 hGF J1.zv54<|fun b4=>Asg rfl<|aa<|lW<|ae (E:=EE [109])<|Al 6 hGF J1.zv54<|fun b6=>Al 7 hGF J1.zv54<|fun b7=>aa<|ah<|ae (E:=EE [109])<|Mv rfl<|bi rfl (fun _=>aI underlying65 _ _ _ _) rfl rfl<|Bnb false rfl rfl (fun _=>dY _ _ _) (beq_eq_false_iff_ne.2 om)<|Mv rfl<|Mv rfl<|bi rfl (fun _=>aI underlying65 _ _ _ _) rfl rfl<|Bnb false rfl rfl (fun _=>bc _ _ _) (decide_eq_false om)<|Pk rfl rfl rfl<|aa<|aC rfl<|aq<|ae (E:=EE [109])<|iw 8 hGF zeroValue34 rfl rfl<|fun b8=>d8 8 hGF rfl rfl rfl sizeOf34 rfl dc rfl<|aa<|ah<|na<|ah<|ae (E:=EE [109])<|Mv rfl<|Mv rfl<|?_
 refine dz rfl rfl ent109 rfl rfl (fun w' hw'=>(Vk _ _ _ _ w' (hGF.g _ _ _ hw')).mono fun e' w'' h=> ?_)
 obtain ⟨b1,b2,rfl,hg,h1,h2,h3,ho1,ho2⟩:=h
 refine ⟨_,_,rfl,aA hGF,hw'.news ao hg [(33,b1,[.slice (spt b) n cap],65),(34,b2,[.func (.func 14) #[] #[]],56)] ?_ (tQ h3), ?_⟩
 ·intro n' b' c' t' hl
  rcases aL hl with ⟨_,e⟩|⟨_,hl⟩
  ·cases e;exact ⟨h1,ho1⟩
  rcases aL hl with ⟨_,e⟩|⟨_,hl⟩
  ·cases e;exact ⟨h2,ho2⟩
  ·cases hl
 clear hw' hg h1 h2 h3 ho1 ho2
 refine aa<|ai<|?_
 refine wr (fun k=>k≤j) (fun _=>pl w) (fun _ _=>pl w) (fun _=>hGF) (fun _ _=>hGF) (fun _=>rfl) (fun _ _=>rfl) rfl rfl ent160 (qI b1 b2 b cap n om K p e hP) (fun v hv=>by obtain ⟨k,hk,rfl⟩:=List.mem_map.1 hv;rfl) rfl (fun k=>[(4,b4,(GL (gInf)).map U64,54),(6,b6,(GL (gSm p k)).map U64,54),(7,b7,(GL (gInf)).map U64,54),(8,b8,[I (0)],34),(33,b1,[.slice (spt b) n cap],65),(34,b2,[.func (.func 14) #[] #[]],56)]) (fun cd _ L'=>cd=.exit 0∧j<n∧ki L' ([(4,b4,(GL (gInf)).map U64,54),(6,b6,(GL (gInf)).map U64,54),(7,b7,(GL (gInf)).map U64,54),(8,b8,[I (e j)],34),(33,b1,[.slice (spt b) n cap],65),(34,b2,[.func (.func 14) #[] #[]],56)])) (Nat.zero_le _) trv (fun k _ w' h=>⟨cB (n:=33) rfl rfl w' h,cB (n:=34) rfl rfl w' h,hK.up (h.below (fun _ h=>h))⟩) ?_ ?_ ?_ ?_
 ·intro k v hx hQ R hR
  obtain ⟨hk,rfl⟩:=Qu p e hx
  rcases Nat.lt_or_ge k j with hkj|hkj
  ·have he:=he0 k hkj
   refine ae (E:=EE [109])<|dX 9 (hR (pl w) rfl hGF).1 J1.zv54 rfl rfl<|fun b9=>aw 9 (hR (pl w) rfl hGF).1 rfl rfl rfl sizeOf54 sm sm (be _) rfl<|aa<|bN (E:=EE [109])<|Asg rfl<|aa<|?_
   refine ⟨rfl,_,rfl, ?_⟩
   refine ai<|ae (E:=EE [109])<|Mv rfl<|aa<|ai<|ae (E:=EE [109])<|Bnb true rfl rfl (fun _=>dY _ _ _) ((by rw[he];rfl))<|Asg rfl<|aa<|aR rfl<|bN (E:=EE [109])<|La 6 rfl rfl cn<|iJ rfl underlying54 rfl rfl<|La 9 rfl rfl cn<|vI rfl rfl Dt rfl ent122 (Ig _ _) rfl rfl<|aw 6 (hR (pl w) rfl hGF).2.1 rfl rfl rfl sizeOf54 sm sm (be _) rfl<|aa<|?_
   repeat (refine aP ?_)
   exact ⟨_,rfl,Q0 (Q:=fun k=>k≤j) om ⟨rfl,rfl,rfl,rfl,rfl,rfl,trivial⟩⟩
  ·obtain rfl:k=j:=Nat.le_antisymm hQ hkj
   have he:=heb hk
   refine ae (E:=EE [109])<|dX 9 (hR (pl w) rfl hGF).1 J1.zv54 rfl rfl<|fun b9=>aw 9 (hR (pl w) rfl hGF).1 rfl rfl rfl sizeOf54 sm sm (be _) rfl<|aa<|bN (E:=EE [109])<|Asg rfl<|aa<|?_
   refine ⟨rfl,_,rfl, ?_⟩
   refine ai<|ae (E:=EE [109])<|Mv rfl<|aa<|ai<|ae (E:=EE [109])<|Bnb false rfl rfl (fun _=>dY _ _ _) (beq_eq_false_iff_ne.2 he)<|Asg rfl<|aa<|aC rfl<|ae (E:=EE [109])<|La 7 rfl rfl cn<|Mv rfl<|aw 6 (hR (pl w) rfl hGF).2.1 rfl rfl rfl sizeOf54 sm sm (be _) rfl<|d8 8 (hR (pl w) rfl hGF).2.1 rfl rfl rfl sizeOf34 rfl dc rfl<|aa<|aW<|?_
   repeat (first|refine cq ?_|refine dS rfl ?_)
   exact ⟨_,rfl,rfl,hk,trv⟩
 ·intro hQ D hD
  rw[tR]at*
  obtain rfl:j=n:=Nat.le_antisymm hjn hQ
  refine gt (E:=EE [109]) (fun X=>X=Hp (B2 (pl w) D) [(8,b8,[I (0)],34)]) (mkB [4]) (rkB [35]) [0,1,2,3] cL rfl kr kr kr<|dP rfl rfl<|La 6 rfl rfl cn<|aa<|kL (X:=Hp (B2 (pl w) D) [(8,b8,[I (0)],34)]) rfl (cN hD.r trv) (fun _=>rfl)<|cT 8 rfl rfl rfl isAgg34 rfl rfl<|aa<|fU rfl<|Sa 4 hD rfl rfl rfl cn<|aa<|?_
  refine ⟨fun _ X hX _=>by subst hX;exact cN hD.r trv, ?_⟩
  refine dP rfl rfl<|Asg rfl<|aa<|fX<|am<|?_
  repeat (first|refine bP ?_|refine bR ?_|refine fH ?_)
  exact d9 (.inl rfl) ao (a8 4 rfl rfl rfl rfl isAgg54 sizeOf54 sm (fun w hw=>⟨by rw[if_pos rfl,if_pos rfl],ac hw⟩))
 ·intro D hb
  repeat (first|refine aP ?_|refine aD ?_|refine Jc ?_)
  exact rK hb
 ·rintro D cd k L' hD ⟨rfl,hlt,hsub⟩
  refine Z4 (cN hD.r hsub) (aA hD)<|gt (E:=EE [109]) (fun X=>X=Hp (B2 (pl w) D) [(8,b8,[I (e j)],34)]) (mkB [4]) (rkB [35]) [0,1,2,3] cL rfl kr kr kr<|dP rfl rfl<|La 6 rfl rfl cn<|aa<|kL (X:=Hp (B2 (pl w) D) [(8,b8,[I (e j)],34)]) rfl (cN hD.r trv) (fun _=>rfl)<|cT 8 rfl rfl rfl isAgg34 rfl rfl<|aa<|fU rfl<|Sa 4 hD rfl rfl rfl cn<|aa<|?_
  refine ⟨fun _ X hX _=>by subst hX;exact cN hD.r trv, ?_⟩
  refine dP rfl rfl<|Asg rfl<|aa<|fX<|am<|?_
  repeat (first|refine bP ?_|refine bR ?_|refine fH ?_)
  exact d9 (.inl rfl) ao (a8 4 rfl rfl rfl rfl isAgg54 sizeOf54 sm (fun w hw=>⟨by rw[if_neg om,if_neg om],ac hw⟩))
theorem HD(n:Nat)(hn:n=0)(v:Value)(a:Option Addr)(cap:Nat)(w:World)(hw:Gt w):CLS 61 [.slice a n cap,v].toArray w (fun r w'=>r=.returned (.tuple #[PtV gInf,I 161])∧Grow w w'):=by
 refine Hf func61 rfl hw<|fun hGF=>ae (E:=EE [109])<|Al 4 hGF J1.zv54<|fun b4=>Asg rfl<|aa<|lW<|ae (E:=EE [109])<|Al 6 hGF J1.zv54<|fun b6=>Al 7 hGF J1.zv54<|fun b7=>aa<|ah<|ae (E:=EE [109])<|Mv rfl<|bi rfl (fun _=>aI underlying65 _ _ _ _) rfl rfl<|Bnb true rfl rfl (fun _=>dY _ _ _) (beq_iff_eq.2 om)<|Mv rfl<|Sk<|Sk<|Sk<|Pk rfl rfl rfl<|aa<|aR rfl<|ae (E:=EE [109])<|La 7 rfl rfl cn<|Sa 4 hGF rfl rfl rfl cn<|Asg rfl<|aa<|am<|?_
 repeat (first|refine bP ?_|refine bR ?_|refine fH ?_)
 exact a8 4 rfl rfl rfl rfl isAgg54 sizeOf54 sm (fun w hw=>⟨rfl,ac hw⟩)
end J1
end
section
open Go.RowKit
attribute [local simp] a7 bv aJ aB aQ a5 aT aK aO bf bC a6 bz J1.bE J2.bE cf fC eS fE
attribute [local simp] gc
attribute [local simp] Q6.gv
open Q6 in
def v2p(a b:J1.GP×J2.GP):Nat→J1.GP×J2.GP
 |0=>a
 |_=>b
theorem WD(K:J1.GP)(bs:L8)(hn:bs.length=96)(S:Pt W2)(hD:D2 bs 0 S)(msg:L8)(H:J2.GP)(hM:Ms msg H 0)(a:Option Addr)(cap:Nat)(hl:msg.length≤65600)(hc:msg.length≤cap)(hK: ∀(d:Nat) (w':World),Gt w'→w'.rangeAt d 0 ((RW 54 (fun i=>Q6.PRv (v2p (K,H) (J1.kT J1.yF,cA2 S (oG hD)) i)) 2).map U64)→CLS 111 [.slice (spt d) 2 2].toArray w' (fun y w''=>y=.returned (.bool true)∧Grow w' w''))(w:World)(hw:Gt w)(hb:BytesAt w a msg):CLS 62 [J1.PtV K,.slice a msg.length cap,.agg ((bs).map U8).toArray].toArray w (fun r w'=>r=.returned (I 0)∧Grow w w'):=by
 refine Hf func62 rfl hw<|fun hGF=>Xp<|Bx 3 hGF rfl<|fun b3=>Bx 5 hGF rfl<|fun b5=>Asg rfl<|aa<|Xp<|bY 5 rfl rfl isAgg33 sizeOf33 (by simp[*]) rfl rfl<|Ca rfl (Z2 bs hn _ S hD)<|Mv rfl<|Ext rfl rfl<|Ext rfl rfl<|Al 7 hGF J2.zv80<|fun b7=>Sa 7 hGF rfl rfl rfl co<|Asg rfl<|aa<|ah<|Xp<|Mv rfl<|Bnb false rfl rfl (fun _=>bF _ _ _) (rfl)<|aa<|aC rfl<|aq<|Xp<|Mv rfl<|Cc rfl ent34 (fun w' hC hG=>Vg msg H _ hM a cap w' hl hc hG (hb.grow (ac hC)))<|Mv rfl<|Ext rfl rfl<|Ext rfl rfl<|Al 9 hGF J2.zv80<|fun b9=>Sa 9 hGF rfl rfl rfl co<|Asg rfl<|aa<|ah<|Xp<|Mv rfl<|Bnb false rfl rfl (fun _=>bF _ _ _) (rfl)<|aa<|aC rfl<|aq<|?_
 refine ah<|Xd []<|La 3 rfl rfl cn<|La 9 rfl rfl co<|cv Q6.vh rfl rfl sm sm rfl rfl<|Ca rfl (J1.I8)<|Ca rfl (J1.yl _)<|La 7 rfl rfl co<|cv Q6.vh rfl rfl sm sm rfl rfl<|fh (s:=54) 33 (fun i=>Q6.PRv (v2p (K,H) (J1.kT J1.yF,cA2 S (oG hD)) i)) (List.replicate 54 (0#64)) hGF rfl rfl rfl (fun i _=>Q6.gv _) dc dc underlying170 sizeOf169 sm Q6.zv169 rfl rfl<|fun b33=>Cc rfl ent111 (fun w' hC hG=>hK b33 w' hG (aH (n:=33) rfl w' hC))<|bu rfl (fun _=>a9 _) rfl rfl<|aa<|aC rfl<|aq<|Xp<|Asg rfl<|aa<|am<|Rr<|?_
 exact aG rfl rfl (fun w hw=>⟨rfl,ac hw⟩)
theorem Yg(K:J1.GP)(bs:L8)(hn:bs.length=96)(S:Pt W2)(hD:D2 bs 0 S)(msg:L8)(H:J2.GP)(hM:Ms msg H 0)(a:Option Addr)(cap:Nat)(hl:msg.length≤65600)(hc:msg.length≤cap)(hK: ∀(d:Nat) (w':World),Gt w'→w'.rangeAt d 0 ((RW 54 (fun i=>Q6.PRv (v2p (K,H) (J1.kT J1.yF,cA2 S (oG hD)) i)) 2).map U64)→CLS 111 [.slice (spt d) 2 2].toArray w' (fun y w''=>y=.returned (.bool false)∧Grow w' w''))(w:World)(hw:Gt w)(hb:BytesAt w a msg):CLS 62 [J1.PtV K,.slice a msg.length cap,.agg ((bs).map U8).toArray].toArray w (fun r w'=>r=.returned (I 162)∧Grow w w'):=by
 refine Hf func62 rfl hw<|fun hGF=>Xp<|Bx 3 hGF rfl<|fun b3=>Bx 5 hGF rfl<|fun b5=>Asg rfl<|aa<|Xp<|bY 5 rfl rfl isAgg33 sizeOf33 (by simp[*]) rfl rfl<|Ca rfl (Z2 bs hn _ S hD)<|Mv rfl<|Ext rfl rfl<|Ext rfl rfl<|Al 7 hGF J2.zv80<|fun b7=>Sa 7 hGF rfl rfl rfl co<|Asg rfl<|aa<|ah<|Xp<|Mv rfl<|Bnb false rfl rfl (fun _=>bF _ _ _) (rfl)<|aa<|aC rfl<|aq<|Xp<|Mv rfl<|Cc rfl ent34 (fun w' hC hG=>Vg msg H _ hM a cap w' hl hc hG (hb.grow (ac hC)))<|Mv rfl<|Ext rfl rfl<|Ext rfl rfl<|Al 9 hGF J2.zv80<|fun b9=>Sa 9 hGF rfl rfl rfl co<|Asg rfl<|aa<|ah<|Xp<|Mv rfl<|Bnb false rfl rfl (fun _=>bF _ _ _) (rfl)<|aa<|aC rfl<|aq<|?_
 refine ah<|Xd []<|La 3 rfl rfl cn<|La 9 rfl rfl co<|cv Q6.vh rfl rfl sm sm rfl rfl<|Ca rfl (J1.I8)<|Ca rfl (J1.yl _)<|La 7 rfl rfl co<|cv Q6.vh rfl rfl sm sm rfl rfl<|fh (s:=54) 33 (fun i=>Q6.PRv (v2p (K,H) (J1.kT J1.yF,cA2 S (oG hD)) i)) (List.replicate 54 (0#64)) hGF rfl rfl rfl (fun i _=>Q6.gv _) dc dc underlying170 sizeOf169 sm Q6.zv169 rfl rfl<|fun b33=>Cc rfl ent111 (fun w' hC hG=>hK b33 w' hG (aH (n:=33) rfl w' hC))<|bu rfl (fun _=>a9 _) rfl rfl<|aa<|aR rfl<|Xp<|Asg rfl<|aa<|am<|Rr<|?_
 exact aG rfl rfl (fun w hw=>⟨rfl,ac hw⟩)
theorem Zy(w:World)(K:J1.GP)(kb:L8)(hkn:kb.length=48)(hk:PUR 14 [.agg ((kb).map U8).toArray] (.tuple #[J1.PtV K,I 0]))(a:Option Addr)(l cap:Nat)(bs:L8)(hn:bs.length=96)(e:Int)(hV: ∀w',Gt w'→Grow w w'→CLS 62 [J1.PtV K,.slice a l cap,.agg ((bs).map U8).toArray].toArray w' (fun r w''=>r=.returned (I e)∧Grow w' w''))(hw:Gt w):CLS 26 [.agg ((kb).map U8).toArray,.slice a l cap,.agg ((bs).map U8).toArray].toArray w (fun r w'=>r=.returned (I e)∧Grow w w'):=by
 refine Hf func26 rfl hw<|fun hGF=>Xp<|Bx 3 hGF rfl<|fun b3=>Bx 5 hGF rfl<|fun b5=>Asg rfl<|aa<|Xp<|bY 3 rfl rfl isAgg30 sizeOf30 (by simp[*]) rfl rfl<|Ca rfl (hk)<|Mv rfl<|Ext rfl rfl<|Ext rfl rfl<|Al 7 hGF J1.zv54<|fun b7=>Sa 7 hGF rfl rfl rfl cn<|Asg rfl<|aa<|ah<|Xp<|Mv rfl<|Bnb false rfl rfl (fun _=>bF _ _ _) (rfl)<|aa<|aC rfl<|aq<|Xp<|La 7 rfl rfl cn<|Mv rfl<|bY 5 rfl rfl isAgg33 sizeOf33 (by simp[*]) rfl rfl<|Cc rfl ent62 (fun w' hC hG=>hV w' hG (ac hC))<|Asg rfl<|aa<|am<|Rr<|?_
 exact aG rfl rfl (fun w hw=>⟨rfl,ac hw⟩)
theorem Yq(w:World)(K:J1.GP)(e0:Option Addr)(n0 c0:Nat)(hS: ∀w',Gt w'→Grow w w'→CLS 61 [.slice e0 n0 c0,.func (.func 14) #[] #[]].toArray w' (fun r w''=>r=.returned (.tuple #[J1.PtV K,I 0])∧Grow w' w''))(a:Option Addr)(l cap:Nat)(bs:L8)(hn:bs.length=96)(e:Int)(hV: ∀w',Gt w'→Grow w w'→CLS 62 [J1.PtV K,.slice a l cap,.agg ((bs).map U8).toArray].toArray w' (fun r w''=>r=.returned (I e)∧Grow w' w''))(hw:Gt w):CLS 25 [.slice e0 n0 c0,.slice a l cap,.agg ((bs).map U8).toArray].toArray w (fun r w'=>r=.returned (I e)∧Grow w w'):=by
 refine Hf func25 rfl hw<|fun hGF=>Xp<|Bx 5 hGF rfl<|fun b5=>Asg rfl<|aa<|Xp<|Mv rfl<|Cc rfl ent61 (fun w' hC hG=>hS w' hG (ac hC))<|Mv rfl<|Ext rfl rfl<|Ext rfl rfl<|Al 7 hGF J1.zv54<|fun b7=>Sa 7 hGF rfl rfl rfl cn<|Asg rfl<|aa<|ah<|Xp<|Mv rfl<|Bnb false rfl rfl (fun _=>bF _ _ _) (rfl)<|aa<|aC rfl<|aq<|Xp<|La 7 rfl rfl cn<|Mv rfl<|bY 5 rfl rfl isAgg33 sizeOf33 (by simp[*]) rfl rfl<|Cc rfl ent62 (fun w' hC hG=>hV w' hG (ac hC))<|Asg rfl<|aa<|am<|Rr<|?_
 exact aG rfl rfl (fun w hw=>⟨rfl,ac hw⟩)
theorem J0(w:World)(K:J1.GP)(c:Int)(h0: ¬c=0)(e0:Option Addr)(n0 c0:Nat)(hS: ∀w',Gt w'→Grow w w'→CLS 61 [.slice e0 n0 c0,.func (.func 14) #[] #[]].toArray w' (fun r w''=>r=.returned (.tuple #[J1.PtV K,I c])∧Grow w' w''))(hw:Gt w):CLS 27 [.slice e0 n0 c0].toArray w (fun r w'=>r=.returned (.tuple #[.agg ((List.replicate 48 (0#8)).map U8).toArray,I c])∧Grow w w'):=by
 refine Hf func27 rfl hw<|fun hGF=>Xp<|Al 2 hGF zv30<|fun b2=>Asg rfl<|aa<|Xp<|Mv rfl<|Cc rfl ent61 (fun w' hC hG=>hS w' hG (ac hC))<|Mv rfl<|Ext rfl rfl<|Ext rfl rfl<|Al 4 hGF J1.zv54<|fun b4=>Sa 4 hGF rfl rfl rfl cn<|Asg rfl<|aa<|ah<|Xp<|Mv rfl<|Bnb true rfl rfl (fun _=>bF _ _ _) (bne_iff_ne.2 h0)<|aa<|aR rfl<|Xp<|el zv30 underlying30 sizeOf5 rfl rfl<|Mv rfl<|Sx 2 hGF rfl rfl rfl t30t List.length_replicate (bH _)<|Asg rfl<|aa<|am<|Rr<|?_
 exact a8 2 rfl rfl rfl rfl isAgg30 sizeOf30 sm (fun w hw=>⟨rfl,ac hw⟩)
end
section
namespace Sh
abbrev tN:BitVec 32→Nat:=BitVec.toNat
abbrev M32:Nat:=4294967296
def tn(x a b:Nat):Nat:=Nat.lor (Nat.mod (Nat.shiftLeft x a) M32) (Nat.shiftRight x b)
def s1N(x:Nat):Nat:=Nat.xor (Nat.xor (tn x 26 6) (tn x 21 11)) (tn x 7 25)
def s0N(x:Nat):Nat:=Nat.xor (Nat.xor (tn x 30 2) (tn x 19 13)) (tn x 10 22)
def l0N(x:Nat):Nat:=Nat.xor (Nat.xor (tn x 25 7) (tn x 14 18)) (Nat.shiftRight x 3)
def l1N(x:Nat):Nat:=Nat.xor (Nat.xor (tn x 15 17) (tn x 13 19)) (Nat.shiftRight x 10)
def aN(a b:Nat):Nat:=Nat.mod (Nat.add a b) M32
def w4N(bl:List Nat)(i:Nat):Nat:=Nat.lor (Nat.lor (Nat.lor (Nat.mod (Nat.shiftLeft (Nat.mod (bl.getD (4*i) 0) M32) 24) M32) (Nat.mod (Nat.shiftLeft (Nat.mod (bl.getD (4*i+1) 0) M32) 16) M32)) (Nat.mod (Nat.shiftLeft (Nat.mod (bl.getD (4*i+2) 0) M32) 8) M32)) (Nat.mod (bl.getD (4*i+3) 0) M32)
def W1N(bl:List Nat):Nat→List Nat
 |0=>List.replicate 64 0
 |k+1=>(W1N bl k).set k (w4N bl k)
def w5N(ws:List Nat)(i:Nat):Nat:=aN (aN (aN (l1N (ws.getD (i-2) 0)) (ws.getD (i-7) 0)) (l0N (ws.getD (i-15) 0))) (ws.getD (i-16) 0)
def W2N(bl:List Nat):Nat→List Nat
 |0=>W1N bl 16
 |k+1=>(W2N bl k).set (16+k) (w5N (W2N bl k) (16+k))
structure VN where
 (a b c d e f g h:Nat)
def ttN(v:VN)(k w:Nat):Nat:=aN (aN (aN (aN v.h (s1N v.e)) (Nat.xor (Nat.land v.e v.f) (Nat.land (Nat.sub 4294967295 v.e) v.g))) k) w
def LJ(v:VN)(k w:Nat):VN:=⟨aN (ttN v k w) (aN (s0N v.a) (Nat.xor (Nat.xor (Nat.land v.a v.b) (Nat.land v.a v.c)) (Nat.land v.b v.c))),v.a,v.b,v.c,aN v.d (ttN v k w),v.e,v.f,v.g⟩
def C5(v:VN)(ks ws:List Nat):Nat→VN
 |0=>v
 |k+1=>LJ (C5 v ks ws k) (ks.getD k 0) (ws.getD k 0)
def vN(s:List Nat):VN:=⟨s.getD 0 0,s.getD 1 0,s.getD 2 0,s.getD 3 0,s.getD 4 0,s.getD 5 0,s.getD 6 0,s.getD 7 0⟩
def Fg(ks s bl:List Nat):List Nat:=
 let v:=C5 (vN s) ks (W2N bl 48) 64
 [aN (s.getD 0 0) v.a,aN (s.getD 1 0) v.b,aN (s.getD 2 0) v.c,aN (s.getD 3 0) v.d,aN (s.getD 4 0) v.e,aN (s.getD 5 0) v.f,aN (s.getD 6 0) v.g,aN (s.getD 7 0) v.h]
def QD(ks s:List Nat):List (List Nat)→List Nat
 |[]=>s
 |b::l=>QD ks (Fg ks s b) l
def V8.n(v:V8):VN:=⟨tN v.a,tN v.b,tN v.c,tN v.d,tN v.e,tN v.f,tN v.g,tN v.h⟩
theorem qm(x y:BitVec 32):tN (x+y)=aN (tN x) (tN y):=BitVec.toNat_add x y
theorem ml(x:BitVec 32)(k:Int)(a b:Nat)(ha:(BitVec.ofInt 64 k &&& 31#64).toNat=a)(hb:(32#64-(BitVec.ofInt 64 k &&& 31#64)).toNat=b):tN (l8 x k)=tn (tN x) a b:=by
 subst ha hb
 show BitVec.toNat (l8 x k)=_
 rw[l8,BitVec.toNat_or,BitVec.toNat_shiftLeft,BitVec.toNat_ushiftRight]
 rfl
theorem kW(x y:BitVec 32):tN (x^^^y)=Nat.xor (tN x) (tN y):=BitVec.toNat_xor x y
theorem xm(x y:BitVec 32):tN (x &&& y)=Nat.land (tN x) (tN y):=BitVec.toNat_and x y
theorem Yu(x:BitVec 32):tN (~~~x)=Nat.sub 4294967295 (tN x):=BitVec.toNat_not
theorem s1_e(x:BitVec 32):tN (qu x)=s1N (tN x):=by rw[qu,kW,kW,ml x (-6) 26 6 dc dc,ml x (-11) 21 11 dc dc,ml x (-25) 7 25 dc dc];rfl
theorem s0_e(x:BitVec 32):tN (yh x)=s0N (tN x):=by rw[yh,kW,kW,ml x (-2) 30 2 dc dc,ml x (-13) 19 13 dc dc,ml x (-22) 10 22 dc dc];rfl
theorem OW(x:BitVec 32)(n:Nat):tN (x>>>n)=Nat.shiftRight (tN x) n:=BitVec.toNat_ushiftRight x n
theorem l0_e(x:BitVec 32):tN (DY x)=l0N (tN x):=by rw[DY,kW,kW,ml x (-7) 25 7 dc dc,ml x (-18) 14 18 dc dc,OW];rfl
theorem l1_e(x:BitVec 32):tN (DI x)=l1N (tN x):=by rw[DI,kW,kW,ml x (-17) 15 17 dc dc,ml x (-19) 13 19 dc dc,OW];rfl
theorem o9{n:Nat}(l:List (BitVec n))(i:Nat):(l.map BitVec.toNat).getD i 0=(l.getD i 0).toNat:=by
 rw[List.getD_eq_getElem?_getD,List.getD_eq_getElem?_getD,List.getElem?_map]
 cases l[i]? with
 |none=>rfl
 |some x=>rfl
theorem w4_e(bl:L8)(i:Nat):tN (w4 bl i)=w4N (bl.map BitVec.toNat) i:=by
 have s: ∀(x:BitVec 8) (k:Nat),BitVec.toNat (x.setWidth 32<<<k)=Nat.mod (Nat.shiftLeft (Nat.mod x.toNat M32) k) M32:=fun x k=>by
  rw[BitVec.toNat_shiftLeft,BitVec.toNat_setWidth];rfl
 show BitVec.toNat (w4 bl i)=_
 rw[w4,w4N,BitVec.toNat_or,BitVec.toNat_or,BitVec.toNat_or,s,s,s,BitVec.toNat_setWidth,o9,o9,o9,o9]
 rfl
theorem VW(bl:L8): ∀k,(W1 bl k).map tN=W1N (bl.map BitVec.toNat) k
 |0=>by rw[W1,W1N,List.map_replicate];rfl
 |k+1=>by rw[W1,W1N,List.map_set,VW bl k,w4_e]
theorem w5_e(ws:L3)(i:Nat):tN (w5 ws i)=w5N (ws.map tN) i:=by
 rw[w5,w5N,qm,qm,qm,l1_e,l0_e,o9,o9,o9,o9]
theorem Rs(bl:L8): ∀k,(W2 bl k).map tN=W2N (bl.map BitVec.toNat) k
 |0=>VW bl 16
 |k+1=>by rw[W2,W2N,List.map_set,Rs bl k,w5_e,Rs bl k]
theorem WG(v:V8)(k w:BitVec 32):(rnd v k w).n=LJ v.n (tN k) (tN w):=by
 have t:tN (v.h+qu v.e+(v.e &&& v.f^^^ ~~~v.e &&& v.g)+k+w)=ttN v.n (tN k) (tN w):=by
  rw[qm,qm,qm,qm,s1_e,kW,xm,xm,Yu];rfl
 have e1:tN (rnd v k w).a=(LJ v.n (tN k) (tN w)).a:=by
  show tN ((v.h+qu v.e+(v.e &&& v.f^^^ ~~~v.e &&& v.g)+k+w)+(yh v.a+(v.a &&& v.b^^^v.a &&& v.c^^^v.b &&& v.c)))=_
  rw[qm,t,qm,s0_e,kW,kW,xm,xm,xm];rfl
 have e2:tN (rnd v k w).e=(LJ v.n (tN k) (tN w)).e:=by
  show tN (v.d+(v.h+qu v.e+(v.e &&& v.f^^^ ~~~v.e &&& v.g)+k+w))=_
  rw[qm,t];rfl
 show VN.mk (tN (rnd v k w).a) _ _ _ (tN (rnd v k w).e) _ _ _=_
 rw[e1,e2];rfl
theorem Gd(v:V8)(ws:L3): ∀k,(nh v ws k).n=C5 v.n (KW.map tN) (ws.map tN) k
 |0=>rfl
 |k+1=>by rw[nh,C5,WG,Gd v ws k,o9,o9]
theorem vN_e(st:L3):(v8 st).n=vN (st.map tN):=by
 simp only[vN,o9];rfl
theorem QA(st:L3)(bl:L8):(sI st bl).map tN=Fg (KW.map tN) (st.map tN) (bl.map BitVec.toNat):=by
 have h:=Gd (v8 st) (W2 bl 48) 64
 rw[vN_e,Rs]at h
 rw[Fg,←h]
 simp only[sI,Sj,List.map_cons,List.map_nil,o9,qm]
 rfl
theorem J9(st:L3)(b:L8)(l:List L8): ∀k,im st (b::l) (k+1)=im (sI st b) l k
 |0=>rfl
 |k+1=>by rw[im,J9 st b l k];rfl
theorem NT: ∀(l:List L8) (st:L3),(im st l l.length).map tN=QD (KW.map tN) (st.map tN) (l.map (·.map BitVec.toNat))
 |[],_=>rfl
 |b::l,st=>by
  rw[List.length_cons,J9,NT l,QA];rfl
theorem Uk(l:L3):(l.map tN).map (BitVec.ofNat 32)=l:=by
 rw[List.map_map]
 exact (List.map_congr_left fun x _=>BitVec.ofNat_toNat 32 x|>.trans (BitVec.setWidth_eq x)).trans (List.map_id l)
theorem nj(bs r:L8)(h:DG ((QD (KW.map tN) (IV.map tN) ((rQ bs).map (·.map BitVec.toNat))).map (BitVec.ofNat 32)) 8=r):SHA bs=r:=by
 rw[SHA,←Uk (im IV (rQ bs) (rQ bs).length),NT];exact h
end Sh
end
section
def wC:W2:=(zp 0x4a1a6fbdd75a0a015d8b97f9b7778cb923e5fab97e6dc0ada2f001b452745ac708ce13797418e6a361d408d7d680684,zp 0xdbba1ca562e8bdb6032da29043bd2a3b08775da7ac5d24b3af502c0a9279ac704e6ddfb9d18a3c57f161d2c62d60e1f)
def Yy:W2:=(zp 0x21535d46c591ae51ea59ab9491a6b9cd35ff4f85826e9915e8b0c757f9ab2ab5090fce821399c2cec7f0c0e6d77cd9c,zp 0x25a27be7a3911aa82f64e6d40e73db7f4ada224ea508874ef6bd351588204f0933c5a53815ddcd17c33cb3a26ac8a65)
def mmy0:W2:=(zp 0x9315ba1a011f20cd38ffaabb09603d06a295ef31792f2c55128a130273557a146c65e15a894b561ea42449f72e05ce8,zp 0x36e9a81bb9182d66500bc370e277f842552f69e08e67141cffa537cd2507d5f69028db0682c32bf3f011f6d6fb18f74)
def Ho:W2×W2:=((zp 0xe5528f71e373b4cf4afeae262a9f7740af62f1f146cb03b2f585a3c472692d1e2312171c6affb64079df761a6fb895c,zp 0x40d6dac87e668f0c302c639a58fca14889c97ab0af29bff72d109475ef9633938e46dacaf3800b143c3951edfac00f5),(zp 0xe9aaf4f09f560fdc6700fba1f2fa6ea051feea7c1522fb68b475762a1222fa5a4a32027c5665199aa084ab2eaa2eac0,zp 0x7e31b613c8b044266240abcdbc53de1205bbd28644eda52d4acc7bfc6ac181dc09f84e9f0917ddb3fb2db605dcb5d71))
theorem XJ{x r:W2}(s:SwR wC x r):x=Yy∧sgS r wC=mmy0:=by
 have h:=Uj (X:=(zp 0x1445931e8f87914a5e5dff9a6367ea5b6eecfebfa5dbd3644276be2084cf50dbd6f255c3e3c71fa7e756d3e8eb98d8c,zp 0x104dc64d945da164baef0f4ca48c2f5bdd79ca3e6d34207d6ca583818d41c98061051b2988759d8273ee71dccdab02a3)) (X':=Yy) (R:=(zp 0x9315ba1a011f20cd38ffaabb09603d06a295ef31792f2c55128a130273557a146c65e15a894b561ea42449f72e05ce8,zp 0x36e9a81bb9182d66500bc370e277f842552f69e08e67141cffa537cd2507d5f69028db0682c32bf3f011f6d6fb18f74)) (q:=zp 0xdac9d21e47174c96a071c9e810c4a14509be19c174d93dca733279dbf3e05d1b596ec771c74d7df2b7a3db90a55e76) (by decide+kernel) (by decide+kernel) (by decide+kernel) (by decide+kernel) (by decide+kernel) (by decide+kernel) (by decide+kernel) s
 exact ⟨h.1,by rw[h.2];decide+kernel⟩
theorem mmq0{x r:W2}(s:SwR wC x r):(XIs x,YIs x (sgS r wC))=Ho:=by
 rw[(XJ s).2,(XJ s).1]
 exact Prod.ext (ON (by decide+kernel) (by decide+kernel)) (Pi (by decide+kernel) (by decide+kernel))
theorem Zi:E2w.on Ho:=by
 unfold Ec.on
 decide+kernel
def wg:W2:=(zp 0x88b742e34a06f08dae75df6b2bea04eb3e473a392b6fd00284a28b63ad06976480d134d08e780ac1654ea9398db027a,zp 0xba39e89ae159b80dce7d0779408abc9852e05f54fb489f657ae1495caf3223fe2b5eb69b8daca03a010b491852ed9fb)
def aaW:W2:=(zp 0x1282216845306bbd6e021b45b7a42bf1fc20df27014f92120519b37afd7e697762112b16860f3b08c8a79e95f102f4eb,zp 0xa4ba0dba5603a134bd786cca59f66eff1940460ee60c65e5f3b5765da92a4d5152aeeaf1cc81c0d80d24c625d4ddce5)
def mmy1:W2:=(zp 0xb5f594a31f82557fb104862b8da474f82730f49b063c1500a3f44a2524027f5d045c446d010cae05b3cb59720cc237a,zp 0x83d1bac0b3db3945538e523d6d97e66388592e8e1ffee055ef37b9288316aadd58bcf5f1adc9bc9d2eb8ed1f9092ef0)
def Je:W2×W2:=((zp 0x18fe49d245cb404aa63bc2979912ca9199e29263bf25c55bcf8a5570509429b33744b0d9e5e38c8b0ffa96ca37f34f0,zp 0x8af245a8c56afe24ab1a5e9d0b2e57d98ad35b1a2f1ab1741847a3efbd70c9f93d9b12db792a9fda10ca67fde0c7bde),(zp 0x18339860a12634c09f56c86d7394f66dc87632a6a94ea54e3638d91b543a48cd83e6189211d031c35088f1655d645237,zp 0x18f87c161a07eb19ade5e67e09d3949e2d5ab28bc33b8795d06378ef88652a286fea933d0b106a39e405aa07a2285f3f))
theorem ZY{x r:W2}(s:SwR wg x r):x=aaW∧sgS r wg=mmy1:=by
 have h:=QY (R:=(zp 0xb5f594a31f82557fb104862b8da474f82730f49b063c1500a3f44a2524027f5d045c446d010cae05b3cb59720cc237a,zp 0x83d1bac0b3db3945538e523d6d97e66388592e8e1ffee055ef37b9288316aadd58bcf5f1adc9bc9d2eb8ed1f9092ef0)) (X:=aaW) (by decide+kernel) (by decide+kernel) (by decide+kernel) (by decide+kernel) s
 exact ⟨h.1,by rw[h.2];decide+kernel⟩
theorem mmq1{x r:W2}(s:SwR wg x r):(XIs x,YIs x (sgS r wg))=Je:=by
 rw[(ZY s).2,(ZY s).1]
 exact Prod.ext (ON (by decide+kernel) (by decide+kernel)) (Pi (by decide+kernel) (by decide+kernel))
theorem aam:E2w.on Je:=by
 unfold Ec.on
 decide+kernel
end
section
namespace Xm
def mmm:L8:=[109#8]
def mmd:L8:=[66#8,76#8,83#8,95#8,83#8,73#8,71#8,95#8,66#8,76#8,83#8,49#8,50#8,51#8,56#8,49#8,71#8,50#8,95#8,88#8,77#8,68#8,58#8,83#8,72#8,65#8,45#8,50#8,53#8,54#8,95#8,83#8,83#8,87#8,85#8,95#8,82#8,79#8,95#8,80#8,79#8,80#8,95#8]
def mmb:L8:=[123#8,71#8,213#8,206#8,230#8,221#8,139#8,80#8,195#8,100#8,179#8,9#8,239#8,248#8,219#8,121#8,59#8,67#8,238#8,233#8,90#8,183#8,54#8,237#8,243#8,192#8,188#8,151#8,202#8,133#8,187#8,46#8]
def mml:Nat→L8
 |0=>[0#8,0#8,0#8,0#8,0#8,0#8,0#8,0#8,0#8,0#8,0#8,0#8,0#8,0#8,0#8,0#8,0#8,0#8,0#8,0#8,0#8,0#8,0#8,0#8,0#8,0#8,0#8,0#8,0#8,0#8,0#8,0#8]
 |1=>[233#8,243#8,94#8,46#8,92#8,128#8,246#8,94#8,201#8,255#8,229#8,232#8,220#8,235#8,67#8,138#8,89#8,141#8,220#8,239#8,198#8,80#8,150#8,242#8,255#8,5#8,130#8,85#8,193#8,159#8,150#8,94#8]
 |2=>[123#8,106#8,141#8,225#8,33#8,56#8,34#8,181#8,227#8,178#8,69#8,227#8,216#8,181#8,80#8,213#8,193#8,175#8,53#8,17#8,181#8,108#8,40#8,216#8,41#8,127#8,26#8,95#8,16#8,92#8,95#8,159#8]
 |3=>[137#8,19#8,115#8,95#8,213#8,222#8,108#8,66#8,47#8,107#8,9#8,245#8,211#8,113#8,239#8,43#8,168#8,66#8,250#8,106#8,217#8,161#8,154#8,46#8,187#8,60#8,106#8,175#8,104#8,200#8,201#8,131#8]
 |4=>[253#8,180#8,156#8,144#8,219#8,151#8,20#8,70#8,87#8,98#8,89#8,5#8,57#8,229#8,82#8,56#8,143#8,169#8,40#8,200#8,6#8,255#8,124#8,243#8,132#8,144#8,3#8,103#8,221#8,185#8,182#8,82#8]
 |5=>[213#8,239#8,78#8,111#8,76#8,88#8,150#8,146#8,179#8,217#8,181#8,212#8,200#8,240#8,93#8,168#8,136#8,18#8,155#8,38#8,110#8,91#8,73#8,141#8,183#8,84#8,162#8,10#8,174#8,29#8,255#8,192#8]
 |6=>[83#8,237#8,92#8,221#8,179#8,250#8,120#8,30#8,238#8,212#8,149#8,238#8,189#8,94#8,81#8,63#8,140#8,154#8,19#8,104#8,143#8,3#8,74#8,181#8,146#8,224#8,8#8,196#8,23#8,171#8,209#8,153#8]
 |7=>[28#8,190#8,98#8,198#8,79#8,142#8,86#8,0#8,81#8,219#8,173#8,44#8,221#8,44#8,73#8,212#8,103#8,191#8,247#8,78#8,201#8,230#8,160#8,154#8,180#8,238#8,112#8,83#8,104#8,75#8,255#8,124#8]
 |_=>[94#8,54#8,50#8,215#8,242#8,99#8,63#8,84#8,156#8,195#8,108#8,171#8,68#8,220#8,94#8,69#8,251#8,216#8,116#8,227#8,116#8,52#8,73#8,39#8,222#8,120#8,139#8,199#8,90#8,111#8,241#8,166#8]
theorem mm_b:B0 mmm mmd 256=mmb:=Sh.nj _ _ (by decide+kernel)
theorem aaR:Xk mmb (D mmd) 0=mml 0:=by decide+kernel
theorem NO:Xk mmb (D mmd) 1=mml 1:=by
 show Xk mmb (D mmd) (0+1)=_
 rw[Xk,aaR]
 exact Sh.nj _ _ (by decide+kernel)
theorem O1:Xk mmb (D mmd) 2=mml 2:=by
 show Xk mmb (D mmd) (1+1)=_
 rw[Xk,NO]
 exact Sh.nj _ _ (by decide+kernel)
theorem OJ:Xk mmb (D mmd) 3=mml 3:=by
 show Xk mmb (D mmd) (2+1)=_
 rw[Xk,O1]
 exact Sh.nj _ _ (by decide+kernel)
theorem Ou:Xk mmb (D mmd) 4=mml 4:=by
 show Xk mmb (D mmd) (3+1)=_
 rw[Xk,OJ]
 exact Sh.nj _ _ (by decide+kernel)
theorem P5:Xk mmb (D mmd) 5=mml 5:=by
 show Xk mmb (D mmd) (4+1)=_
 rw[Xk,Ou]
 exact Sh.nj _ _ (by decide+kernel)
theorem Qa:Xk mmb (D mmd) 6=mml 6:=by
 show Xk mmb (D mmd) (5+1)=_
 rw[Xk,P5]
 exact Sh.nj _ _ (by decide+kernel)
theorem PH:Xk mmb (D mmd) 7=mml 7:=by
 show Xk mmb (D mmd) (6+1)=_
 rw[Xk,Qa]
 exact Sh.nj _ _ (by decide+kernel)
theorem aaX:Xk mmb (D mmd) 8=mml 8:=by
 show Xk mmb (D mmd) (7+1)=_
 rw[Xk,PH]
 exact Sh.nj _ _ (by decide+kernel)
theorem XB:E mmm mmd 256=mml 1++mml 2++mml 3++mml 4++mml 5++mml 6++mml 7++mml 8:=by
 rw[E,mm_b,show (256+31) / 32=8 from rfl]
 simp only[O,List.nil_append]
 rw[NO,O1,OJ,Ou,P5,Qa,PH,aaX]
 decide+kernel
theorem mm_0:N2 (E mmm mmd 256) 0=wC:=by rw[XB];decide+kernel
theorem mm_1:N2 (E mmm mmd 256) 1=wg:=by rw[XB];decide+kernel
end Xm
end
section
set_option maxRecDepth 1000000
section
variable {β:Type}
def fN(n:Nat)(k:Nat→β):β:=match n with
 |0=>k 0
 |m+1=>k (m+1)
theorem Yf(n:Nat)(k:Nat→β):fN n k=k n:=by cases n<;>rfl
def fZ(x:Zp)(k:Zp→β):β:=fN x.val fun n=>k (zp n)
theorem Ob(x:Zp)(k:Zp→β):fZ x k=k x:=by rw[fZ,Yf,td]
def f2K(x:W2)(k:W2→β):β:=fZ x.1 fun a=>fZ x.2 fun b=>k (a,b)
theorem xg(x:W2)(k:W2→β):f2K x k=k x:=by rw[f2K,Ob,Ob]
def f6K(x:W6)(k:W6→β):β:=f2K x.1 fun a=>f2K x.2.1 fun b=>f2K x.2.2 fun c=>k (a,b,c)
theorem xJ(x:W6)(k:W6→β):f6K x k=k x:=by rw[f6K,xg,xg,xg]
def jZ(x:W12)(k:W12→β):β:=f6K x.1 fun a=>f6K x.2 fun b=>k (a,b)
theorem kY(x:W12)(k:W12→β):jZ x k=k x:=by rw[jZ,xJ,xJ]
def fWK(g:WK→WK):List WK→(List WK→β)→β
 |[],k=>k []
 |w::l,k=>f6K (g w).2.2 fun c=>fWK g l fun l=>k ((w.1,w.2.1,c)::l)
theorem HR{g:WK→WK}(h: ∀w,g w=(w.1,w.2.1,(g w).2.2)): ∀(l:List WK) (k:List WK→β),fWK g l k=k (l.map g)
 |[],_=>rfl
 |w::l,k=>by rw[fWK,xJ,HR h l,List.map_cons,←h]
def fAK(g:WK→W6):List WK→W12→(W12→β)→β
 |[],f,k=>k f
 |w::l,f,k=>f6K (g w) fun t=>jZ (K12.mul (lel t) f) fun f=>fAK g l f k
theorem Io(g:WK→W6): ∀(l:List WK) (f:W12) (k:W12→β),fAK g l f k=k (jc g l f)
 |[],_,_=>rfl
 |w::l,f,k=>by rw[fAK,xJ,kY,Io g l];rfl
theorem Xi(w:WK):wDb w=(w.1,w.2.1,(wDb w).2.2):=rfl
theorem XM(w:WK):wJn w=(w.1,w.2.1,(wJn w).2.2):=by unfold wJn;split<;>rfl
def stK(d:Bool)(S:List WK×W12)(k:List WK×W12→β):β:=jZ (K12.mul S.2 S.2) fun f=>fAK rDb S.1 f fun f=>fWK wDb S.1 fun l=>bif d then fAK rJn l f fun f=>fWK wJn l fun l=>k (l,f)else k (l,f)
theorem aah(d:Bool)(S:List WK×W12)(k:List WK×W12→β):stK d S k=k (rdF d S):=by
 rw[stK,kY,Io,HR Xi]
 cases d with
 |false=>rfl
 |true=>rw[cond_true,Io,HR XM];rfl
def okS(d:Bool)(S:List WK×W12):Bool:=bif d then S.1.all fun w=> !decide ((wDb w).2.2.2.2=ze2)else true
def okR:List Bool→List WK×W12→Bool
 |[],_=>true
 |d::r,S=>okS d S && okR r (rdF d S)
def Aj:List Bool→List WK×W12→Bool→(List WK×W12→Bool→β)→β
 |[],S,b,k=>k S b
 |d::r,S,b,k=>bif b && okS d S then stK d S fun S=>Aj r S true k else stK d S fun S=>Aj r S false k
theorem GY: ∀(l:List Bool) (S:List WK×W12) (b:Bool) (k:List WK×W12→Bool→β),Aj l S b k=k (rdK l S) (b && okR l S)
 |[],S,b,k=>by rw[Aj,okR,Bool.and_true];rfl
 |d::r,S,b,k=>by
  have e: ∀c,(stK d S fun S=>Aj r S c k)=k (rdK (d::r) S) (c && okR r (rdF d S)):=fun c=>by rw[aah,GY r];rfl
  rw[Aj,e,e,okR]
  cases b<;>cases okS d S<;>rfl
theorem Gi: ∀(l:List Bool) (S:List WK×W12),okR l S=true→∀(k:Nat),l[k]? =some true→∀w∈(rdK (l.take k) S).1,¬(wDb w).2.2.2.2=ze2
 |d::r,S,h,0,hd,w,hw=>by
  obtain rfl:d=true:=Option.some.inj hd
  have k:=List.all_eq_true.1 (Bool.and_eq_true_iff.1 h).1 w hw
  simpa using k
 |_::r,S,h,k+1,hd,w,hw=>Gi r _ (Bool.and_eq_true_iff.1 h).2 k hd w hw
/-! ### The power -/
def ivN(x:W2):W2:=
 let n:=zp (pm (nm2 x).val PP 384 (PP-2))
 (x.1*n,-x.2*n)
theorem Qs:iv2=ivN:=funext fun x=>by
 have h:=Cz (nm2 x).val (PP-2) 384 (by decide+kernel)
 rw[td]at h
 rw[iv2,ivN,h]
def Wd(i:W2→W2)(x:W6)(k:W6→β):β:=f2K (i3n x.1 x.2.1 x.2.2) fun n=>f2K (i n) fun n=>k (ml2 (i3a x.1 x.2.1 x.2.2) n,ml2 (i3b x.1 x.2.1 x.2.2) n,ml2 (i3c x.1 x.2.1 x.2.2) n)
def GR(i:W2→W2)(x:W12)(k:W12→β):β:=f6K (qnm K6 VV x) fun q=>Wd i q fun q=>jZ (K12.mul (x.1,K6.neg x.2) (q,K6.zero)) k
theorem aab(x:W12)(k:W12→β):GR ivN x k=k (vn x):=by
 rw[←Qs,GR,xJ,Wd,xg,xg,kY];rfl
def FRg(g:W2)(x:W12):W12:=((ml2 (cj2 x.1.1) (pw2 g 0),ml2 (cj2 x.1.2.1) (pw2 g 2),ml2 (cj2 x.1.2.2) (pw2 g 4)),(ml2 (cj2 x.2.1) (pw2 g 1),ml2 (cj2 x.2.2.1) (pw2 g 3),ml2 (cj2 x.2.2.2) (pw2 g 5)))
def pwK(x:W12):List Bool→W12→(W12→β)→β
 |[],a,k=>jZ (de a) k
 |b::r,a,k=>jZ (K12.mul a a) fun a=>bif b then jZ (K12.mul a x) fun a=>pwK x r a k else pwK x r a k
theorem Aq(x:W12): ∀(l:List Bool) (n:Nat) (k:W12→β),pwK x l (K12.pw x n) k=k (de (K12.pw x (ls l n)))
 |[],n,k=>kY _ _
 |true::r,n,k=>by
  rw[pwK,kY,cond_true,kY,K12.bt_y x (m:=2*n+1) rfl];exact Aq x r _ k
 |false::r,n,k=>by
  rw[pwK,kY,cond_false,K12.bt_n x (m:=2*n) rfl];exact Aq x r _ k
def tnK(l:List Bool)(x:W12)(k:W12→β):β:=pwK x l K12.one k
theorem ME:ls (cU 64 UG []) 0=UG:=by decide+kernel
theorem U6(x:W12)(k:W12→β):tnK (cU 64 UG []) x k=k (tnd UG x):=by
 have h:=Aq x (cU 64 UG []) 0 k
 rw[ME]at h
 exact h
def Qo(l:List Bool)(i:W2→W2)(g:W2)(x:W12)(k:W12→β):β:=
 GR i x fun v=>jZ (K12.mul (de x) v) fun a=>jZ (FRg g a) fun b=>jZ (K12.mul (FRg g b) a) fun y=>
 tnK l y fun t=>jZ (K12.mul t (de y)) fun a=>tnK l a fun t=>jZ (K12.mul t (de a)) fun a=>
 tnK l a fun t=>jZ (K12.mul t (FRg g a)) fun a=>
 tnK l a fun t=>tnK l t fun t=>jZ (FRg g a) fun b=>jZ (K12.mul t (FRg g b)) fun b=>jZ (K12.mul b (de a)) fun b=>
 jZ (K12.mul b y) fun b=>jZ (K12.mul b y) fun b=>jZ (K12.mul b y) k
theorem Mm(x:W12)(k:W12→β):Qo (cU 64 UG []) ivN (-(zp CNn),zp CNn) x k=k (Ai UG x):=by
 rw[←Am]
 have e:FRg GA=cD:=funext fun _=>rfl
 simp only[Qo,aab,kY,U6,e,Ai,fi6,fi5,fi4,fi3,fi2,fi1]
end
def oR(p q:Zp×Zp)(P Q:W2×W2)(c:Bool):Bool:=Aj (cU 63 (UG-2^63) []) ([wkB p P,wkB q Q],K12.one) true fun S b=>b && Qo (cU 64 UG []) ivN (-(zp CNn),zp CNn) (de S.2) fun v=>decide (v=K12.one)==c
theorem JP{p q:Zp×Zp}{P Q:W2×W2}{c:Bool}(h:oR p q P Q c=true):okR (cU 63 (UG-2^63) []) ([wkB p P,wkB q Q],K12.one)=true∧decide (Ai UG (de (rdK (cU 63 (UG-2^63) []) ([wkB p P,wkB q Q],K12.one)).2)=K12.one)=c:=by
 rw[oR,GY,Mm,Bool.true_and,Bool.and_eq_true]at h
 exact ⟨h.1,eq_of_beq h.2⟩
/-! ### Points by literals -/
section
variable {α:Type} [DecidableEq α] (C:Ec α)
def okP(J:α×α×α)(p:α×α):Bool:= !decide (J.2.2=C.R.zero) && (decide (J.1=C.R.mul p.1 (C.z2 J.2.2)) && decide (J.2.1=C.R.mul p.2 (C.z3 J.2.2)))
theorem tT{P:Pt α}{J:α×α×α}{p:α×α}(hP:C.onP P)(h:C.jr J P){l:List Bool}{n:Nat}(hn:ls l 0=n)(k:okP C (C.jm J l (C.R.zero,C.R.zero,C.R.zero)) p=true):C.times P n=some p:=by
 have e:=C.jr_m hP h l (C.R.zero,C.R.zero,C.R.zero) 0 (show C.R.zero=C.R.zero from rfl)
 rw[hn]at e
 simp only[okP,Bool.and_eq_true,Bool.not_eq_true',decide_eq_true_eq,decide_eq_false_iff_not]at k
 exact C.jr_one e (show C.jr _ (some p)from ⟨k.1,k.2.1,k.2.2⟩)
end
def mmH:W2×W2:=((zp 0x15d20c32159aace6759a783461fd9e3c5ea985d29a7a466bc11c0ad3e5923bfee7e335057028e7c7c4db7df243baee61,zp 0x197c335f20db08e91c53aecbabf17e0c0880d2d3f17fa9d9f4f2bb7caae0c05c201db70fd56d044ed05b6cb2968dbb7d),(zp 0x12209a4008d642f9eea9d4b97e3109121080bd5e3893b70e9084e6c7de6e43b98c6c4a52d3f36bbb6713f7adf3de74a1,zp 0x1256e3b423c9dd0d7278b1e110cc625d626824b4f83aa9fc97a084d0c34eacf3cb7800495ae790dc5e24c802b7ad0d16))
def mmS:W2×W2:=((zp 0x6d325bd679cc3f989b68582f4eff2d94b372b1f01bfc04957d6140da52ccacfbe26a24a202e8529b08900d4f1fc1208,zp 0x251a519876f464c83133097ebf1a68721d90b28022e19c8ec4dc00ead36d3245916bb8c56d474b02d613c999d93f6ab),(zp 0x16374371aa881af335027b8be36594ebcd055b4bb5140ec6d06ec145d5fc295c755d03c69406fbe4246b20c59cdd20d4,zp 0x7ebcf4e0bc2ce02d699340e8acbab2337679d458250e250f2cc34d6f37449b878deaa6abfda8e0418bf451f2c80ba1a))
def Yj:Zp×Zp:=(zp 0x9ece308f9d1f0131765212deca99697b112d61f9be9a5f1f3780a51335b3ff981747a0b2ca2179b96d2c0c9024e5224,zp 0x32b80d3a6f5b09f8a84623389c5f80ca69a0cddabc3097f9d9c27310fd43be6e745256c634af45ca3473b0590ae30d1)
def ZU:Zp×Zp:=(zp 0x85ae765588126f5e860d019c0e26235f567a9c0c0b2d8ff30f3e8d436b1082596e5e7462d20f5be3764fd473e57f9cf,zp 0x19e7dfab8a794b6abb9f84e57739de172a63415273f460d1607fa6a74f0acd97d9671b801dd1fd4f18232dd1259359a1)
theorem Ta{x r x' r':W2}(s:SwR wC x r)(s':SwR wg x' r'):E2w.times (E2w.ad (some (XIs x,YIs x (sgS r wC))) (some (XIs x',YIs x' (sgS r' wg)))) HEF=some mmH:=by
 rw[mmq0 s,mmq1 s']
 exact tT E2w (E2w.ad_on (P:=some Ho) (Q:=some Je) Zi aam) (E2w.jr_a (P:=some Ho) (Q:=some Je) Zi aam (mA Ho) (mA Je)) FJ (by decide+kernel)
theorem Va:E2w.on mmH:=by
 unfold Ec.on
 decide+kernel
theorem Tg:E2w.times (some mmH) 8=some mmS:=tT E2w (P:=some mmH) Va (mA mmH) (l:=[true,false,false,false]) rfl (by decide+kernel)
theorem aaI:E1.times (some G1p) 3=some Yj:=tT E1 (P:=some G1p) qb wD (l:=[true,true]) rfl (by decide+kernel)
theorem Qb:E1.times (some G1p) 8=some ZU:=tT E1 (P:=some G1p) qb wD (l:=[true,false,false,false]) rfl (by decide+kernel)
theorem YX:oR ZU (G1p.1,-G1p.2) mmH mmS true=true:=by decide+kernel
theorem chk3:oR Yj (G1p.1,-G1p.2) mmH mmS false=true:=by decide+kernel
end
section
open Go.RowKit
attribute [local simp] a7 bv aJ aB aQ a5 aT aK aO bf bC a6 bz J1.bE J2.bE cf fC eS fE
attribute [local simp] gc
theorem aaG:ORD=RR:=by decide+kernel
theorem Wp(x:Zr):x.val<ORD:=by rw[aaG];exact x.isLt
def Kx(x:Nat):Pt Zp:=E1.times (some G1p) x
theorem sP(x:Nat):E1.onP (Kx x):=E1.times_on kG x
theorem Ey(x:Nat):E1.times (Kx x) ORD=none:=E1.times_ord kG lH x
theorem Fe{x:Nat}(h0:0<x)(h1:x<ORD): ¬Kx x=none:=fun e=>by
 have k:=E1.times_inj (Q:=some G1p) qb (fun _=>hrO) lH (fun e=>by cases e) (m:=x) (n:=0) h1 om e
 omega
theorem Yp{p:Nat→J1.GP}{f:Nat→Nat}: ∀{n:Nat},(∀i,i<n→(p i).P=Kx (f i))→(J1.gSm p n).P=Kx ((List.range n).map f).sum
 |0,_=>rfl
 |n+1,h=>by
  rw[List.range_succ,List.map_append,List.sum_append_nat]
  show E1.ad (J1.gSm p n).P (p n).P=_
  rw[Yp fun i hi=>h i om,h n om,Kx,Kx,←E1.times_add kG]
  simp[Kx]
theorem zn{x:Nat}(h: ¬Kx x=none):PUR 14 [.agg ((EN1 (Kx x)).map U8).toArray] (.tuple #[J1.PtV (cA1 (Kx x) (oI (rP (sP x) (Ey x)))),I 0]):=SX _ (eS _) _ h (rP (sP x) (Ey x))
theorem G5(x:Zr):PUR 7 [RV x] (.agg ((EN1 (Kx x.val)).map U8).toArray):=UH x
theorem QJ: ¬Xm.FBad Xm.mmm SUs 2:=by
 rintro (h|h|h|h)<;>revert h<;>decide
theorem Wa: ∃p:J2.GP,Ms [109#8] p 0∧p.P=some mmH:=by
 obtain ⟨A,B,hs⟩:=GK Xm.mmm SUs
 obtain ⟨p,hp,hc⟩:=phs.ok _ _ _ _ QJ hs
 refine ⟨p,⟨hc,YF (zX hs) hp⟩, ?_⟩
 obtain ⟨⟨x,r,h0,rfl⟩,x',r',h1,rfl⟩:=hs
 rw[show U2n Xm.mmm SUs 0=wC from Xm.mm_0]at h0 hp
 rw[show U2n Xm.mmm SUs 1=wg from Xm.mm_1]at h1 hp
 rw[hp]
 exact Ta h0 h1
def k2(A B:L8):Nat→L8
 |0=>A
 |_=>B
theorem k2_0(A B:L8):k2 A B 0=A:=rfl
theorem k2_1(A B:L8):k2 A B 1=B:=rfl
theorem AN{A B:L8}{s:Nat}(ha:A.length=s)(hb:B.length=s): ∀i,(k2 A B i).length=s
 |0=>ha
 |_+1=>hb
theorem OV{w:World}{b s n:Nat}{K:Nat→L8}(h:w.rangeAt b 0 ((RW s K n).map U8))(hl: ∀i,(K i).length=s):KsAt w b s n K:=fun i hi=>gL h hi (hl i)
theorem KsAt.less{w:World}{b s n m:Nat}{K:Nat→L8}(h:KsAt w b s n K)(hm:m≤n):KsAt w b s m K:=fun i hi=>h i om
theorem Fb(a b e:Zr)(A B E Z S:L8)(lA:A.length=48)(lB:B.length=48)(lS:S.length=96)(hA:PUR 23 [U64 3#64] (RV a))(hB:PUR 23 [U64 5#64] (RV b))(hE:PUR 23 [U64 8#64] (RV e))(hpA:PUR 7 [RV a] (.agg ((A).map U8).toArray))(hpB:PUR 7 [RV b] (.agg ((B).map U8).toArray))(hpE:PUR 7 [RV e] (.agg ((E).map U8).toArray))(hpZ:PUR 7 [aM (List.replicate 6 (0#64))] (.agg ((Z).map U8).toArray))(hS: ∀(bm:Nat) (w':World),Gt w'→BytesAt w' (spt bm) [109#8]→CLS 8 [RV (a+b),.slice (spt bm) 1 1].toArray w' (fun r w''=>r=.returned (.tuple #[.agg ((S).map U8).toArray,I 0])∧Grow w' w''))(hF: ∀(d:Nat) (bm:Nat) (w':World),Gt w'→KsAt w' d 48 2 (k2 A B)→BytesAt w' (spt bm) [109#8]→CLS 25 [.slice (spt d) 2 2,.slice (spt bm) 1 1,.agg ((S).map U8).toArray].toArray w' (fun r w''=>r=.returned (I 0)∧Grow w' w''))(hF': ∀(d:Nat) (bm:Nat) (w':World),Gt w'→KsAt w' d 48 2 (k2 A B)→BytesAt w' (spt bm) [109#8]→CLS 25 [.slice (spt d) 1 2,.slice (spt bm) 1 1,.agg ((S).map U8).toArray].toArray w' (fun r w''=>r=.returned (I 162)∧Grow w' w''))(hV: ∀(bm:Nat) (w':World),Gt w'→BytesAt w' (spt bm) [109#8]→CLS 26 [.agg ((E).map U8).toArray,.slice (spt bm) 1 1,.agg ((S).map U8).toArray].toArray w' (fun r w''=>r=.returned (I 0)∧Grow w' w''))(hK:PUR 14 [.agg ((Z).map U8).toArray] (.tuple #[J1.PtV J1.gInf,I 160]))(hN: ∀w',Gt w'→CLS 27 [.slice none 0 0].toArray w' (fun r w''=>r=.returned (.tuple #[.agg ((List.replicate 48 (0#8)).map U8).toArray,I 161])∧Grow w' w'')):PUR 5 [] (.bool true):=by
 intro w hw
 refine Hf func5 rfl hw<|fun hGF=>ae (E:=EE [1000022])<|Asg rfl<|aa<|ae (E:=EE [1000022])<|Ca rfl (hA)<|Ca rfl (hB)<|Al 1 hGF zv27<|fun b1=>Al 2 hGF zv27<|fun b2=>Sa 1 hGF rfl rfl rfl iO<|Sa 2 hGF rfl rfl rfl iO<|aa<|ae (E:=EE [1000022])<|ek 16 [109#8] hGF rfl rfl rfl dc dc underlying22 sizeOf5 zeroValue5 rfl rfl<|fun b16=>mC 16 rfl hGF rfl rfl underlying22 underlying5 rfl rfl<|Asg rfl<|aa<|ae (E:=EE [1000022])<|La 1 rfl rfl iO<|La 2 rfl rfl iO<|Ca rfl (s8 a b)<|Mv rfl<|Cc rfl ent8 (fun w' hC hG=>hS b16 w' hG (BytesAt.range (aH (n:=16) rfl w' hC)))<|Mv rfl<|Ext rfl rfl<|Ext rfl rfl<|Al 4 hGF zv33<|fun b4=>aw 4 hGF rfl rfl rfl sizeOf33 (by simp[*]) sm (bH _) rfl<|Asg rfl<|aa<|Xd [1000022]<|La 1 rfl rfl iO<|Ca rfl (hpA)<|La 2 rfl rfl iO<|Ca rfl (hpB)<|fh (s:=48) 30 (k2 A B) (List.replicate 48 (0#8)) hGF rfl rfl rfl (fun i _=>AN lA lB i) dc dc underlying65 sizeOf30 sm zv30 rfl rfl<|fun b30=>Asg rfl<|aa<|ae (E:=EE [1000022])<|Mv rfl<|?_
 refine Mv rfl<|bY 4 rfl rfl isAgg33 sizeOf33 (by simp[*]) rfl rfl<|Cc rfl ent25 (fun w' hC hG=>hF b30 b16 w' hG (OV (aH (n:=30) rfl w' hC) (AN lA lB)) (BytesAt.range (aH (n:=16) rfl w' hC)))<|Asg rfl<|aa<|Xd [1000022]<|Mv rfl<|fw (l:=0) (h':=1) rfl underlying65 sizeOf30 rfl rfl om rfl rfl<|Mv rfl<|bY 4 rfl rfl isAgg33 sizeOf33 (by simp[*]) rfl rfl<|Cc rfl ent25 (fun w' hC hG=>hF' b30 b16 w' hG (OV (aH (n:=30) rfl w' hC) (AN lA lB)) (BytesAt.range (aH (n:=16) rfl w' hC)))<|Asg rfl<|aa<|Xd [1000022]<|Ca rfl (hE)<|Ca rfl (hpE)<|Mv rfl<|bY 4 rfl rfl isAgg33 sizeOf33 (by simp[*]) rfl rfl<|Cc rfl ent26 (fun w' hC hG=>hV b16 w' hG (BytesAt.range (aH (n:=16) rfl w' hC)))<|Asg rfl<|aa<|ae (E:=EE [1000022])<|eM zv27 underlying27 (mx sizeOf25) rfl rfl<|Ca rfl (hpZ)<|Ca rfl (hK)<|Mv rfl<|Ext rfl rfl<|Ext rfl rfl<|Al 10 hGF J1.zv54<|fun b10=>Sa 10 hGF rfl rfl rfl cn<|Asg rfl<|aa<|ae (E:=EE [1000022])<|Cc rfl ent27 (fun w' hC hG=>hN w' hG)<|Mv rfl<|Ext rfl rfl<|Ext rfl rfl<|Al 12 hGF zv30<|fun b12=>aw 12 hGF rfl rfl rfl sizeOf30 (by simp[*]) sm (bH _) rfl<|Asg rfl<|?_
 refine aa<|ae (E:=EE [1000022])<|Mv rfl<|Mv rfl<|Bnr (v:=I 0) rfl rfl (fun _=>au _ _ _ oi)<|Mv rfl<|Bnr (v:=I 0) rfl rfl (fun _=>au _ _ _ oi)<|Bnb true rfl rfl (fun _=>dY _ _ _) (rfl)<|Mv rfl<|Mv rfl<|Bnb true rfl rfl (fun _=>dY _ _ _) (rfl)<|Pk rfl rfl rfl<|Mv rfl<|Mv rfl<|Bnb true rfl rfl (fun _=>dY _ _ _) (rfl)<|Pk rfl rfl rfl<|Mv rfl<|Mv rfl<|Bnb true rfl rfl (fun _=>dY _ _ _) (rfl)<|Pk rfl rfl rfl<|Asg rfl<|aa<|am<|Rr<|?_
 exact aG rfl rfl (fun w hw=>⟨rfl,ac hw⟩)
theorem Il(n:Nat)(h0:0<n)(hn:n≤512)(K:Nat→L8)(f:Nat→Nat)(hK: ∀i,i<n→K i=EN1 (Kx (f i))∧¬Kx (f i)=none): ∃P:J1.GP,P.P=Kx ((List.range n).map f).sum∧∀(b cap:Nat) (w:World),Gt w→KsAt w b 48 n K→CLS 61 [.slice (spt b) n cap,.func (.func 14) #[] #[]].toArray w (fun r w'=>r=.returned (.tuple #[J1.PtV P,I 0])∧Grow w w'):=by
 let p:Nat→J1.GP:=fun i=>cA1 (Kx (f i)) (oI (rP (sP _) (Ey _)))
 refine ⟨J1.gSm p n,Yp fun i _=>rfl,fun b cap w hw hk=> ?_⟩
 have k:=J1.Qt n h0 hn K p (fun _=>0) (fun i hi=>⟨by rw[(hK i hi).1];exact eS _,by rw[(hK i hi).1];exact zn (hK i hi).2⟩) n (Nat.le_refl _) (fun _ _=>rfl) (fun h=>absurd h (Nat.lt_irrefl _)) b cap w hw hk
 rw[if_pos rfl,if_pos rfl]at k
 exact k
namespace Q6
theorem UB(n:Nat)(f:Nat→J1.GP×J2.GP)(b cap:Nat)(hn:n≤1000)(h0: ¬WSf f n=[])(hz:okR D63 (WSf f n,K12.one)=true)(w:World)(hw:Gt w)(h:w.rangeAt b 0 ((RW 54 (fun i=>PRv (f i)) n).map U64)):CLS 163 [.slice (spt b) n cap].toArray w (fun r w'=>r=.returned (cF (LPv f n))∧Grow w w'):=by
 have hl:=Nat.le_trans (ua f n) hn
 have hb:=fun w' hw' hr=>Lj n f b cap hn w' hw' hr
 rw[LPv]
 revert h hb
 generalize (RW 54 (fun i=>PRv (f i)) n).map U64=cs
 intro h hb
 refine Rk (WSf f n) n b cap cs hl (fun k hk hd w hw=> ?_) (fun w' hw' hr=>(hb w' hw' hr).mono fun r w'' h=> ?_) w hw h
 ·obtain ⟨v,hv,rfl⟩:=List.mem_map.1 hw
  exact Gi _ _ hz k (by rw[u2 hk,hd]) v hv
 rcases h with ⟨bW,cW,capW,h1,h2,h3,h4,h5,_⟩|⟨e,_⟩
 ·refine ⟨bW,cW.drop (wcl (WSf f n)).length,capW,h1,h2,h3, ?_⟩
  have e:wcl (WSf f n)++cW.drop (wcl (WSf f n)).length=cW:=by
   conv=>lhs;arg 1;rw[←h5]
   exact List.take_append_drop _ _
  rw[e];exact h4
 ·exact absurd e h0
theorem Wb:D63=cU 63 (UG-2^63) []:=by decide+kernel
theorem nE{α:Type}{x:Option α}{a:α}(h:x=some a): ¬x=none:=fun e=>by rw[h]at e;cases e
theorem Mq{p q:Zp×Zp}{P Q:W2×W2}{a b:J1.GP×J2.GP}(h1:a.1.P=some p)(h2:a.2.P=some P)(h3:b.1.P=some q)(h4:b.2.P=some Q){c:Bool}(h:oR p q P Q c=true)(d:Nat)(w:World)(hw:Gt w)(hr:w.rangeAt d 0 ((RW 54 (fun i=>PRv (v2p a b i)) 2).map U64)):CLS 111 [.slice (spt d) 2 2].toArray w (fun r w'=>r=.returned (.bool c)∧Grow w w'):=by
 have hW:WSf (v2p a b) 2=[wkB p P,wkB q Q]:=by
  rw[J7 (f:=v2p a b) (i:=1) (nE h3) (nE h4),J7 (f:=v2p a b) (i:=0) (nE h1) (nE h2)]
  show [wkB (J1.PX a.1.P,J1.PY a.1.P) (J2.PX a.2.P,J2.PY a.2.P),wkB (J1.PX b.1.P,J1.PY b.1.P) (J2.PX b.2.P,J2.PY b.2.P)]=_
  rw[h1,h2,h3,h4]
  rfl
 obtain ⟨k1,k2⟩:=JP h
 rw[←Wb,←hW]at k1 k2
 have e:LPv (v2p a b) 2=de (rdK D63 (WSf (v2p a b) 2,K12.one)).2:=by rw[LPv,SK,List.take_of_length_le (by rw[u4];exact Nat.le_refl _)]
 have k:=Lr 2 2 (spt d) (LPv (v2p a b) 2) w hw fun w' hG hg=>UB 2 (v2p a b) d 2 dc (by rw[hW];exact fun e=>by cases e) k1 w' hG (j9 hr hg)
 rw[e,k2]at k
 exact k
end Q6
theorem Cr(K:J1.GP){g:Zp×Zp}(hK:K.P=some g)(msg:L8)(H:J2.GP)(hH:H.P=some mmH)(hM:Ms msg H 0)(hD:D2 (EN2 (some mmS)) 0 (some mmS))(c:Bool)(e:Int)(he:(c=true∧e=0)∨(c=false∧e=162))(hq:oR g (G1p.1,-G1p.2) mmH mmS c=true)(a:Option Addr)(cap:Nat)(hl:msg.length≤65600)(hc:msg.length≤cap)(w:World)(hw:Gt w)(hb:BytesAt w a msg):CLS 62 [J1.PtV K,.slice a msg.length cap,.agg ((EN2 (some mmS)).map U8).toArray].toArray w (fun r w'=>r=.returned (I e)∧Grow w w'):=by
 have hk:=fun (d:Nat) (w':World) (hG:Gt w') hr=>Q6.Mq (a:=(K,H)) (b:=(J1.kT J1.yF,cA2 (some mmS) (oG hD))) hK hH rfl rfl hq d w' hG hr
 rcases he with ⟨rfl,rfl⟩|⟨rfl,rfl⟩
 ·exact WD K _ (fE _) _ hD msg H hM a cap hl hc hk w hw hb
 ·exact Yg K _ (fE _) _ hD msg H hM a cap hl hc hk w hw hb
theorem Nf(x:Nat){g:Zp×Zp}(hg:Kx x=some g)(msg:L8)(H:J2.GP)(hH:H.P=some mmH)(hM:Ms msg H 0)(hD:D2 (EN2 (some mmS)) 0 (some mmS))(hq:oR g (G1p.1,-G1p.2) mmH mmS true=true)(a:Option Addr)(cap:Nat)(hl:msg.length≤65600)(hc:msg.length≤cap)(w:World)(hw:Gt w)(hb:BytesAt w a msg):CLS 26 [.agg ((EN1 (Kx x)).map U8).toArray,.slice a msg.length cap,.agg ((EN2 (some mmS)).map U8).toArray].toArray w (fun r w'=>r=.returned (I 0)∧Grow w w'):=
 Zy w (cA1 (Kx x) (oI (rP (sP x) (Ey x)))) (EN1 (Kx x)) (eS _) (zn (Q6.nE hg)) a msg.length cap _ (fE _) 0 (fun w' hG hg'=>Cr _ hg msg H hH hM hD true 0 (.inl ⟨rfl,rfl⟩) hq a cap hl hc w' hG (hb.grow hg')) hw
theorem DB(w:World)(hw:Gt w):CLS 27 [.slice none 0 0].toArray w (fun r w'=>r=.returned (.tuple #[.agg ((List.replicate 48 (0#8)).map U8).toArray,I 161])∧Grow w w'):=J0 w J1.gInf 161 dc none 0 0 (fun w' hG _=>J1.HD 0 rfl _ none 0 w' hG) hw
theorem BF:PUR 14 [.agg ((EN1 none).map U8).toArray] (.tuple #[J1.PtV J1.gInf,I 160]):=Me _ (eS _) none rfl (rP (P:=none) True.intro (E1.times_none ORD))
def fz:Nat→Nat
 |0=>3
 |_=>5
theorem tZ:PUR 5 [] (.bool true):=by
 obtain ⟨H,hM,hH⟩:=Wa
 have e8:(zr (3#64).toNat+zr (5#64).toNat:Zr).val=8:=by decide+kernel
 have h3:(zr (3#64).toNat).val=3:=by decide+kernel
 have h5:(zr (5#64).toNat).val=5:=by decide+kernel
 have h8:(zr (8#64).toNat).val=8:=by decide+kernel
 have lt: ∀{k:Nat},k<100→k<ORD:=fun h=>Nat.lt_trans h (by decide+kernel)
 have pb: ∀(x:Zr) (k:Nat),x.val=k→PUR 7 [RV x] (.agg ((EN1 (Kx k)).map U8).toArray):=fun x k h=>by subst h;exact UH x
 have hK: ∀i,i<2→k2 (EN1 (Kx 3)) (EN1 (Kx 5)) i=EN1 (Kx (fz i))∧¬Kx (fz i)=none:=fun i hi=>by
  match i,hi with
  |0,_=>rw[show fz 0=3 from rfl];exact ⟨k2_0 _ _,Fe dc (lt dc)⟩
  |1,_=>rw[show fz 1=5 from rfl];exact ⟨k2_1 _ _,Fe dc (lt dc)⟩
 have e0:E2w.times H.P 8=some mmS:=by rw[hH];exact Tg
 have oS:E2w.onP (some mmS):=e0▸E2w.times_on H.on 8
 have rS:E2w.times (some mmS) ORD=none:=e0▸E2w.times_ord H.on hM.r 8
 have hD:=YL oS rS
 have fst: ∀(n:Nat) (h0:0<n) (hn:n≤2) (g:Zp×Zp) (_:Kx ((List.range n).map fz).sum=some g) (c:Bool) (e:Int) (_:(c=true∧e=0)∨(c=false∧e=162)) (_:oR g (G1p.1,-G1p.2) mmH mmS c=true) (d bm:Nat) (w':World),Gt w'→KsAt w' d 48 2 (k2 (EN1 (Kx 3)) (EN1 (Kx 5)))→BytesAt w' (spt bm) [109#8]→CLS 25 [.slice (spt d) n 2,.slice (spt bm) 1 1,.agg ((EN2 (some mmS)).map U8).toArray].toArray w' (fun r w''=>r=.returned (I e)∧Grow w' w''):=by
  intro n h0 hn g hg c e he hq d bm w' hG hk hb
  obtain ⟨P,hP,hs⟩:=Il n h0 om (k2 (EN1 (Kx 3)) (EN1 (Kx 5))) fz (fun i hi=>hK i om)
  exact Yq w' P (spt d) n 2 (fun w' hG hg=>hs d 2 w' hG ((hk.less hn).up hg)) _ 1 1 (EN2 (some mmS)) (fE _) e (fun w' hG hg'=>Cr P (hP.trans hg) [109#8] H hH hM hD c e he hq _ 1 dc dc w' hG (hb.grow hg')) hG
 refine Fb _ _ _ (EN1 (Kx 3)) (EN1 (Kx 5)) (EN1 (Kx 8)) (EN1 none) (EN2 (some mmS)) (eS _) (eS _) (fE _) (qH 3#64) (qH 5#64) (qH 8#64) (pb _ 3 h3) (pb _ 5 h5) (pb _ 8 h8) ?_ ?_ ?_ ?_ ?_ BF DB
 ·have k:=UH 0
  rw[RV,Sr]at k
  exact k
 ·intro bm w' hG hb
  have k:=wN (zr (3#64).toNat+zr (5#64).toNat) [109#8] H hM (spt bm) 1 w' dc dc hG hb
  rw[show (J2.sJ H (zr (3#64).toNat+zr (5#64).toNat)).P=E2w.times H.P 8 from by rw[←e8];rfl,e0]at k
  exact k
 ·exact fst 2 dc dc _ Qb true 0 (.inl ⟨rfl,rfl⟩) YX
 ·exact fst 1 dc dc _ aaI false 162 (.inr ⟨rfl,rfl⟩) chk3
 ·intro bm w' hG hb
  exact Nf 8 Qb [109#8] H hH hM hD YX _ 1 dc dc w' hG hb
end
section
open Go.RowKit
attribute [local simp] a7 bv aJ aB aQ a5 aT aK aO bf bC a6 bz J1.bE J2.bE cf fC
theorem Wi(x y z:W2)(hz: ¬z=on2):PUR 47 [EV6 (x,y,z)] (.tuple #[EV2 (ml2 x (ml2 (iv2 z) (iv2 z))),EV2 (ml2 (ml2 y (ml2 (iv2 z) (iv2 z))) (iv2 z))]):=by
 intro w hw
 refine Hf func47 rfl hw<|fun hGF=>Xp<|Bx 1 hGF rfl<|fun b1=>Al 2 hGF zv41<|fun b2=>Al 3 hGF zv41<|fun b3=>aa<|ah<|Xd []<|Fa 24 rfl underlying43 rfl sizeOf41<|ay 1 _ rfl rfl isAgg41 sizeOf41 sm (gu (m:=12) (n:=12) sm sm rfl) rfl rfl<|Ca rfl (ow)<|uD false rfl rfl (fun _=>PV _ _ _ _ _ _) (fun w=>Pp _ _ sm sm w) ((K7 z on2).trans (decide_eq_false hz)) rfl rfl<|aa<|aC rfl<|aq<|Xp<|Fa 24 rfl underlying43 rfl sizeOf41<|ay 1 _ rfl rfl isAgg41 sizeOf41 sm (gu (m:=12) (n:=12) sm sm rfl) rfl rfl<|Ca rfl (mg _)<|Al 4 hGF zv41<|fun b4=>Sa 4 hGF rfl rfl rfl bI<|aa<|Xp<|La 4 rfl rfl bI<|La 4 rfl rfl bI<|Ca rfl (eU _ _)<|Al 5 hGF zv41<|fun b5=>Sa 5 hGF rfl rfl rfl bI<|aa<|gt (E:=EE []) (fun X=>X=Hp (pl w) []) (mkB [2]) (rkB []) [0,1,2,3,4,5,6,7,8,9,10,11] cL rfl kr kr kr<|dP rfl rfl<|Fa 0 rfl underlying43 rfl sizeOf41<|aa<|dP rfl rfl<|ay 1 _ rfl rfl isAgg41 sizeOf41 sm ed rfl rfl<|aa<|dP rfl rfl<|La 5 rfl rfl bI<|aa<|dP rfl rfl<|?_
 refine Ca rfl (eU _ _)<|aa<|dP rfl rfl<|Fa 12 rfl underlying43 rfl sizeOf41<|aa<|dP rfl rfl<|ay 1 _ rfl rfl isAgg41 sizeOf41 sm (kS sm) rfl rfl<|aa<|dP rfl rfl<|La 5 rfl rfl bI<|aa<|dP rfl rfl<|Ca rfl (eU _ _)<|aa<|dP rfl rfl<|La 4 rfl rfl bI<|aa<|dP rfl rfl<|Ca rfl (eU _ _)<|aa<|fU rfl<|Sa 2 hGF rfl rfl rfl bI<|aa<|?_
 refine ⟨fun _ X hX _=>by subst hX;exact cN ao trivial, ?_⟩
 refine fU rfl<|Sa 3 hGF rfl rfl rfl bI<|aa<|?_
 refine ⟨fun h=>(by cases h), ?_⟩
 refine fX<|am<|Rr<|?_
 exact iQ 2 3 rfl rfl rfl rfl rfl isAgg41 sizeOf41 sm sm (fun w hw=>⟨rfl,ac hw⟩)
theorem Cd(J:W6)(a b:W2)(h:E2w.jr J (some (a,b))):PUR 47 [EV6 J] (.tuple #[EV2 a,EV2 b]):=by
 obtain ⟨x,y,z⟩:=J
 by_cases hz:z=on2
 ·subst hz
  have e:=E2w.jr_xy (E2w.jr_at (a,b) G8)
  have e1:x=a:=(h.2.1).trans (by show ml2 a (ml2 on2 on2)=a;rw[show ml2 on2 on2=on2 from R2.mul_one _];exact R2.mul_one _)
  have e2:y=b:=(h.2.2).trans (by show ml2 b (ml2 (ml2 on2 on2) on2)=b;rw[show ml2 on2 on2=on2 from R2.mul_one _,show ml2 on2 on2=on2 from R2.mul_one _];exact R2.mul_one _)
  subst e1 e2
  exact r9xy _ _
 ·have e:=E2w.jr_xy h
  have k:=Wi x y z hz
  rw[show ml2 x (ml2 (iv2 z) (iv2 z))=a from e.1,show ml2 (ml2 y (ml2 (iv2 z) (iv2 z))) (iv2 z)=b from (R2.mul_assoc _ _ _).trans e.2]at k
  exact k
theorem Eg(J:W6)(hJ:J.2.2=ze2)(w:World)(hw:Gt w):CLS 16 [EV6 J,.bool false].toArray w (fun e w'=> ∃bm,e=.returned (.slice (spt bm) 48 48)∧Grow w w'∧w.heap.size≤bm∧OwnB w' bm (((List.replicate 48 0#8).set 0 192#8).map U8) 5):=by
 refine Hf func16 rfl hw<|fun hGF=>Xp<|Bx 2 hGF rfl<|fun b2=>Asg rfl<|aa<|Xp<|Asg rfl<|aa<|ah<|Xp<|Mv rfl<|aa<|aC rfl<|aq<|Xp<|Mv rfl<|jg 6 hGF rfl rfl underlying22 ti5.choose_spec.1 ti5.choose_spec.2.1 (hmk 48 dc) (hmc 48 ti5.choose_spec Qr) rfl rfl<|fun b6=>Asg rfl<|aa<|ah<|Xp<|La 2 rfl rfl iD<|Cbl true rfl ent22 (mE _) (decide_eq_true hJ)<|aa<|aR rfl<|Xp<|Mv rfl<|fP 0 rfl rfl underlying22 sizeOf5 dc dc rfl rfl<|aV 6 U8 hGF rfl rfl rfl sizeOf5 rfl sm rfl<|aa<|Xp<|Mv rfl<|Asg rfl<|aa<|am<|Rr<|?_
 exact aG rfl rfl (fun w hw=>⟨b6,rfl,ac hw,(hw.own 6 b6 _ _ rfl).2.elim id False.elim,(hw.own 6 b6 _ _ rfl).1⟩)
theorem DD(J:W6)(a b:W2)(hJ:E2w.jr J (some (a,b)))(hl:LG2 b=true)(w:World)(hw:Gt w):CLS 16 [EV6 J,.bool false].toArray w (fun e w'=> ∃bm,e=.returned (.slice (spt bm) 48 48)∧Grow w w'∧w.heap.size≤bm∧OwnB w' bm ((OR0 (OR0 (ch a.1) 128#8) 32#8).map U8) 5):=by
 refine Hf func16 rfl hw<|fun hGF=>Xp<|Bx 2 hGF rfl<|fun b2=>Asg rfl<|aa<|Xp<|Asg rfl<|aa<|ah<|Xp<|Mv rfl<|aa<|aC rfl<|aq<|Xp<|Mv rfl<|jg 6 hGF rfl rfl underlying22 ti5.choose_spec.1 ti5.choose_spec.2.1 (hmk 48 dc) (hmc 48 ti5.choose_spec Qr) rfl rfl<|fun b6=>Asg rfl<|aa<|ah<|Xp<|La 2 rfl rfl iD<|Cbl false rfl ent22 (mE _) (decide_eq_false hJ.1)<|aa<|aC rfl<|aq<|Xp<|La 2 rfl rfl iD<|Ca rfl (Cd J a b hJ)<|Mv rfl<|Ext rfl rfl<|Ext rfl rfl<|Al 7 hGF zv41<|fun b7=>Al 8 hGF zv41<|fun b8=>Sa 7 hGF rfl rfl rfl bI<|Sa 8 hGF rfl rfl rfl bI<|aa<|ef (E:=EE [2999999]) [0,1,2,3,4,5,6,7] [⟨8,9,29,(List.replicate 48 (0#8)).map U8⟩,⟨9,10,29,(List.replicate 48 (0#8)).map U8⟩] [10,11] cL rfl kr kr kr kr kr kr dc (by intro x hx;simp only[List.mem_cons,List.not_mem_nil,or_false]at hx;rcases hx with rfl|rfl<;>exact bp rfl zv29 rfl)<|Fa 0 rfl underlying41 rfl sizeOf39<|ay 7 _ rfl rfl isAgg39 sizeOf39 sm ed rfl rfl<|?_
 refine Ca rfl (ia _)<|Ca rfl (jt _)<|Fa 6 rfl underlying41 rfl sizeOf39<|ay 7 _ rfl rfl isAgg39 sizeOf39 sm (iC sm) rfl rfl<|Ca rfl (ia _)<|Ca rfl (jt _)<|aa<|?_
 refine ⟨_,_,rfl,hGF,by intro x hx;simp only[List.mem_cons,List.not_mem_nil,or_false]at hx;rcases hx with rfl|rfl<;>rfl,by intro x hx;simp only[List.mem_cons,List.not_mem_nil,or_false]at hx;rcases hx with rfl|rfl<;>rfl,fun adr=> ?_⟩
 refine aw 9 hGF rfl rfl rfl sizeOf29 sm sm (bH _) rfl<|aw 10 hGF rfl rfl rfl sizeOf29 sm sm (bH _) rfl<|aa<|ah<|Xp<|Mv rfl<|aa<|aC rfl<|aq<|Xd []<|Mv rfl<|Mv rfl<|Bnr (v:=I 0) rfl rfl (fun _=>aX _ _ _ oi)<|fw (l:=0) (h':=48) rfl underlying22 sizeOf5 rfl rfl dc rfl rfl<|bD (l:=0) (h':=48) rfl underlying29 sizeOf5 rfl rfl om om rfl rfl<|dB 6 (o:=0) (cs:=ch a.1) hGF rfl rfl rfl underlying22 sz5 sm (fun w' h=>BytesAt.range (aH (n:=9) rfl w' h)) sm rfl rfl<|?_
 rw[OO]
 refine aa<|Xp<|Mv rfl<|fP 0 rfl rfl underlying22 sizeOf5 dc dc rfl rfl<|Lm 6 U8 0 rfl rfl isAgg5 sm<|Bnr (v:=U8 ((ch a.1).getD 0 0|||128#8)) rfl rfl (fun _=>dw _ _ 128#8)<|fP 0 rfl rfl underlying22 sizeOf5 dc dc rfl rfl<|aV 6 U8 hGF rfl rfl rfl sizeOf5 rfl sm rfl<|aa<|ah<|Xp<|La 8 rfl rfl bI<|Cbl true rfl ent49 (nJ _) (hl)<|aa<|aR rfl<|Xq<|Mv rfl<|fP 0 rfl rfl underlying22 sizeOf5 dc dc rfl rfl<|Lm 6 U8 0 rfl rfl isAgg5 sm<|Bnr (v:=U8 ((OR0 (ch a.1) 128#8).getD 0 0|||32#8)) rfl rfl (fun _=>dw _ _ 32#8)<|fP 0 rfl rfl underlying22 sizeOf5 dc dc rfl rfl<|aV 6 U8 hGF rfl rfl rfl sizeOf5 rfl sm rfl<|aa<|Xp<|Mv rfl<|Asg rfl<|aa<|am<|Rr<|?_
 exact aG rfl rfl (fun w hw=>⟨b6,rfl,ac hw,(hw.own 6 b6 _ _ rfl).2.elim id False.elim,(hw.own 6 b6 _ _ rfl).1⟩)
theorem DS(J:W6)(a b:W2)(hJ:E2w.jr J (some (a,b)))(hl:LG2 b=false)(w:World)(hw:Gt w):CLS 16 [EV6 J,.bool false].toArray w (fun e w'=> ∃bm,e=.returned (.slice (spt bm) 48 48)∧Grow w w'∧w.heap.size≤bm∧OwnB w' bm ((OR0 (ch a.1) 128#8).map U8) 5):=by
 refine Hf func16 rfl hw<|fun hGF=>Xp<|Bx 2 hGF rfl<|fun b2=>Asg rfl<|aa<|Xp<|Asg rfl<|aa<|ah<|Xp<|Mv rfl<|aa<|aC rfl<|aq<|Xp<|Mv rfl<|jg 6 hGF rfl rfl underlying22 ti5.choose_spec.1 ti5.choose_spec.2.1 (hmk 48 dc) (hmc 48 ti5.choose_spec Qr) rfl rfl<|fun b6=>Asg rfl<|aa<|ah<|Xp<|La 2 rfl rfl iD<|Cbl false rfl ent22 (mE _) (decide_eq_false hJ.1)<|aa<|aC rfl<|aq<|Xp<|La 2 rfl rfl iD<|Ca rfl (Cd J a b hJ)<|Mv rfl<|Ext rfl rfl<|Ext rfl rfl<|Al 7 hGF zv41<|fun b7=>Al 8 hGF zv41<|fun b8=>Sa 7 hGF rfl rfl rfl bI<|Sa 8 hGF rfl rfl rfl bI<|aa<|ef (E:=EE [2999999]) [0,1,2,3,4,5,6,7] [⟨8,9,29,(List.replicate 48 (0#8)).map U8⟩,⟨9,10,29,(List.replicate 48 (0#8)).map U8⟩] [10,11] cL rfl kr kr kr kr kr kr dc (by intro x hx;simp only[List.mem_cons,List.not_mem_nil,or_false]at hx;rcases hx with rfl|rfl<;>exact bp rfl zv29 rfl)<|Fa 0 rfl underlying41 rfl sizeOf39<|ay 7 _ rfl rfl isAgg39 sizeOf39 sm ed rfl rfl<|?_
 refine Ca rfl (ia _)<|Ca rfl (jt _)<|Fa 6 rfl underlying41 rfl sizeOf39<|ay 7 _ rfl rfl isAgg39 sizeOf39 sm (iC sm) rfl rfl<|Ca rfl (ia _)<|Ca rfl (jt _)<|aa<|?_
 refine ⟨_,_,rfl,hGF,by intro x hx;simp only[List.mem_cons,List.not_mem_nil,or_false]at hx;rcases hx with rfl|rfl<;>rfl,by intro x hx;simp only[List.mem_cons,List.not_mem_nil,or_false]at hx;rcases hx with rfl|rfl<;>rfl,fun adr=> ?_⟩
 refine aw 9 hGF rfl rfl rfl sizeOf29 sm sm (bH _) rfl<|aw 10 hGF rfl rfl rfl sizeOf29 sm sm (bH _) rfl<|aa<|ah<|Xp<|Mv rfl<|aa<|aC rfl<|aq<|Xd []<|Mv rfl<|Mv rfl<|Bnr (v:=I 0) rfl rfl (fun _=>aX _ _ _ oi)<|fw (l:=0) (h':=48) rfl underlying22 sizeOf5 rfl rfl dc rfl rfl<|bD (l:=0) (h':=48) rfl underlying29 sizeOf5 rfl rfl om om rfl rfl<|dB 6 (o:=0) (cs:=ch a.1) hGF rfl rfl rfl underlying22 sz5 sm (fun w' h=>BytesAt.range (aH (n:=9) rfl w' h)) sm rfl rfl<|?_
 rw[OO]
 refine aa<|Xp<|Mv rfl<|fP 0 rfl rfl underlying22 sizeOf5 dc dc rfl rfl<|Lm 6 U8 0 rfl rfl isAgg5 sm<|Bnr (v:=U8 ((ch a.1).getD 0 0|||128#8)) rfl rfl (fun _=>dw _ _ 128#8)<|fP 0 rfl rfl underlying22 sizeOf5 dc dc rfl rfl<|aV 6 U8 hGF rfl rfl rfl sizeOf5 rfl sm rfl<|aa<|ah<|Xp<|La 8 rfl rfl bI<|Cbl false rfl ent49 (nJ _) (hl)<|aa<|aC rfl<|aq<|Xp<|Mv rfl<|Asg rfl<|aa<|am<|Rr<|?_
 exact aG rfl rfl (fun w hw=>⟨b6,rfl,ac hw,(hw.own 6 b6 _ _ rfl).2.elim id False.elim,(hw.own 6 b6 _ _ rfl).1⟩)
theorem Et(J:W6)(hJ:J.2.2=ze2)(w:World)(hw:Gt w):CLS 16 [EV6 J,.bool true].toArray w (fun e w'=> ∃bm,e=.returned (.slice (spt bm) 96 96)∧Grow w w'∧w.heap.size≤bm∧OwnB w' bm (((List.replicate 96 0#8).set 0 192#8).map U8) 5):=by
 refine Hf func16 rfl hw<|fun hGF=>Xp<|Bx 2 hGF rfl<|fun b2=>Asg rfl<|aa<|Xp<|Asg rfl<|aa<|ah<|Xp<|Mv rfl<|aa<|aR rfl<|Xq<|Asg rfl<|aa<|Xp<|Mv rfl<|jg 6 hGF rfl rfl underlying22 ti5.choose_spec.1 ti5.choose_spec.2.1 (hmk 96 dc) (hmc 96 ti5.choose_spec Qw) rfl rfl<|fun b6=>Asg rfl<|aa<|ah<|Xp<|La 2 rfl rfl iD<|Cbl true rfl ent22 (mE _) (decide_eq_true hJ)<|aa<|aR rfl<|Xp<|Mv rfl<|fP 0 rfl rfl underlying22 sizeOf5 dc dc rfl rfl<|aV 6 U8 hGF rfl rfl rfl sizeOf5 rfl sm rfl<|aa<|Xp<|Mv rfl<|Asg rfl<|aa<|am<|Rr<|?_
 exact aG rfl rfl (fun w hw=>⟨b6,rfl,ac hw,(hw.own 6 b6 _ _ rfl).2.elim id False.elim,(hw.own 6 b6 _ _ rfl).1⟩)
theorem DE(J:W6)(a b:W2)(hJ:E2w.jr J (some (a,b)))(hl:LG2 b=true)(w:World)(hw:Gt w):CLS 16 [EV6 J,.bool true].toArray w (fun e w'=> ∃bm,e=.returned (.slice (spt bm) 96 96)∧Grow w w'∧w.heap.size≤bm∧OwnB w' bm ((OR0 (OR0 (ch a.2++ch a.1) 128#8) 32#8).map U8) 5):=by
 refine Hf func16 rfl hw<|fun hGF=>Xp<|Bx 2 hGF rfl<|fun b2=>Asg rfl<|aa<|Xp<|Asg rfl<|aa<|ah<|Xp<|Mv rfl<|aa<|aR rfl<|Xq<|Asg rfl<|aa<|Xp<|Mv rfl<|jg 6 hGF rfl rfl underlying22 ti5.choose_spec.1 ti5.choose_spec.2.1 (hmk 96 dc) (hmc 96 ti5.choose_spec Qw) rfl rfl<|fun b6=>Asg rfl<|aa<|ah<|Xp<|La 2 rfl rfl iD<|Cbl false rfl ent22 (mE _) (decide_eq_false hJ.1)<|aa<|aC rfl<|aq<|Xp<|La 2 rfl rfl iD<|Ca rfl (Cd J a b hJ)<|Mv rfl<|Ext rfl rfl<|Ext rfl rfl<|Al 7 hGF zv41<|fun b7=>Al 8 hGF zv41<|fun b8=>Sa 7 hGF rfl rfl rfl bI<|Sa 8 hGF rfl rfl rfl bI<|aa<|ef (E:=EE [2999999]) [0,1,2,3,4,5,6,7] [⟨8,9,29,(List.replicate 48 (0#8)).map U8⟩,⟨9,10,29,(List.replicate 48 (0#8)).map U8⟩] [10,11] cL rfl kr kr kr kr kr kr dc (by intro x hx;simp only[List.mem_cons,List.not_mem_nil,or_false]at hx;rcases hx with rfl|rfl<;>exact bp rfl zv29 rfl)<|?_
 refine Fa 0 rfl underlying41 rfl sizeOf39<|ay 7 _ rfl rfl isAgg39 sizeOf39 sm ed rfl rfl<|Ca rfl (ia _)<|Ca rfl (jt _)<|Fa 6 rfl underlying41 rfl sizeOf39<|ay 7 _ rfl rfl isAgg39 sizeOf39 sm (iC sm) rfl rfl<|Ca rfl (ia _)<|Ca rfl (jt _)<|aa<|?_
 refine ⟨_,_,rfl,hGF,by intro x hx;simp only[List.mem_cons,List.not_mem_nil,or_false]at hx;rcases hx with rfl|rfl<;>rfl,by intro x hx;simp only[List.mem_cons,List.not_mem_nil,or_false]at hx;rcases hx with rfl|rfl<;>rfl,fun adr=> ?_⟩
 refine aw 9 hGF rfl rfl rfl sizeOf29 sm sm (bH _) rfl<|aw 10 hGF rfl rfl rfl sizeOf29 sm sm (bH _) rfl<|aa<|ah<|Xp<|Mv rfl<|aa<|aR rfl<|Xq<|Mv rfl<|bD (l:=0) (h':=48) rfl underlying29 sizeOf5 rfl rfl om om rfl rfl<|dB 6 (o:=0) (cs:=ch a.2) hGF rfl rfl rfl underlying22 sz5 sm (fun w' h=>BytesAt.range (aH (n:=10) rfl w' h)) sm rfl rfl<|?_
 rw[rL]
 refine aa<|Xd []<|Mv rfl<|Mv rfl<|Bnr (v:=I 48) rfl rfl (fun _=>aX _ _ _ oi)<|fw (l:=48) (h':=96) rfl underlying22 sizeOf5 rfl rfl dc rfl rfl<|bD (l:=0) (h':=48) rfl underlying29 sizeOf5 rfl rfl om om rfl rfl<|dB 6 (o:=48) (cs:=ch a.1) hGF rfl rfl rfl underlying22 sz5 sm (fun w' h=>BytesAt.range (aH (n:=9) rfl w' h)) sm rfl rfl<|?_
 rw[se]
 refine aa<|Xp<|Mv rfl<|fP 0 rfl rfl underlying22 sizeOf5 dc dc rfl rfl<|Lm 6 U8 0 rfl rfl isAgg5 sm<|Bnr (v:=U8 ((ch a.2++ch a.1).getD 0 0|||128#8)) rfl rfl (fun _=>dw _ _ 128#8)<|fP 0 rfl rfl underlying22 sizeOf5 dc dc rfl rfl<|aV 6 U8 hGF rfl rfl rfl sizeOf5 rfl sm rfl<|aa<|ah<|Xp<|La 8 rfl rfl bI<|Cbl true rfl ent49 (nJ _) (hl)<|aa<|aR rfl<|Xq<|Mv rfl<|fP 0 rfl rfl underlying22 sizeOf5 dc dc rfl rfl<|Lm 6 U8 0 rfl rfl isAgg5 sm<|Bnr (v:=U8 ((OR0 (ch a.2++ch a.1) 128#8).getD 0 0|||32#8)) rfl rfl (fun _=>dw _ _ 32#8)<|fP 0 rfl rfl underlying22 sizeOf5 dc dc rfl rfl<|aV 6 U8 hGF rfl rfl rfl sizeOf5 rfl sm rfl<|aa<|Xp<|Mv rfl<|Asg rfl<|aa<|am<|Rr<|?_
 exact aG rfl rfl (fun w hw=>⟨b6,rfl,ac hw,(hw.own 6 b6 _ _ rfl).2.elim id False.elim,(hw.own 6 b6 _ _ rfl).1⟩)
theorem Dy(J:W6)(a b:W2)(hJ:E2w.jr J (some (a,b)))(hl:LG2 b=false)(w:World)(hw:Gt w):CLS 16 [EV6 J,.bool true].toArray w (fun e w'=> ∃bm,e=.returned (.slice (spt bm) 96 96)∧Grow w w'∧w.heap.size≤bm∧OwnB w' bm ((OR0 (ch a.2++ch a.1) 128#8).map U8) 5):=by
 refine Hf func16 rfl hw<|fun hGF=>Xp<|Bx 2 hGF rfl<|fun b2=>Asg rfl<|aa<|Xp<|Asg rfl<|aa<|ah<|Xp<|Mv rfl<|aa<|aR rfl<|Xq<|Asg rfl<|aa<|Xp<|Mv rfl<|jg 6 hGF rfl rfl underlying22 ti5.choose_spec.1 ti5.choose_spec.2.1 (hmk 96 dc) (hmc 96 ti5.choose_spec Qw) rfl rfl<|fun b6=>Asg rfl<|aa<|ah<|Xp<|La 2 rfl rfl iD<|Cbl false rfl ent22 (mE _) (decide_eq_false hJ.1)<|aa<|aC rfl<|aq<|Xp<|La 2 rfl rfl iD<|Ca rfl (Cd J a b hJ)<|Mv rfl<|Ext rfl rfl<|Ext rfl rfl<|Al 7 hGF zv41<|fun b7=>Al 8 hGF zv41<|fun b8=>Sa 7 hGF rfl rfl rfl bI<|Sa 8 hGF rfl rfl rfl bI<|aa<|ef (E:=EE [2999999]) [0,1,2,3,4,5,6,7] [⟨8,9,29,(List.replicate 48 (0#8)).map U8⟩,⟨9,10,29,(List.replicate 48 (0#8)).map U8⟩] [10,11] cL rfl kr kr kr kr kr kr dc (by intro x hx;simp only[List.mem_cons,List.not_mem_nil,or_false]at hx;rcases hx with rfl|rfl<;>exact bp rfl zv29 rfl)<|?_
 refine Fa 0 rfl underlying41 rfl sizeOf39<|ay 7 _ rfl rfl isAgg39 sizeOf39 sm ed rfl rfl<|Ca rfl (ia _)<|Ca rfl (jt _)<|Fa 6 rfl underlying41 rfl sizeOf39<|ay 7 _ rfl rfl isAgg39 sizeOf39 sm (iC sm) rfl rfl<|Ca rfl (ia _)<|Ca rfl (jt _)<|aa<|?_
 refine ⟨_,_,rfl,hGF,by intro x hx;simp only[List.mem_cons,List.not_mem_nil,or_false]at hx;rcases hx with rfl|rfl<;>rfl,by intro x hx;simp only[List.mem_cons,List.not_mem_nil,or_false]at hx;rcases hx with rfl|rfl<;>rfl,fun adr=> ?_⟩
 refine aw 9 hGF rfl rfl rfl sizeOf29 sm sm (bH _) rfl<|aw 10 hGF rfl rfl rfl sizeOf29 sm sm (bH _) rfl<|aa<|ah<|Xp<|Mv rfl<|aa<|aR rfl<|Xq<|Mv rfl<|bD (l:=0) (h':=48) rfl underlying29 sizeOf5 rfl rfl om om rfl rfl<|dB 6 (o:=0) (cs:=ch a.2) hGF rfl rfl rfl underlying22 sz5 sm (fun w' h=>BytesAt.range (aH (n:=10) rfl w' h)) sm rfl rfl<|?_
 rw[rL]
 refine aa<|Xd []<|Mv rfl<|Mv rfl<|Bnr (v:=I 48) rfl rfl (fun _=>aX _ _ _ oi)<|fw (l:=48) (h':=96) rfl underlying22 sizeOf5 rfl rfl dc rfl rfl<|bD (l:=0) (h':=48) rfl underlying29 sizeOf5 rfl rfl om om rfl rfl<|dB 6 (o:=48) (cs:=ch a.1) hGF rfl rfl rfl underlying22 sz5 sm (fun w' h=>BytesAt.range (aH (n:=9) rfl w' h)) sm rfl rfl<|?_
 rw[se]
 refine aa<|Xp<|Mv rfl<|fP 0 rfl rfl underlying22 sizeOf5 dc dc rfl rfl<|Lm 6 U8 0 rfl rfl isAgg5 sm<|Bnr (v:=U8 ((ch a.2++ch a.1).getD 0 0|||128#8)) rfl rfl (fun _=>dw _ _ 128#8)<|fP 0 rfl rfl underlying22 sizeOf5 dc dc rfl rfl<|aV 6 U8 hGF rfl rfl rfl sizeOf5 rfl sm rfl<|aa<|ah<|Xp<|La 8 rfl rfl bI<|Cbl false rfl ent49 (nJ _) (hl)<|aa<|aC rfl<|aq<|Xp<|Mv rfl<|Asg rfl<|aa<|am<|Rr<|?_
 exact aG rfl rfl (fun w hw=>⟨b6,rfl,ac hw,(hw.own 6 b6 _ _ rfl).2.elim id False.elim,(hw.own 6 b6 _ _ rfl).1⟩)
theorem Mh(J:W6)(P:Pt Zp)(h:E1w.jr J (em1.p P))(w:World)(hw:Gt w):CLS 16 [EV6 J,.bool false].toArray w (fun e w'=> ∃bm,e=.returned (.slice (spt bm) 48 48)∧Grow w w'∧w.heap.size≤bm∧OwnB w' bm ((EN1 P).map U8) 5):=by
 cases P with
 |none=>exact Eg J h w hw
 |some p=>
  cases hl:LG2 (p.2,0)with
  |true=>
   have k:=DD J (p.1,0) (p.2,0) h hl w hw
   rw[show EN1 (some p)=OR0 (OR0 (ch p.1) 128#8) 32#8 from by rw[show (some p:Pt Zp)=some (p.1,p.2)from rfl,NN,hl];rfl]
   exact k
  |false=>
   have k:=DS J (p.1,0) (p.2,0) h hl w hw
   rw[show EN1 (some p)=OR0 (ch p.1) 128#8 from by rw[show (some p:Pt Zp)=some (p.1,p.2)from rfl,NN,hl];rfl]
   exact k
theorem KR(J:W6)(P:Pt W2)(h:E2w.jr J P)(w:World)(hw:Gt w):CLS 16 [EV6 J,.bool true].toArray w (fun e w'=> ∃bm,e=.returned (.slice (spt bm) 96 96)∧Grow w w'∧w.heap.size≤bm∧OwnB w' bm ((EN2 P).map U8) 5):=by
 cases P with
 |none=>exact Et J h w hw
 |some p=>
  cases hl:LG2 p.2 with
  |true=>
   have k:=DE J p.1 p.2 h hl w hw
   rw[show EN2 (some p)=OR0 (OR0 (ch p.1.2++ch p.1.1) 128#8) 32#8 from by rw[show (some p:Pt W2)=some (p.1,p.2)from rfl,Pl,hl];rfl]
   exact k
  |false=>
   have k:=Dy J p.1 p.2 h hl w hw
   rw[show EN2 (some p)=OR0 (ch p.1.2++ch p.1.1) 128#8 from by rw[show (some p:Pt W2)=some (p.1,p.2)from rfl,Pl,hl];rfl]
   exact k
end
section
open Go.RowKit
attribute [local simp] a7 bv aJ aB aQ a5 aT aK aO bf bC a6 bz J1.bE J2.bE cf fC eS fE
attribute [local simp] gc
attribute [local simp] jT
theorem ent12:ak prog 12:=fun _ _=>kr
theorem ent11:ak prog 11:=fun _ _=>kr
theorem RC(x:Zr)(b:Nat)(t:TypeId)(w:World)(hw:Gt w)(ho:OwnB w b ((ry x).map U8) t):CLS 44 [.slice (spt b) 32 32].toArray w (fun r w'=>r=.returned (.tuple #[NV (nr x),.bool true])∧Grow w w'):=by
 have h:=oF (spt b) 32 (ry x) w hw (BytesAt.range ho.range)
 rw[jT,if_neg dc,Iq]at h
 exact h
theorem O9(x:Zr):PUR 13 [RV x] (NV (nr x)):=by
 intro w hw
 refine Hf func13 rfl hw<|fun hGF=>Xp<|Bx 1 hGF rfl<|fun b1=>Al 2 hGF zv37<|fun b2=>aa<|Xp<|La 1 rfl rfl iO<|Ca rfl (wx x)<|Al 3 hGF zv98<|fun b3=>aw 3 hGF rfl rfl rfl sizeOf98 sm sm (bH _) rfl<|aa<|Xp<|bD (l:=0) (h':=32) rfl underlying98 sizeOf5 rfl rfl dc dc rfl rfl<|Cc rfl ent44 (fun w' hC hG=>RC x _ _ w' hG (hC.own 3 _ _ _ rfl).1)<|Mv rfl<|Ext rfl rfl<|Ext rfl rfl<|Al 4 hGF zv37<|fun b4=>Sa 4 hGF rfl rfl rfl cb<|Asg rfl<|aa<|Xp<|La 4 rfl rfl cb<|Sa 2 hGF rfl rfl rfl cb<|aa<|am<|Rr<|?_
 exact av 2 rfl rfl rfl isAgg37 sizeOf37 sm (fun w hw=>⟨rfl,ac hw⟩)
theorem D8(a:L6)(ha:a.length=6)(w:World)(hw:Gt w):CLS 12 [aM (a)].toArray w (fun e w'=> ∃bm i,i≤47∧(∀j,j<i→(BYs a 48).getD j 0#8=0#8)∧e=.returned (.slice (some ⟨bm,i,none⟩) (48-i) (48-i))∧Grow w w'∧w.heap.size≤bm∧OwnB w' bm ((BYs a 48).map U8) 29):=by
 refine Hf func12 rfl hw<|fun hGF=>Xp<|Bx 1 hGF rfl<|fun b1=>Asg rfl<|aa<|Xp<|bY 1 rfl rfl isAgg37 sizeOf37 (by simp[ha]) rfl rfl<|Ca rfl (fS a ha)<|Al 3 hGF zv29<|fun b3=>aw 3 hGF rfl rfl rfl sizeOf29 (by simp[aK]) sm (bH _) rfl<|aa<|Xp<|Asg rfl<|aa<|ah<|ai<|bL (ι:={i:Nat // i≤47∧∀j,j<i→(BYs a 48).getD j 0#8=0#8}) (fun x=>[(1,pnt b1),(3,pnt b3),(4,I (x.1:Int))]) (fun x=>[(1,b1,a.map U64,37),(3,b3,(BYs a 48).map U8,29)]) (fun x=>47-x.1) ⟨0,om,fun j hj=>absurd hj (Nat.not_lt_zero j)⟩ hGF trv trv<|?_
 rintro ⟨i,hi,hz⟩
 dsimp only
 refine ah<|Xp<|Mv rfl<|?_
 rcases Bool.eq_false_or_eq_true (decide ((i:Int)<47))with h1|h1
 ·refine Bnb true rfl rfl (fun _=>az _ (i:Int) 47) (h1)<|Mv rfl<|Mv rfl<|FX i rfl rfl underlying29 sizeOf5 rfl (by simp at h1;omega) rfl rfl<|?_
  refine bT (v:=U8 (BYs a 48)[i]!) rfl isAgg5 (fun w' hw'=>by have:=(aH (n:=3) rfl w' hw') i (U8 (BYs a 48)[i]!) (by rw[List.getElem?_map,List.getElem?_eq_getElem (by rw[aK];simp at h1;omega),getElem!_pos (BYs a 48) i (by rw[aK];simp at h1;omega)];rfl);simpa using this) rfl rfl ?_
  rcases Bool.eq_false_or_eq_true ((BYs a 48)[i]! ==0#8)with h2|h2
  ·refine Bnb true rfl rfl (fun _=>cP _ (BYs a 48)[i]! 0#8) (h2)<|Pk rfl rfl rfl<|aa<|aR rfl<|aq<|ai<|Xq<|Mv rfl<|Bnr (v:=I (((i+1:Nat):Int))) rfl rfl (fun _=>(au _ _ _ oi).trans rr)<|Asg rfl<|aa<|?_
   repeat (refine aP ?_)
   refine aD ?_
   have hlt:i<47:=by simp at h1;omega
   exact ⟨rfl,⟨i+1,om,fun j hj=>(Nat.lt_or_ge j i).elim (hz j) (fun h=>by have e:j=i:=om;subst e;have h3:=beq_iff_eq.1 h2;rw[getElem!_pos (BYs a 48) j (by rw[aK];omega)]at h3;rw[List.getD_eq_getElem?_getD,List.getElem?_eq_getElem (by rw[aK];omega)];exact h3)⟩,_,by show 47-(i+1)<47-i;omega,rfl,trv,trv⟩
  ·refine Bnb false rfl rfl (fun _=>cP _ (BYs a 48)[i]! 0#8) (h2)<|Pk rfl rfl rfl<|aa<|aC rfl<|aW<|Xp<|Mv rfl<|bD (l:=i) (h':=48) rfl underlying29 sizeOf5 rfl rfl om om rfl rfl<|Asg rfl<|aa<|am<|Rr<|?_
   exact aG rfl rfl (fun w hw=>⟨b3,i,hi,hz,rfl,ac hw,(hw.own 3 b3 _ _ rfl).2.elim id False.elim,(hw.own 3 b3 _ _ rfl).1⟩)
 ·refine Bnb false rfl rfl (fun _=>az _ (i:Int) 47) (h1)<|Mv rfl<|Sk<|Sk<|Sk<|Sk<|Pk rfl rfl rfl<|aa<|aC rfl<|aW<|Xp<|Mv rfl<|bD (l:=i) (h':=48) rfl underlying29 sizeOf5 rfl rfl om om rfl rfl<|Asg rfl<|aa<|am<|Rr<|?_
  exact aG rfl rfl (fun w hw=>⟨b3,i,hi,hz,rfl,ac hw,(hw.own 3 b3 _ _ rfl).2.elim id False.elim,(hw.own 3 b3 _ _ rfl).1⟩)
theorem xK(ys:L8): ∀i,(∀j,j<i→ys.getD j 0#8=0#8)→BN ys i=0
 |0,_=>rfl
 |i+1,h=>by
  rw[BN,xK ys i (fun j hj=>h j om),show ys.getD i 0=0#8 from h i om]
  rfl
theorem P4(x:Zr)(w:World)(hw:Gt w):CLS 12 [NV (nr x)].toArray w (fun e w'=> ∃bm i ys,i≤47∧ys.length=48-i∧BN ys ys.length=x.val∧(BYs (nr x) 48).drop i=ys∧e=.returned (.slice (some ⟨bm,i,none⟩) (48-i) (48-i))∧Grow w w'∧w.heap.size≤bm∧OwnB w' bm ((BYs (nr x) 48).map U8) 29):=by
 refine (D8 (nr x) (gc x) w hw).mono fun e w' h=> ?_
 obtain ⟨bm,i,hi,hz,he,hg,hb,ho⟩:=h
 have hl:((BYs (nr x) 48).drop i).length=48-i:=by rw[List.length_drop,aK]
 refine ⟨bm,i,_,hi,hl, ?_,rfl,he,hg,hb,ho⟩
 have k:=qG (BYs (nr x) 48) i (48-i)
 rw[show i+(48-i)=48 from by omega,mK _ (gc x) 48 rfl,yj,xK _ i hz,Nat.zero_mul,Nat.zero_add]at k
 rw[hl]
 exact k.symm
theorem Hc{w:World}{b i:Nat}{ys NB:L8}(hy:NB.drop i=ys)(h:w.rangeAt b 0 (NB.map U8)):BytesAt w (some ⟨b,i,none⟩) ys:=by
 subst hy
 refine BytesAt.range fun j v hv=> ?_
 rw[List.map_drop,List.getElem?_drop]at hv
 have k:=h (i+j) v hv
 rwa [Nat.zero_add]at k
theorem XR(w:World)(hw:Gt w):CLS 11 [].toArray w (fun e w'=> ∃b,e=.returned (.slice (spt b) 43 43)∧Grow w w'∧w.heap.size≤b∧OwnB w' b (SUs.map U8) 5):=by
 refine Hf func11 rfl hw<|fun hGF=>ae (E:=EE [1000022])<|Asg rfl<|aa<|ae (E:=EE [1000022])<|ek 1 SUs hGF rfl rfl rfl dc dc underlying22 sizeOf5 zeroValue5 rfl rfl<|fun b1=>mC 1 rfl hGF rfl rfl underlying22 underlying5 rfl rfl<|Asg rfl<|aa<|am<|Rr<|?_
 exact aG rfl rfl (fun w hw=>⟨b1,rfl,ac hw,(hw.own 1 b1 _ _ rfl).2.elim id False.elim,(hw.own 1 b1 _ _ rfl).1⟩)
end
section
open Go.RowKit
attribute [local simp] a7 bv aJ aB aQ a5 aT aK aO bf bC a6 bz J1.bE J2.bE cf fC eS fE
attribute [local simp] gc
theorem Rm{msg dst:L8}{A B:W2×W2}(h:Sw2 msg dst A B){Q:Pt W2}(hQ:Q=E2w.times (E2w.ad (some A) (some B)) HEF):E2w.jr (RHf A B) Q:=by
 rw[RHf]
 exact VQ (zX h) (E2w.jr_a (J2.gG (u6 h.s0)) (J2.gG (u6 h.s1)) (mA A) (mA B)) hQ.symm
theorem ya(e0:Option Addr)(cap0:Nat)(bs0:L8)(e1:Option Addr)(cap1:Nat)(bs1:L8)(h0: ¬bs0.length≤100)(w:World)(hw:Gt w):CLS 3 [.slice e0 bs0.length cap0,.slice e1 bs1.length cap1].toArray w (fun r w'=>r=.returned (.bool true)∧Grow w w'):=by
 refine Hf func3 rfl hw<|fun hGF=>ae (E:=EE [10,2000010,11,2000011,12,2000012,16,2000016])<|Asg rfl<|aa<|ah<|ae (E:=EE [10,2000010,11,2000011,12,2000012,16,2000016])<|Ca rfl (tZ)<|bu rfl (fun _=>a9 _) rfl rfl<|aa<|aC rfl<|aq<|ah<|ae (E:=EE [10,2000010,11,2000011,12,2000012,16,2000016])<|Mv rfl<|bi rfl (fun _=>aI underlying22 _ _ _ _) rfl rfl<|Bnb true rfl rfl (fun _=>bc _ _ _) (decide_eq_true om)<|Mv rfl<|Sk<|Sk<|Sk<|Pk rfl rfl rfl<|aa<|aR rfl<|ae (E:=EE [10,2000010,11,2000011,12,2000012,16,2000016])<|Asg rfl<|aa<|am<|Rr<|?_
 exact aG rfl rfl (fun w hw=>⟨rfl,ac hw⟩)
theorem wi(e0:Option Addr)(cap0:Nat)(bs0:L8)(e1:Option Addr)(cap1:Nat)(bs1:L8)(h0:bs0.length≤100)(h1: ¬bs1.length≤300)(w:World)(hw:Gt w):CLS 3 [.slice e0 bs0.length cap0,.slice e1 bs1.length cap1].toArray w (fun r w'=>r=.returned (.bool true)∧Grow w w'):=by
 refine Hf func3 rfl hw<|fun hGF=>ae (E:=EE [10,2000010,11,2000011,12,2000012,16,2000016])<|Asg rfl<|aa<|ah<|ae (E:=EE [10,2000010,11,2000011,12,2000012,16,2000016])<|Ca rfl (tZ)<|bu rfl (fun _=>a9 _) rfl rfl<|aa<|aC rfl<|aq<|ah<|ae (E:=EE [10,2000010,11,2000011,12,2000012,16,2000016])<|Mv rfl<|bi rfl (fun _=>aI underlying22 _ _ _ _) rfl rfl<|Bnb false rfl rfl (fun _=>bc _ _ _) (decide_eq_false om)<|Mv rfl<|Mv rfl<|bi rfl (fun _=>aI underlying22 _ _ _ _) rfl rfl<|Bnb true rfl rfl (fun _=>bc _ _ _) (decide_eq_true om)<|Pk rfl rfl rfl<|aa<|aR rfl<|ae (E:=EE [10,2000010,11,2000011,12,2000012,16,2000016])<|Asg rfl<|aa<|am<|Rr<|?_
 exact aG rfl rfl (fun w hw=>⟨rfl,ac hw⟩)
theorem sN(e0:Option Addr)(cap0:Nat)(bs0:L8)(e1:Option Addr)(cap1:Nat)(bs1:L8)(h0:bs0.length≤100)(h1:bs1.length≤300)(w:World)(hw:Gt w)(hb0:BytesAt w e0 bs0)(hb1:BytesAt w e1 bs1)(x:Zr)(KB SB:L8)(lK:KB.length=48)(lS:SB.length=96)(J:W6)(G:W6)(K:J1.GP)(f:Int)(z:Bool)(N6:L6)(NB:L8)(hZ:PUR 19 [RV x] (.bool z))(q1:(f==160)=z)(q2:(f==0)= !z)
 (hW: ∀w',Gt w'→BytesAt w' e0 bs0→CLS 6 [.slice e0 bs0.length cap0].toArray w' (fun r w''=>r=.returned (RV x)∧Grow w' w'')) (hP:PUR 7 [RV x] (.agg ((KB).map U8).toArray))
 (hS: ∀w',Gt w'→BytesAt w' e1 bs1→CLS 8 [RV x,.slice e1 bs1.length cap1].toArray w' (fun r w''=>r=.returned (.tuple #[.agg ((SB).map U8).toArray,I 0])∧Grow w' w''))
 (hH: ∀(bm bq:Nat) (w':World),Gt w'→OwnB w' bm (Sh.MK.map U32) 94→BytesAt w' e1 bs1→BytesAt w' (spt bq) SUs→CLS 9 [pnt bm,.slice e1 bs1.length cap1,.slice (spt bq) 43 43].toArray w' (fun r w''=>r=.returned (.tuple #[EV6 J,I 0])∧Grow w' w''))
 (hV:PUR 14 [.agg ((KB).map U8).toArray] (.tuple #[J1.PtV K,I f])) (hI:PUR 20 [J1.PtV K] (.bool z))
 (hGn:PUR 17 [.bool false] (EV6 G)) (hN:PUR 13 [RV x] (NV N6)) (hSc: ∀w',Gt w'→CLS 12 [NV N6].toArray w' (fun e w''=> ∃bm i ys,i≤47∧ys.length=48-i∧BN ys ys.length=x.val∧NB.drop i=ys∧e=.returned (.slice (some ⟨bm,i,none⟩) (48-i) (48-i))∧Grow w' w''∧w'.heap.size≤bm∧OwnB w'' bm (NB.map U8) 29))
 (hE: ∀(ys:L8) (Y:W6),BN ys ys.length=x.val→RMJ G ys (8*ys.length)=Y→∀w',Gt w'→CLS 16 [EV6 Y,.bool false].toArray w' (fun e w''=> ∃bm,e=.returned (.slice (spt bm) 48 48)∧Grow w' w''∧w'.heap.size≤bm∧OwnB w'' bm (KB.map U8) 5))
 (hE': ∀(ys:L8) (Y:W6),BN ys ys.length=x.val→RMJ J ys (8*ys.length)=Y→∀w',Gt w'→CLS 16 [EV6 Y,.bool true].toArray w' (fun e w''=> ∃bm,e=.returned (.slice (spt bm) 96 96)∧Grow w' w''∧w'.heap.size≤bm∧OwnB w'' bm (SB.map U8) 5)):CLS 3 [.slice e0 bs0.length cap0,.slice e1 bs1.length cap1].toArray w (fun r w'=>r=.returned (.bool true)∧Grow w w'):=by
 refine Hf func3 rfl hw<|fun hGF=>ae (E:=EE [10,2000010,11,2000011,12,2000012,16,2000016])<|Asg rfl<|aa<|ah<|ae (E:=EE [10,2000010,11,2000011,12,2000012,16,2000016])<|Ca rfl (tZ)<|bu rfl (fun _=>a9 _) rfl rfl<|aa<|aC rfl<|aq<|ah<|ae (E:=EE [10,2000010,11,2000011,12,2000012,16,2000016])<|Mv rfl<|bi rfl (fun _=>aI underlying22 _ _ _ _) rfl rfl<|Bnb false rfl rfl (fun _=>bc _ _ _) (decide_eq_false om)<|Mv rfl<|Mv rfl<|bi rfl (fun _=>aI underlying22 _ _ _ _) rfl rfl<|Bnb false rfl rfl (fun _=>bc _ _ _) (decide_eq_false om)<|Pk rfl rfl rfl<|aa<|aC rfl<|aq<|ae (E:=EE [10,2000010,11,2000011,12,2000012,16,2000016])<|Mv rfl<|Cc rfl ent6 (fun w' hC hG=>hW w' hG (hb0.grow (ac hC)))<|Al 5 hGF zv27<|fun b5=>Sa 5 hGF rfl rfl rfl iO<|aa<|ae (E:=EE [10,2000010,11,2000011,12,2000012,16,2000016])<|La 5 rfl rfl iO<|Ca rfl (hP)<|Al 6 hGF zv30<|fun b6=>aw 6 hGF rfl rfl rfl sizeOf30 (by simp[*]) sm (bH _) rfl<|aa<|ae (E:=EE [10,2000010,11,2000011,12,2000012,16,2000016])<|La 5 rfl rfl iO<|Mv rfl<|Cc rfl ent8 (fun w' hC hG=>hS w' hG (hb1.grow (ac hC)))<|?_
 refine Mv rfl<|Ext rfl rfl<|Ext rfl rfl<|Al 7 hGF zv33<|fun b7=>aw 7 hGF rfl rfl rfl sizeOf33 (by simp[*]) sm (bH _) rfl<|Asg rfl<|aa<|ae (E:=EE [10,2000010,11,2000011,12,2000012,16,2000016])<|?_
 refine bQ rfl rfl ent10 rfl rfl (fun w' hw'=>(Sh.DQ w' (hGF.g _ _ _ hw')).mono fun e' w'' h=> ?_)
 obtain ⟨bm,rfl,hg,h1,ho⟩:=h
 refine ⟨_,_,rfl,aA hGF,hw'.news ao hg [(934,bm,Sh.MK.map U32,94)] ?_ bX,bU ao rfl, ?_⟩
 ·intro n' b' c' t' hl
  rcases aL hl with ⟨_,e⟩|⟨_,hl⟩
  ·cases e;exact ⟨h1,ho⟩
  ·cases hl
 clear hw' hg h1 ho
 refine Mv rfl ?_
 refine bQ rfl rfl ent11 rfl rfl (fun w' hw'=>(XR w' (hGF.g _ _ _ hw')).mono fun e' w'' h=> ?_)
 obtain ⟨bq,rfl,hg,h1,ho⟩:=h
 refine ⟨_,_,rfl,aA hGF,hw'.news ao hg [(935,bq,SUs.map U8,5)] ?_ bX,bU ao rfl, ?_⟩
 ·intro n' b' c' t' hl
  rcases aL hl with ⟨_,e⟩|⟨_,hl⟩
  ·cases e;exact ⟨h1,ho⟩
  ·cases hl
 clear hw' hg h1 ho
 refine Cc rfl ent9 (fun w' hC hG=>hH bm bq w' hG (hC.own 934 _ _ _ rfl).1 (hb1.grow (ac hC)) (BytesAt.range (aH (n:=935) rfl w' hC)))<|Mv rfl<|Ext rfl rfl<|Ext rfl rfl<|Al 9 hGF zv43<|fun b9=>Sa 9 hGF rfl rfl rfl iD<|Asg rfl<|aa<|ae (E:=EE [10,2000010,11,2000011,12,2000012,16,2000016])<|La 5 rfl rfl iO<|Ca rfl (hN)<|?_
 refine bQ rfl rfl ent12 rfl rfl (fun w' hw'=>(hSc w' (hGF.g _ _ _ hw')).mono fun e' w'' h=> ?_)
 obtain ⟨bt,i,ys,hi,hl,hn,hd,rfl,hg,h2,ho⟩:=h
 refine ⟨_,_,rfl,aA hGF,hw'.news ao hg [(936,bt,NB.map U8,29)] ?_ bX,bU ao rfl, ?_⟩
 ·intro n' b' c' t' hl
  rcases aL hl with ⟨_,e⟩|⟨_,hl⟩
  ·cases e;exact ⟨h2,ho⟩
  ·cases hl
 clear hw' hg h2 ho
 obtain ⟨Y1,hY1⟩: ∃Y,RMJ G ys (8*ys.length)=Y:=⟨_,rfl⟩
 obtain ⟨Y2,hY2⟩: ∃Y,RMJ J ys (8*ys.length)=Y:=⟨_,rfl⟩
 refine Asg rfl<|aa<|ae (E:=EE [10,2000010,11,2000011,12,2000012,16,2000016])<|bY 6 rfl rfl isAgg30 sizeOf30 (by simp[*]) rfl rfl<|Ca rfl (hV)<|Mv rfl<|Ext rfl rfl<|Ext rfl rfl<|Al 12 hGF J1.zv54<|fun b12=>Sa 12 hGF rfl rfl rfl cn<|Asg rfl<|aa<|Xd [10,2000010,11,2000011,12,2000012,16,2000016]<|Mv rfl<|Bnb true rfl rfl (fun _=>dY _ _ _) (rfl)<|Mv rfl<|bD (l:=0) (h':=48) rfl underlying30 sizeOf5 rfl rfl dc dc rfl rfl<|Ca rfl (hGn)<|Mv rfl<|Cc rfl ent18 (fun w' hC hG=>AF _ _ _ ys (48-i) hl om _ hY1 w' hG (Hc hd (aH (n:=936) rfl w' hC)))<|?_
 refine bQ rfl rfl ent16 rfl rfl (fun w' hw'=>(hE ys Y1 hn hY1 w' (hGF.g _ _ _ hw')).mono fun e' w'' h=> ?_)
 obtain ⟨bk,rfl,hg,h1,ho⟩:=h
 refine ⟨_,_,rfl,aA hGF,hw'.news ao hg [(937,bk,KB.map U8,5)] ?_ bX,bU ao rfl, ?_⟩
 ·intro n' b' c' t' hl
  rcases aL hl with ⟨_,e⟩|⟨_,hl⟩
  ·cases e;exact ⟨h1,ho⟩
  ·cases hl
 clear hw' hg h1 ho
 refine Cc rfl ent15 (fun w' hC hG=>qi KB _ _ _ _ _ _ lK lK w' hG (BytesAt.range (aH (n:=6) rfl w' hC)) (BytesAt.range (aH (n:=937) rfl w' hC)))<|Pk rfl rfl rfl<|Mv rfl<|bD (l:=0) (h':=96) rfl underlying33 sizeOf5 rfl rfl dc dc rfl rfl<|La 9 rfl rfl iD<|Mv rfl<|Cc rfl ent18 (fun w' hC hG=>AF _ _ _ ys (48-i) hl om _ hY2 w' hG (Hc hd (aH (n:=936) rfl w' hC)))<|?_
 refine bQ rfl rfl ent16 rfl rfl (fun w' hw'=>(hE' ys Y2 hn hY2 w' (hGF.g _ _ _ hw')).mono fun e' w'' h=> ?_)
 obtain ⟨bg,rfl,hg,h1,ho⟩:=h
 refine ⟨_,_,rfl,aA hGF,hw'.news ao hg [(938,bg,SB.map U8,5)] ?_ bX,bU ao rfl, ?_⟩
 ·intro n' b' c' t' hl
  rcases aL hl with ⟨_,e⟩|⟨_,hl⟩
  ·cases e;exact ⟨h1,ho⟩
  ·cases hl
 clear hw' hg h1 ho
 refine Cc rfl ent15 (fun w' hC hG=>qi SB _ _ _ _ _ _ lS lS w' hG (BytesAt.range (aH (n:=7) rfl w' hC)) (BytesAt.range (aH (n:=938) rfl w' hC)))<|Pk rfl rfl rfl<|Mv rfl<|Mv rfl<|Bnr (v:=.bool z) rfl rfl (fun _=>(dY _ _ _).trans (by rw[q1]))<|La 5 rfl rfl iO<|Ca rfl (hZ)<|Bnr (v:=.bool true) rfl rfl (fun w'=>(iK _ underlying4 z z w').trans (by rw[beq_self_eq_true]))<|Pk rfl rfl rfl<|Mv rfl<|Mv rfl<|Bnr (v:=.bool (!z)) rfl rfl (fun _=>(dY _ _ _).trans (by rw[q2]))<|La 5 rfl rfl iO<|Ca rfl (hZ)<|bu (v:=.bool !z) rfl (fun _=>a9 z) rfl rfl<|Bnr (v:=.bool true) rfl rfl (fun w'=>(iK _ underlying4 (!z) (!z) w').trans (by rw[beq_self_eq_true]))<|Pk rfl rfl rfl<|Mv rfl<|La 12 rfl rfl cn<|Ca rfl (hI)<|La 5 rfl rfl iO<|Ca rfl (hZ)<|Bnr (v:=.bool true) rfl rfl (fun w'=>(iK _ underlying4 z z w').trans (by rw[beq_self_eq_true]))<|Pk rfl rfl rfl<|Asg rfl<|aa<|am<|Rr<|?_
 exact aG rfl rfl (fun w hw=>⟨rfl,ac hw⟩)
theorem H5{msg:L8}(h:msg.length≤65536): ¬Xm.FBad msg SUs 2:=by
 rintro (h'|h'|h'|h')
 ·revert h';decide
 ·revert h';decide
 ·revert h';decide
 ·omega
theorem Tv(e0:Option Addr)(cap0:Nat)(bs0:L8)(e1:Option Addr)(cap1:Nat)(bs1:L8)(hc0:bs0.length≤cap0)(hc1:bs1.length≤cap1)(w:World)(hw:Gt w)(hb0:BytesAt w e0 bs0)(hb1:BytesAt w e1 bs1):CLS 3 [.slice e0 bs0.length cap0,.slice e1 bs1.length cap1].toArray w (fun r w'=>r=.returned (.bool true)∧Grow w w'):=by
 by_cases h0:bs0.length≤100
 case neg=>exact ya e0 cap0 bs0 e1 cap1 bs1 h0 w hw
 by_cases h1:bs1.length≤300
 case neg=>exact wi e0 cap0 bs0 e1 cap1 bs1 h0 h1 w hw
 have hm:bs1.length≤65536:=om
 have hn0:bs0.length≤1000000:=om
 have hn1:bs1.length≤65600:=om
 obtain ⟨A,B,hs⟩:=GK bs1 SUs
 obtain ⟨H,hH,hc⟩:=phs.ok _ _ _ _ (H5 hm) hs
 have hM:Ms bs1 H 0:=⟨hc,YF (zX hs) hH⟩
 have hJ:E2w.jr (RHf A B) H.P:=Rm hs hH
 have hR:=fun (bm bq:Nat) (w':World) (hG:Gt w') ho hb hq=>Gx bm e1 cap1 bs1 (spt bq) 43 SUs w' hG ho hb hq (H5 hm) hs
 have hW:=fun w' hG hb=>wV e0 cap0 bs0 hn0 hc0 w' hG hb
 revert hW hJ hR
 generalize QB bs0=x
 generalize RHf A B=J
 intro hJ hR hW
 have sg:=fun w' hG hb=>wN x bs1 H hM e1 cap1 w' hn1 hc1 hG hb
 have hE: ∀(ys:L8) (Y:W6),BN ys ys.length=x.val→RMJ (RJ (some G1p)) ys (8*ys.length)=Y→∀w',Gt w'→CLS 16 [EV6 Y,.bool false].toArray w' (fun e w''=> ∃bm,e=.returned (.slice (spt bm) 48 48)∧Grow w' w''∧w'.heap.size≤bm∧OwnB w'' bm ((EN1 (Kx x.val)).map U8) 5):=fun ys Y hn hY w' hG=>by
  have k:=J1.Vo kG ys ys.length
  rw[hY,hn]at k
  exact Mh Y (Kx x.val) k w' hG
 have hE': ∀(ys:L8) (Y:W6),BN ys ys.length=x.val→RMJ J ys (8*ys.length)=Y→∀w',Gt w'→CLS 16 [EV6 Y,.bool true].toArray w' (fun e w''=> ∃bm,e=.returned (.slice (spt bm) 96 96)∧Grow w' w''∧w'.heap.size≤bm∧OwnB w'' bm ((EN2 (E2w.times H.P x.val)).map U8) 5):=fun ys Y hn hY w' hG=>
  KR Y _ (OT H.on hJ ys x.val hn Y hY.symm rfl) w' hG
 have kZ:=vq x
 by_cases hx:x=0
 ·rw[decide_eq_true hx]at kZ
  exact sN e0 cap0 bs0 e1 cap1 bs1 h0 h1 w hw hb0 hb1 x (EN1 (Kx x.val)) (EN2 (E2w.times H.P x.val)) (eS _) (fE _) J (RJ (some G1p)) J1.gInf 160 true (nr x) (BYs (nr x) 48) kZ rfl rfl hW (G5 x) sg hR (by rw[hx];exact BF) (by have k:=J1.pR J1.gInf;rw[show decide (J1.gInf.P=none)=true from rfl]at k;exact k) Ik (O9 x) (P4 x) hE hE'
 ·rw[decide_eq_false hx]at kZ
  have hK: ¬Kx x.val=none:=Fe (Nat.pos_of_ne_zero fun e=>hx (Fin.ext e)) (Wp x)
  exact sN e0 cap0 bs0 e1 cap1 bs1 h0 h1 w hw hb0 hb1 x (EN1 (Kx x.val)) (EN2 (E2w.times H.P x.val)) (eS _) (fE _) J (RJ (some G1p)) _ 0 false (nr x) (BYs (nr x) 48) kZ rfl rfl hW (G5 x) sg hR (zn hK) (by have k:=J1.pR (cA1 (Kx x.val) (oI (rP (sP x.val) (Ey x.val))));rw[show decide ((cA1 (Kx x.val) (oI (rP (sP x.val) (Ey x.val)))).P=none)=false from decide_eq_false hK]at k;exact k) Ik (O9 x) (P4 x) hE hE'
end
end Go.Proofs.YtjookodjbjabbaaGreatDoor
