/- L7 -/
import Derived.Test.YtfgacclgjklgnaaGreatDoorL6
set_option maxRecDepth 100000
set_option maxHeartbeats 1000000
namespace Go.Proofs.YtfgacclgjklgnaaGreatDoor
open Go.Proofs.Tryz
open Go.RowKit
attribute [local simp] a5 be aE aB aP aY aM aJ aH PLl cB cz N1l cD cC cE ba bj aZ a9 bd dw
section
attribute [local simp] List.length_append pd
theorem ent228:ai prog 228:=λ_ _=>kr
namespace Xm
attribute [local simp] Sh.hO kP qF ku gw jv Sh.bH lM
attribute [local simp] N2r_len
theorem tiQ:TI prog 92 (aI (List.replicate 12 (0#64))) 12 96:=z7 kr
theorem V3(e:Option Addr)(len cap:Nat)(bs:L8)(hb:bs.length=len)(hlen:len<=1000)(hc:len<=cap)(w:World)(hw:Gt w)(hby:BytesAt w e bs):CLS 262 [.slice e len cap].toArray w (λr w'=>r=.returned (EV (ZB bs))/\Grow w w'):=by
 subst hb;exact wA e cap bs om hc w hw hby
theorem cut3{w:World}{a:Option Addr}{rs:L8}(h:BytesAt w a rs)(l k m:Nat)(hm:m≠l):BytesAt w (if m=l then a else a.map (·.add (l*1))) ((rs.drop l).take k):=by
 have h2:=h.cut (cap:=rs.length+l+1) l k om;rw[if_neg om]at h2;rw[if_neg hm];exact h2
theorem Bl(a:Option Addr)(len cap:Nat)(bs:L8)(hlen:bs.length=len)(hc:len<=cap)(i:Nat)(hi:64*i+64<=len)(hl:len<=100000)(w:World)(hw:Gt w)(hb:BytesAt w a bs):CLS 228 [.slice a len cap,I (i:Int)].toArray w (λe w'=>e=.returned (EV (ZB ((bs.drop (64*i)).take 64)))/\Grow w w'):=by
 refine Hf func228 O hw<|λhGF=>Xp<|Al 4 hGF zf52<|λb4=>aa<|Xp<|Mv O<|Bnr (v:=I ((64*i:Nat):Int)) O O (λ_=>(bJ _ _ _ oi).trans (by rw[show (64:Int)*(i:Int)=((64*i:Nat):Int) by omega]))<|Mv O<|Bnr (v:=I ((i+1:Nat):Int)) O O (λ_=>(az _ _ _ oi).trans rr)<|Bnr (v:=I ((64*i+64:Nat):Int)) O O (λ_=>(bJ _ _ _ oi).trans (by rw[show (64:Int)*((i+1:Nat):Int)=((64*i+64:Nat):Int) by omega]))<|Asg O<|Asg O<|aa<|Xp<|Mv O<|Mv O<|Mv O<|Mv O<|fR (l:=64*i) (h':=64*i+64) (m:=64*i+64) O underlying22 sizeOf5 O O O ⟨om,Nat.le_refl _,om⟩ O O<|Cc O ent262 (λw' hC hG=>V3 _ _ _ ((bs.drop (64*i)).take 64) (by rw[List.length_take,List.length_drop,hlen];omega) om (Nat.le_refl _) w' hG (BytesAt.grow (cut3 hb (64*i) 64 _ om) (ac hC)))<|Sa 4 hGF O O O bq<|aa<|ak<|Rr<|?_
 exact au 4 O O O isAgg52 sizeOf52 sm (λw hw=>⟨rfl,ac hw⟩)
theorem pf_0(a1:Option Addr)(cap1:Nat)(msg:L8)(a2:Option Addr)(cap2:Nat)(dst:L8) (z:Int)(h:z<0)(w:World)(hw:Gt w):CLS 193 [.slice a1 msg.length cap1,.slice a2 dst.length cap2,I z].toArray w (λe w'=>e=.returned (.tuple #[.slice none 0 0,I 130])/\Grow w w'):=by
 refine Hf func193 O hw<|λhGF=>ae (E:=EE [227])<|Asg O<|Asg O<|aa<|ah<|ae (E:=EE [227])<|Mv O<|Bnb true O O (λ_=>aC _ _ _) (decide_eq_true om)<|Mv O<|Sk<|Sk<|Pk O O O<|aa<|aL O<|ae (E:=EE [227])<|Asg O<|Asg O<|aa<|ak<|Rr<|?_;exact db O O O (λw hw=>⟨rfl,ac hw⟩)
theorem pf_1(a1:Option Addr)(cap1:Nat)(msg:L8)(a2:Option Addr)(cap2:Nat)(dst:L8) (z:Int)(h:32<z)(w:World)(hw:Gt w):CLS 193 [.slice a1 msg.length cap1,.slice a2 dst.length cap2,I z].toArray w (λe w'=>e=.returned (.tuple #[.slice none 0 0,I 130])/\Grow w w'):=by
 refine Hf func193 O hw<|λhGF=>ae (E:=EE [227])<|Asg O<|Asg O<|aa<|ah<|ae (E:=EE [227])<|Mv O<|Bnb false O O (λ_=>aC _ _ _) (decide_eq_false om)<|Mv O<|Mv O<|Bnb true O O (λ_=>cm _ _ _) (decide_eq_true om)<|Pk O O O<|aa<|aL O<|ae (E:=EE [227])<|Asg O<|Asg O<|aa<|ak<|Rr<|?_;exact db O O O (λw hw=>⟨rfl,ac hw⟩)
theorem pf_2(a1:Option Addr)(cap1:Nat)(msg:L8)(a2:Option Addr)(cap2:Nat)(dst:L8)(hc1:msg.length<=cap1)(hc2:dst.length<=cap2)(hl1:msg.length<=100000)(hl2:dst.length<=100000)(z:Int)(h0: ¬z<0)(h1: ¬32<z)(hl:255<dst.length\/65536<msg.length)(w:World)(hw:Gt w)(hb1:BytesAt w a1 msg)(hb2:BytesAt w a2 dst):CLS 193 [.slice a1 msg.length cap1,.slice a2 dst.length cap2,I z].toArray w (λe w'=>e=.returned (.tuple #[.slice none 0 0,I 130])/\Grow w w'):=by
 have hGF:BOk Gt (pl w):=gt_low.plain hw;have hgw:Grow w w:=Grow.refl w;refine Hd func193 O hGF<|ae (E:=EE [227])<|Asg O<|Asg O<|aa<|ah<|ae (E:=EE [227])<|Mv O<|Bnb false O O (λ_=>aC _ _ _) (decide_eq_false om)<|Mv O<|Mv O<|Bnb false O O (λ_=>cm _ _ _) (decide_eq_false om)<|Pk O O O<|aa<|aw O<|aq<|ae (E:=EE [227])<|Mv O<|Mv O<|Mv O<|Bnr O O (λ_=>bJ _ _ _ oi)<|?_;refine mG O O ent227 O O gt_low (ay hGF) (λw' hC hG=>pxc a1 cap1 msg a2 cap2 dst (128*z) w' om hc1 om hc2 hG (hb1.grow (hgw.trans (ac hC))) (hb2.grow (hgw.trans (ac hC)))) (λw0 w1 v h0 hg hG1 hq=> ?_);replace hgw:=hgw.trans ((ac h0).trans hg);clear h0 hg hGF;have hGF:BOk Gt (pl w1):=gt_low.plain hG1;obtain rfl:=hq.bad (hl.elim (λh=>.inr (.inr (.inl h))) λh=>.inr (.inr (.inr h)));refine Mv O<|Ext O O<|Ext O O<|Asg O<|Asg O<|aa<|ah<|ae (E:=EE [227])<|Mv O<|Bnb true O O (λ_=>bt _ _ _) (rfl)<|aa<|aL O<|ae (E:=EE [227])<|Mv O<|Asg O<|Asg O<|aa<|ak<|Rr<|?_;exact db O O O (λw hw=>⟨rfl,hgw.trans (ac hw)⟩)
theorem Jc(f:Nat->L6)(z:L6)(n k:Nat)(hk:k<n)(hf:(f k).length=12):lay (0+12*k) ((f k).map U64) ((RW 12 (λi=>if i<k then f i else z) n).map U64)=(RW 12 (λi=>if i<k+1 then f i else z) n).map U64:=by
 rw[GD _ n k (f k) hk hf _ om];congr 1;refine kD λi _=> ?_;by_cases h:i=k
 ·rw[if_pos h,if_pos om,h]
 ·rw[if_neg h]
  by_cases h2:i<k
  ·rw[if_pos h2,if_pos om]
  ·rw[if_neg h2,if_neg om]
theorem Qu(bs:L8)(k:Nat):fe (ZB ((bs.drop (64*(2*k))).take 64))++fe (ZB ((bs.drop (64*(2*k+1))).take 64))=N2r bs k:=by
 rw[N2r,N2,show 64*(2*k)=128*k by omega,show 64*(2*k+1)=128*k+64 by omega]
theorem WA(a1:Option Addr)(cap1:Nat)(msg:L8)(a2:Option Addr)(cap2:Nat)(dst:L8)(n:Nat)(hc1:msg.length<=cap1)(hc2:dst.length<=cap2)(hl1:msg.length<=100000)(hl2:dst.length<=100000)(hn:n<=32)(hd:dst.length<=255)(hm:msg.length<=65536)(w:World)(hw:Gt w)(hb1:BytesAt w a1 msg)(hb2:BytesAt w a2 dst):CLS 193 [.slice a1 msg.length cap1,.slice a2 dst.length cap2,I (n:Int)].toArray w (λe w'=> ∃a cap,e=.returned (.tuple #[.slice a n cap,I 0])/\Grow w w'/\At2 w w' a n (N2r (E msg dst (128*n)))):=by
 have hGF:BOk Gt (pl w):=gt_low.plain hw;have hgw:Grow w w:=Grow.refl w;refine Hd func193 O hGF<|ae (E:=EE [227])<|Asg O<|Asg O<|aa<|ah<|ae (E:=EE [227])<|Mv O<|Bnb false O O (λ_=>aC _ _ _) (decide_eq_false om)<|Mv O<|Mv O<|Bnb false O O (λ_=>cm _ _ _) (decide_eq_false om)<|Pk O O O<|aa<|aw O<|aq<|ae (E:=EE [227])<|Mv O<|Mv O<|Mv O<|Bnr O O (λ_=>bJ _ _ _ oi)<|?_;refine mG O O ent227 O O gt_low (ay hGF) (λw' hC hG=>pxc a1 cap1 msg a2 cap2 dst (128*(n:Int)) w' om hc1 om hc2 hG (hb1.grow (hgw.trans (ac hC))) (hb2.grow (hgw.trans (ac hC)))) (λw0 w1 v h0 hg hG1 hq=> ?_);replace hgw:=hgw.trans ((ac h0).trans hg);clear h0 hg hGF;have hGF:BOk Gt (pl w1):=gt_low.plain hG1;obtain ⟨xa,xc,rfl,hx,hle⟩:=hq.ok (by rintro (h|h|h|h)<;>omega)
 rw[show ((128:Int)*(n:Int)).toNat=128*n by omega]at*
 refine Mv O<|Ext O O<|Ext O O<|Asg O<|Asg O<|aa<|ah<|ae (E:=EE [227])<|Mv O<|Bnb false O O (λ_=>bt _ _ _) (rfl)<|aa<|aw O<|aq<|ae (E:=EE [227])<|Mv O<|vK (l:=n) (m:=n) (c:=(RW 12 (λ_=>List.replicate 12 0#64) n).map U64) 30 hGF O O (Nat.le_refl _) underlying246 tiQ ⟨om,om,om⟩ (UP _ sm _) O O<|λb30=>Asg O<|aa<|ah<|ae (E:=EE [227])<|Mv O<|bD O (λ_=>aV underlying246 _ _ _ _) O O<|Mv O<|aa<|am<|cb (ι:={k:Nat // k<=n}) (λz=>[(8,.slice xa (E msg dst (128*n)).length xc),(10,.slice (spt b30) n n),(32,I (n:Int)),(33,I (z.1:Int))]) (λz=>[(30,b30,(RW 12 (λi=>if i<z.1 then N2r (E msg dst (128*n)) i else List.replicate 12 0#64) n).map U64,92)]) (λz=>n-z.1) ⟨0,om⟩ hGF trv ⟨by rw[kD (s:=12) (g:=λ_=>List.replicate 12 0#64) (λi _=>if_neg (Nat.not_lt_zero i))];rfl,trivial⟩<|?_
 rintro ⟨k,hk⟩;dsimp only;refine ae (E:=EE [227])<|Bnr O O (λ_=>aC _ _ _)<|aa<|ah<|?_;refine bE O (λhc=> ?_) (λhc=> ?_)
 ·have hlt:k<n:=by simp at hc;omega
  clear hc;refine aq<|ah<|am<|ae (E:=EE [227])<|Mv O<|Asg O<|aa<|bQ (E:=EE [227])<|Mv O<|Mv O<|Mv O<|Mv O<|Bnr (v:=I ((2*k:Nat):Int)) O O (λ_=>(bJ _ _ _ oi).trans (by rw[show (2:Int)*(k:Int)=((2*k:Nat):Int) by omega]))<|Cc O ent228 (λw' hC hG=>Bl xa _ xc (E msg dst (128*n)) O hle (2*k) (by rw[rX];omega) (by rw[rX];omega) w' hG (hx.grow (ac hC)))<|Mv O<|Mv O<|Bnr (v:=I ((2*k:Nat):Int)) O O (λ_=>(bJ _ _ _ oi).trans (by rw[show (2:Int)*(k:Int)=((2*k:Nat):Int) by omega]))<|Bnr (v:=I ((2*k+1:Nat):Int)) O O (λ_=>(az _ _ _ oi).trans rr)<|Cc O ent228 (λw' hC hG=>Bl xa _ xc (E msg dst (128*n)) O hle (2*k+1) (by rw[rX];omega) (by rw[rX];omega) w' hG (hx.grow (ac hC)))<|cF fx O O sm sm O O<|?_
  rw[Qu];refine jQ (s:=12) k O O underlying246 sizeOf92 om om O O<|ik 30 hGF O O O sizeOf92 (by rw[List.length_map,N2r_len]) (bi _) (by rw[List.length_map,List.length_map,N2r_len,dw];omega) O<|?_
  rw[Jc (N2r (E msg dst (128*n))) _ n k hlt (N2r_len _ _)];refine aa<|bQ (E:=EE [227])<|Bnr (v:=I ((k+1:Nat):Int)) O O (λ_=>(az _ _ _ oi).trans rr)<|Mv O<|aa<|?_
  repeat (first|refine aW ?_|refine ce ?_)
  exact aQ<|⟨rfl,⟨k+1,om⟩,_,by show n-(k+1)<n-k;omega,rfl,trv,trv⟩
 ·have hke:k=n:=by simp at hc;omega
  clear hc;subst hke;refine a6<|ae (E:=EE [227])<|Mv O<|Asg O<|Asg O<|aa<|ak<|?_
  repeat (first|refine bx ?_|refine bv ?_|refine fc ?_)
  exact db O O O (λw hw=>⟨_,_,rfl,hgw.trans (ac hw),.inr ⟨b30,rfl,(hw.own 30 b30 _ _ O).2.elim (λh=>Nat.le_trans hgw.size h) False.elim,by rw[<-kD (s:=12) (λi hi=>if_pos hi)];exact (hw.own 30 b30 _ _ O).1.range⟩⟩)
theorem pfc:PFC:=by
 intro a1 cap1 msg a2 cap2 dst z w hl1 hc1 hl2 hc2 hw hb1 hb2;have err:FBad msg dst z->∀{e:Ending} {w':World},e=.returned (.tuple #[.slice none 0 0,I 130])/\Grow w w'->∃v,e=.returned v/\Grow w w'/\RFt msg dst z w w' v:=λhb _ _ h=>⟨_,h.1,h.2,λ_=>rfl,λhn=>absurd hb hn⟩;by_cases h0:z<0
 ·exact (pf_0 a1 cap1 msg a2 cap2 dst z h0 w hw).mono λ_ _ h=>err (.inl h0) h
 by_cases h1:32<z
 ·exact (pf_1 a1 cap1 msg a2 cap2 dst z h1 w hw).mono λ_ _ h=>err (.inr (.inl h1)) h
 by_cases h2:255<dst.length\/65536<msg.length
 ·exact (pf_2 a1 cap1 msg a2 cap2 dst hc1 hc2 hl1 hl2 z h0 h1 h2 w hw hb1 hb2).mono λ_ _ h=>err (.inr (.inr h2)) h
 obtain ⟨n,rfl⟩: ∃n:Nat,z=(n:Int):=⟨z.toNat,om⟩;refine (WA a1 cap1 msg a2 cap2 dst n hc1 hc2 hl1 hl2 om om om w hw hb1 hb2).mono λe w' ⟨a,cap,he,hg,hc⟩=>⟨_,he,hg,λhb=>absurd hb ?_,λ_=>⟨a,cap,rfl,hc⟩⟩;rintro (h|h|h|h)<;>omega
end Xm
end
section
open J2
attribute [local simp] bk g8 jU
theorem ent144:ai prog 144:=λ_ _=>kr
theorem ent194:ai prog 194:=λ_ _=>kr
theorem ent146:ai prog 146:=λ_ _=>kr
theorem Q5  :PUR 95 [] (.string SUb):=by
 intro w hw;refine Hf func95 O hw<|λhGF=>Xp<|Asg O<|aa<|Xp<|Asg O<|aa<|ak<|Rr<|?_;exact aO O O (λw hw=>⟨rfl,ac hw⟩)
theorem Yc(p q:GP)(hq:B9 p HBs=q)(b cap:Nat)(w:World)(hw:Gt w)(h:w.rangeAt b 0 (HBs.map U8)):CLS 195 [PtV p,.slice (spt b) HBs.length cap].toArray w (λr w'=>r=.returned (PtV q)/\Grow w w'):=by
 subst hq;exact Nb p _ cap HBs dc w hw (BytesAt.range h)
def gCl(p:GP):GP:=B9 p HBs
theorem O8(p:GP)(bs:L8):(B9 p bs).P=E2w.times p.P (BN bs bs.length):=rfl
theorem WT(p:GP):(gCl p).P=E2w.times p.P HEF:=by rw[gCl,O8,Vi]
theorem Sg(p:GP):PUR 145 [PtV p] (PtV (gCl p)):=by
 intro w hw;refine Hf func145 O hw<|λhGF=>ae (E:=EE [1000022])<|Bx 1 hGF O<|λb1=>Al 2 hGF zv94<|λb2=>aa<|ae (E:=EE [1000022])<|La 1 O O cf<|iX 4 HBs hGF O O O dc dc underlying22 sizeOf5 zeroValue5 O O<|λb4=>nC 4 O hGF O O underlying22 underlying5 O O<|Cc O ent195 (λw' hC hG=>Yc p (gCl p) O _ _ w' hG (aX (n:=4) O w' hC))<|Sa 2 hGF O O O cf<|aa<|ak<|Rr<|?_;exact au 2 O O O isAgg94 sizeOf94 sm (λw hw=>⟨rfl,ac hw⟩)
def PE2(f:Nat->W2):List (List Value):=(List.range 2).map λ(k:Nat)=>[EV2 (f k)]
theorem tY(f:Nat->W2):(PE2 f).length=2:=by rw[PE2,List.length_map,List.length_range]
theorem Ar(f:Nat->W2)(k:Nat)(h:k<2):(PE2 f)[k]? =some [EV2 (f k)]:=by
 rw[PE2,List.getElem?_map,List.getElem?_range h];rfl
theorem OI(f:Nat->W2)(k:Nat)(v:List Value)(h:(PE2 f)[k]? =some v):k<2/\v=[EV2 (f k)]:=by
 have hk:k<2:=by
  rcases Nat.lt_or_ge k 2 with hk|hk
  ·exact hk
  ·rw[List.getElem?_eq_none (by rw[tY];exact hk)]at h;cases h
 exact ⟨hk,(Option.some.inj ((Ar f k hk).symm.trans h)).symm⟩
def RdE(bb b cap:Nat)(f:Nat->W2):Cls:=λw=>w.cell? ⟨bb,0,none⟩=some (.slice (spt b) 2 cap)/\w.rangeAt b 0 ((RW 12 (RPr f) 2).map U64)
theorem mI(bb b cap:Nat)(f:Nat->W2):eS prog Gt 194 [pnt bb] (PE2 f) (RdE bb b cap f):=by
 intro l J Jx hJ hJx hRd hGx hY w hj;have okJ: ∀k,BOk Gt (Bi w (λY=>J Y k)):=λk=>⟨λ_ _ _ h=>(hRd _ _ _ h.rid).1,hJ k⟩;have okX: ∀k,BOk Gt (Bi w (λY=>Jx Y k)):=λk=>⟨λ_ _ _ h=>hGx _ _ _ h.rid,hJx k⟩;have c1: ∀k L w',Hp (Bi w (λY=>J Y k)) L w'->RdE bb b cap f w':=λk L w' h=>(hRd _ _ _ h.rid).2;refine ch (G:=Gt) func194 O O (Hp (Bi w (λY=>J Y 0)) []) (bZ (Bi w _) hj (hJ 0)) (ay (okJ 0))<|Xp<|bp O isAgg246 (λw h=>(c1 _ _ w h).1) O O<|bD O (λ_=>aV underlying246 _ _ _ _) O O<|Mv O<|aa<|am<|fV (ι:={i:Nat // i<=2}) (λy=>[(0,.func (.yield l) #[] #[]),(1,pnt bb),(5,.slice (spt b) 2 cap),(6,I ((2:Nat):Int)),(7,I (y.1:Int))]) (λy=>Bi w (λY=>J Y y.1)) (λy=>[]) (λy=>2-y.1) ⟨0,Nat.zero_le _⟩ (λ_=>okJ _) O trv trivial<|?_;rintro ⟨i,hi⟩;dsimp only;refine Xp<|Bnr O O (λ_=>aC _ _ _)<|aa<|ah<|?_;refine bE O (λhc=> ?_) (λhc=> ?_)
 ·have hi2:i<2:=by simp at hc;omega
  refine aq<|ah<|am<|Xp<|jQ (s:=12) i O O underlying246 sizeOf92 om om O O<|dK (cs:=(fe (f i).1++fe (f i).2).map U64) O isAgg92 sizeOf92 sm (λw h=>jb (c1 _ _ w h).2 om (g8 _ _)) O O<|Al 4 (okJ _) zv92<|λb4=>Sa 4 (okJ _) O O O aR<|aa<|Xp<|Mv O<|La 4 O O aR<|?_;refine c9 (hY.b (k:=i) (Ar f i om) w) (okJ _) (okX _) O O O O O ?_ ?_
  ·refine aU O (λ_=>aF _) O O<|aa<|aw O<|aq<|Xq<|Bnr O O (λ_=>az _ _ _ oi)<|Mv O<|aa<|?_
   repeat (refine aW ?_)
   exact aQ<|⟨rfl,⟨i+1,om⟩,_,by show 2-(i+1)<2-i;omega,rfl,trv,trivial⟩
  ·refine aU O (λ_=>aF _) O O<|aa<|aL O<|ak<|Rr<|?_
   repeat (first|refine df ?_|refine ce ?_|refine dd O ?_|refine bx ?_|refine bv ?_)
   exact cX O (λw hw=>⟨⟨_,rfl⟩,.inr ⟨_,bG (hJx _) hw.rid⟩⟩)
 ·obtain rfl:i=2:=by simp at hc;omega
  refine a6 ?_
  repeat (first|refine df ?_|refine ce ?_|refine dd O ?_|refine bx ?_|refine bv ?_)
  refine cy O (λw hw=>⟨⟨_,rfl⟩,.inl ?_⟩);have:=bG (hJ _) hw.rid;rw[tY];exact this
theorem Nj{u:W2}{A:W2×W2}(h:SwA u A): ∃p:GP,p.P=some A/\PUR 196 [EV2 u] (PtV p):=by
 obtain ⟨x,r,s,rfl⟩:=h;exact ⟨_,rfl,pmap s⟩
def gS(p:Nat->GP):Nat->GP
 |0=>dX
 |k+1=>CH (gS p k) (p k)
theorem gS_P{p:Nat->GP}{A B:W2×W2}(h0:(p 0).P=some A)(h1:(p 1).P=some B):(gS p 2).P=E2w.ad (some A) (some B):=by
 show E2w.ad (E2w.ad none (p 0).P) (p 1).P=_;rw[h0,h1];rfl
theorem I8(msg dst:L8)(hbad:Xm.FBad msg dst 2)(a1:Option Addr)(cap1:Nat)(a2:Option Addr)(cap2:Nat)(w:World)(hl1:msg.length<=65600)(hc1:msg.length<=cap1)(hl2:dst.length<=1000)(hc2:dst.length<=cap2)(hw:Gt w)(hb1:BytesAt w a1 msg)(hb2:BytesAt w a2 dst):CLS 144 [.slice a1 msg.length cap1,.slice a2 dst.length cap2].toArray w (λe w'=>e=.returned (.tuple #[.nilFunc,I 130])/\Grow w w'):=by
 refine Hf func144 O hw<|λhGF=>ae (E:=EE [193,2000193])<|Asg O<|Asg O<|aa<|ae (E:=EE [193,2000193])<|Mv O<|Mv O<|?_;refine bM O O ent193 O O (λw' hw'=>(Xm.pfc a1 cap1 msg a2 cap2 dst 2 w' om hc1 om hc2 (hGF.g _ _ _ hw') (hb1.grow (ac hw')) (hb2.grow (ac hw'))).mono λe w'' h=> ?_);obtain ⟨v,rfl,hg,hq⟩:=h;obtain rfl:=hq.bad hbad;refine ⟨_,_,rfl,ay hGF,hw'.grow ap hg,λ_ h=>h, ?_⟩;clear hq hg hw';refine Mv O<|Ext O O<|Ext O O<|fT 6 hGF zeroValue246 O O<|λb6=>da 6 hGF O O O sizeOf246 O dc O<|Asg O<|aa<|ah<|ae (E:=EE [193,2000193])<|Mv O<|Bnb true O O (λ_=>bt _ _ _) (rfl)<|aa<|aL O<|ae (E:=EE [193,2000193])<|Mv O<|Asg O<|Asg O<|aa<|ak<|Rr<|?_;exact db O O O (λw hw=>⟨rfl,ac hw⟩)
theorem Rl(msg dst:L8)(hbad: ¬Xm.FBad msg dst 2)(a1:Option Addr)(cap1:Nat)(a2:Option Addr)(cap2:Nat)(w:World)(hl1:msg.length<=65600)(hc1:msg.length<=cap1)(hl2:dst.length<=1000)(hc2:dst.length<=cap2)(hw:Gt w)(hb1:BytesAt w a1 msg)(hb2:BytesAt w a2 dst):CLS 144 [.slice a1 msg.length cap1,.slice a2 dst.length cap2].toArray w (λe w'=> ∃b cap b1,e=.returned (.tuple #[.func (.func 194) #[] #[pnt b1],I 0])/\Grow w w'/\w.heap.size<=b/\w'.rangeAt b 0 (U2c msg dst)/\w.heap.size<=b1/\w'.rangeAt b1 0 [.slice (spt b) 2 cap]):=by
 refine Hf func144 O hw<|λhGF=>ae (E:=EE [193,2000193])<|Asg O<|Asg O<|aa<|ae (E:=EE [193,2000193])<|Mv O<|Mv O<|?_;refine bM O O ent193 O O (λw' hw'=>(Xm.pfc a1 cap1 msg a2 cap2 dst 2 w' om hc1 om hc2 (hGF.g _ _ _ hw') (hb1.grow (ac hw')) (hb2.grow (ac hw'))).mono λe w'' h=> ?_);obtain ⟨v,rfl,hg,hq⟩:=h;obtain ⟨b,cap,rfl,hbs,hbr⟩:=Ck hq hbad;refine ⟨_,_,rfl,ay (qC hGF),MY hw' ap hg hbs (D0 hbr) hbr,λ_ h=>kZ h, ?_⟩;have hbs0:w.heap.size<=b:=Nat.le_trans (ac hw').size hbs;clear hq hg hw' hbs hbr;refine Mv O<|Ext O O<|Ext O O<|fT 6 (qC hGF) zeroValue246 O O<|λb6=>da 6 (qC hGF) O O O sizeOf246 O dc O<|Asg O<|aa<|ah<|ae (E:=EE [193,2000193])<|Mv O<|Bnb false O O (λ_=>bt _ _ _) (rfl)<|aa<|aw O<|aq<|ae (E:=EE [193,2000193])<|fP O O O O<|Asg O<|Asg O<|aa<|ak<|Rr<|?_;exact db O O O (λw hw=>⟨b,cap,b6,rfl,hbl hw,hbs0,Gb hw,(hw.own 6 b6 _ _ O).2.elim id False.elim,(hw.own 6 b6 _ _ O).1.range⟩)
theorem Cw(f:Nat->W2)(p:Nat->GP)(hm0: ∀k,k<2->PUR 196 [EV2 (f k)] (PtV (p k)))(b1 b cap:Nat)(w:World)(hw:Gt w)(hRs: ∀w',Grow w w'->RdE b1 b cap f w'):
 CLS 146 [.func (.func 194) #[] #[pnt b1]].toArray w (λr w'=>r=.returned (PtV (gS p 2))/\Grow w w'):=by
 have hGF:BOk Gt (pl w):=gt_low.plain hw;refine ck (G:=Gt) func146 O O (Hp (pl w) []) (bZ (pl w) trivial ap) (ay hGF)<|Xp<|Al 2 hGF zv94<|λb2=>aa<|Xp<|Al 3 hGF zv94<|λb3=>aa<|ah<|Xp<|Mv O<|aa<|am<|?_;refine ep (λ_=>pl w) (λ_ _=>pl w) (λ_=>hGF) (λ_ _=>hGF) (λ_=>rfl) (λ_ _=>rfl) O O ent194 (mI b1 b cap f) (λx hx=>by obtain ⟨k,hk,rfl⟩:=List.mem_map.1 hx;rfl) O (λk=>[(2,b2,(GL (dX)).map U64,94),(3,b3,(GL (gS p k)).map U64,94)]) (λ_ _ _=>False) trv (λk _ w' h=>hRs w' (h.below (λ_ h=>h))) ?_ ?_ (λ_ _ _ _ _ h=>h.elim)
 ·intro k v hx R hR
  obtain ⟨hk,rfl⟩:=OI f k v hx;have hm:=hm0 k hk;refine Xq<|dJ 4 (hR (pl w) O hGF).1 zv92 O O<|λb4=>aA 4 (hR (pl w) O hGF).1 O O O sizeOf92 sm sm (bi _) O<|aa<|?_;refine ⟨rfl,_,rfl, ?_⟩;refine am<|Xe []<|La 3 O O cf<|La 4 O O aR<|Ca O (hm)<|Ca O (Gr _ _)<|aA 3 (hR (pl w) O hGF).2.1 O O O sizeOf94 sm sm (bi _) O<|aa<|?_
  repeat (refine aW ?_)
  exact ⟨_,rfl,trv⟩
 ·intro D hD
  rw[tY];refine Xp<|La 3 O O cf<|Sa 2 hD O O O cf<|aa<|ak<|Rr<|?_;exact dr (.inl O) ap (au 2 O O O isAgg94 sizeOf94 sm (λw hw=>⟨rfl,ac hw⟩))
theorem Pj{B:Bs}{L:Hl}{Y:Nat->Prop}{w w':World}{b d:Nat}{cs ds:List Value}(h:Hq B L Y w)(hr:Rides B.J)(hg:Grow w w')(hb:w.heap.size<=b)(hb':b<w'.heap.size)(hc:w'.rangeAt b 0 cs)(hd:w.heap.size<=d)(hd':d<w'.heap.size)(he:w'.rangeAt d 0 ds):Hq (pj (pj B b cs) d ds) L Y w':=by
 have k:=MY h hr hg hb hb' hc;refine ⟨k.os,k.tape,k.output,k.size,k.keep,k.own,k.inj,k.apart,k.high,k.lt,k.rid,λe=> ?_,hd',he⟩;rcases e with e|e
 ·have:=h.ownlt e;omega
 ·have:=h.lt _ e;omega
theorem Td{w w':World}{b1 b cap:Nat}{f:Nat->W2}(h1:w.rangeAt b1 0 [.slice (spt b) 2 cap])(h2:w.rangeAt b 0 ((RW 12 (RPr f) 2).map U64))(hg:Grow w w'):RdE b1 b cap f w':=⟨(mQ h1 hg) 0 _ O,mQ h2 hg⟩
theorem C5(msg dst:L8)(hbad:Xm.FBad msg dst 2)(a1:Option Addr)(cap1:Nat)(a2:Option Addr)(cap2:Nat)(w:World)(hl1:msg.length<=65600)(hc1:msg.length<=cap1)(hl2:dst.length<=1000)(hc2:dst.length<=cap2)(hw:Gt w)(hb1:BytesAt w a1 msg)(hb2:BytesAt w a2 dst):CLS 94 [.slice a1 msg.length cap1,.slice a2 dst.length cap2].toArray w (λe w'=>e=.returned (.tuple #[PtV dX,I 130])/\Grow w w'):=by
 refine Hf func94 O hw<|λhGF=>ae (E:=EE [144,2000144])<|Al 4 hGF zv94<|λb4=>Asg O<|aa<|ae (E:=EE [144,2000144])<|Mv O<|Mv O<|?_;refine bM O O ent144 O O (λw' hw'=>(I8 msg dst hbad a1 cap1 a2 cap2 w' hl1 hc1 hl2 hc2 (hGF.g _ _ _ hw') (hb1.grow (ac hw')) (hb2.grow (ac hw'))).mono λe w'' h=> ?_);obtain ⟨rfl,hg⟩:=h;refine ⟨_,_,rfl,ay hGF,hw'.grow ap hg,λ_ h=>h, ?_⟩;clear hg hw';refine Mv O<|Ext O O<|Ext O O<|Asg O<|Asg O<|aa<|ah<|ae (E:=EE [144,2000144])<|Mv O<|Bnb true O O (λ_=>bt _ _ _) (rfl)<|aa<|aL O<|ae (E:=EE [144,2000144])<|bY o8 O O<|Mv O<|Sa 4 hGF O O O cf<|Asg O<|aa<|ak<|Rr<|?_;exact aG 4 O O O O isAgg94 sizeOf94 sm (λw hw=>⟨rfl,ac hw⟩)
theorem DA(msg dst:L8)(hbad: ¬Xm.FBad msg dst 2)(p:Nat->GP)(hm0: ∀k,k<2->PUR 196 [EV2 (U2n msg dst k)] (PtV (p k)))(a1:Option Addr)(cap1:Nat)(a2:Option Addr)(cap2:Nat)(w:World)(hl1:msg.length<=65600)(hc1:msg.length<=cap1)(hl2:dst.length<=1000)(hc2:dst.length<=cap2)(hw:Gt w)(hb1:BytesAt w a1 msg)(hb2:BytesAt w a2 dst):CLS 94 [.slice a1 msg.length cap1,.slice a2 dst.length cap2].toArray w (λe w'=>e=.returned (.tuple #[PtV (gCl (gS p 2)),I 0])/\Grow w w'):=by
 refine Hf func94 O hw<|λhGF=>ae (E:=EE [144,2000144])<|Al 4 hGF zv94<|λb4=>Asg O<|aa<|ae (E:=EE [144,2000144])<|Mv O<|Mv O<|?_;refine bM O O ent144 O O (λw' hw'=>(Rl msg dst hbad a1 cap1 a2 cap2 w' hl1 hc1 hl2 hc2 (hGF.g _ _ _ hw') (hb1.grow (ac hw')) (hb2.grow (ac hw'))).mono λe w'' h=> ?_);obtain ⟨b,cap,b1,rfl,hg,hbs,hbr,hds,hdr⟩:=h;refine ⟨_,_,rfl,ay (qC (qC hGF)),Pj hw' ap hg hbs (D0 hbr) hbr hds (block_lt_of_cell (hdr 0 _ O)) hdr,λ_ h=>kZ (kZ h), ?_⟩;clear hg hw' hbs hbr hds hdr;refine Mv O<|Ext O O<|Ext O O<|Asg O<|Asg O<|aa<|ah<|ae (E:=EE [144,2000144])<|Mv O<|Bnb false O O (λ_=>bt _ _ _) (rfl)<|aa<|aw O<|aq<|ae (E:=EE [144,2000144])<|Mv O<|Cc O ent146 (λw' hC hG=>Cw (U2n msg dst) p hm0 b1 b cap w' hG (λw'' hg=>Td (Gb hC) (Gb (kZ hC)) hg))<|Ca O (Sg _)<|Sa 4 (qC (qC hGF)) O O O cf<|Asg O<|aa<|ak<|Rr<|?_;exact aG 4 O O O O isAgg94 sizeOf94 sm (λw hw=>⟨rfl,hbl hw⟩)
theorem phs:PHs:=by
 refine ⟨λmsg dst hb=>⟨dX,rfl,λa1 cap1 a2 cap2 w=>C5 msg dst hb a1 cap1 a2 cap2 w⟩,λmsg dst A B hb h=> ?_⟩;obtain ⟨p0,e0,h0⟩:=Nj h.s0;obtain ⟨p1,e1,h1⟩:=Nj h.s1;refine ⟨gCl (gS (λk=>if k=0 then p0 else p1) 2), ?_,λa1 cap1 a2 cap2 w=>DA msg dst hb _ (λk hk=> ?_) a1 cap1 a2 cap2 w⟩
 ·rw[WT,gS_P (A:=A) (B:=B) e0 e1]
 ·match k,hk with
  |0,_=>exact h0
  |1,_=>exact h1
end
section
theorem ff(P:Pt Zp):(EN1 P).length=48:=by
 cases P with
 |none=>rfl
 |some p=>exact (o0 _ _).trans (aH _)
theorem fY(P:Pt W2):(EN2 P).length=96:=by
 cases P with
 |none=>rfl
 |some p=>exact (o0 _ _).trans (by rw[List.length_append,aH,aH])
attribute [local simp] J1.bk J2.bk bH fh ff fY
attribute [local simp] iH
theorem ent14:ai prog 14:=λ_ _=>kr
theorem ent20:ai prog 20:=λ_ _=>kr
theorem ent33:ai prog 33:=λ_ _=>kr
theorem ent29:ai prog 29:=λ_ _=>kr
theorem ent37:ai prog 37:=λ_ _=>kr
theorem ent64:ai prog 64:=λ_ _=>kr
theorem ent72:ai prog 72:=λ_ _=>kr
theorem ent44:ai prog 44:=λ_ _=>kr
theorem ent70:ai prog 70:=λ_ _=>kr
theorem ent126:ai prog 126:=λ_ _=>kr
theorem ent183:ai prog 183:=λ_ _=>kr
theorem zv30(w:World):(zeroValue 30).run prog w=.ok (.agg ((List.replicate 48 (0#8)).map U8).toArray) w:=(zeroValue30 w).trans rr
theorem zv33(w:World):(zeroValue 33).run prog w=.ok (.agg ((List.replicate 96 (0#8)).map U8).toArray) w:=(zeroValue33 w).trans rr
theorem W5(x:Zr):PUR 13 [RV x] (.agg ((EN1 (J1.r7 J1.rU x).P).map U8).toArray):=by
 intro w hw;refine Hf func13 O hw<|λhGF=>Xp<|Bx 1 hGF O<|λb1=>Al 2 hGF zv30<|λb2=>aa<|Xd []<|Ca O (J1.HV)<|La 1 O O nU<|Ca O (J1.un _ x)<|Ca O (Uc _)<|aA 2 hGF O O O sizeOf30 (by simp[*]) sm (bL _) O<|aa<|ak<|Rr<|?_
 exact au 2 O O O isAgg30 sizeOf30 sm (λw hw=>⟨rfl,ac hw⟩)
theorem Wl:SUb.data.toList=SUs.map (λx=>UInt8.ofBitVec x):=rfl
def HsC(msg:L8)(p:J2.GP)(c:Int):Prop:= ∀(a1:Option Addr) (cap1:Nat) (a2:Option Addr) (cap2:Nat) (w:World),msg.length<=65600->msg.length<=cap1->SUs.length<=1000->SUs.length<=cap2->Gt w->BytesAt w a1 msg->BytesAt w a2 SUs->CLS 94 [.slice a1 msg.length cap1,.slice a2 SUs.length cap2].toArray w (λe w'=>e=.returned (.tuple #[J2.PtV p,I c])/\Grow w w')
structure Ms(msg:L8)(p:J2.GP)(c:Int):Prop where
 h:HsC msg p c
 r:E2w.times p.P ORD=none
theorem Q0(msg:L8)(p:J2.GP)(c:Int)(hM:Ms msg p c)(a:Option Addr)(cap:Nat)(w:World)(hl:msg.length<=65600)(hc:msg.length<=cap)(hw:Gt w)(hb:BytesAt w a msg):CLS 44 [.slice a msg.length cap].toArray w (λr w'=>r=.returned (.tuple #[J2.PtV p,I c])/\Grow w w'):=by
 refine Hf func44 O hw<|λhGF=>ae (E:=EE [1000022])<|Al 2 hGF J2.zv94<|λb2=>Asg O<|aa<|ae (E:=EE [1000022])<|Mv O<|Ca O (Q5)<|?_;refine xv 6 (xs:=SUs) O hGF O underlying9 underlying22 underlying5 Wl O O (λb6 c6 k6 e6 l6 t6=> ?_);refine Cc O ent94 (λw' hC hG=>hM.h a cap _ _ w' hl hc dc l6 hG (hb.grow (ac hC)) (cx (aX (n:=6) O w' hC) t6))<|Ext O O<|Ext O O<|Sa 2 hGF O O O cf<|Asg O<|aa<|ak<|Rr<|?_;exact aG 2 O O O O isAgg94 sizeOf94 sm (λw hw=>⟨rfl,ac hw⟩)
theorem H8(x:Zr)(msg:L8)(p:J2.GP)(hM:Ms msg p 0)(a:Option Addr)(cap:Nat)(w:World)(hl:msg.length<=65600)(hc:msg.length<=cap)(hw:Gt w)(hb:BytesAt w a msg):CLS 14 [RV x,.slice a msg.length cap].toArray w (λr w'=>r=.returned (.tuple #[.agg ((EN2 (J2.r7 p x).P).map U8).toArray,I 0])/\Grow w w'):=by
 refine Hf func14 O hw<|λhGF=>Xp<|Bx 2 hGF O<|λb2=>Al 4 hGF zv33<|λb4=>Asg O<|aa<|Xp<|Mv O<|Cc O ent44 (λw' hC hG=>Q0 msg p _ hM a cap w' hl hc hG (hb.grow (ac hC)))<|Mv O<|Ext O O<|Ext O O<|Al 6 hGF J2.zv94<|λb6=>Sa 6 hGF O O O cf<|Asg O<|aa<|ah<|Xp<|Mv O<|Bnb false O O (λ_=>bt _ _ _) (rfl)<|aa<|aw O<|aq<|Xp<|La 6 O O cf<|La 2 O O nU<|Ca O (J2.un _ x)<|Ca O (Si _)<|aA 4 hGF O O O sizeOf33 (by simp[*]) sm (bL _) O<|Asg O<|aa<|ak<|Rr<|?_
 exact aG 4 O O O O isAgg33 sizeOf33 sm (λw hw=>⟨rfl,ac hw⟩)
theorem Kp(bs:L8)(hn:bs.length=48)(c:Int)(h0: ¬c=0)(P:Pt Zp)(hD:D1 bs c P):PUR 20 [.agg ((bs).map U8).toArray] (.tuple #[J1.PtV J1.dX,I c]):=by
 intro w hw;refine Hf func20 O hw<|λhGF=>Xp<|Bx 1 hGF O<|λb1=>Al 2 hGF J1.zv54<|λb2=>Asg O<|aa<|Xp<|bB (l:=0) (h':=48) O underlying30 sizeOf5 O O dc dc O O<|Cc O ent55 (λw' hC hG=>ye _ 48 48 bs hn _ P hD dc w' hG (BytesAt.range (aX (n:=1) O w' hC)))<|Mv O<|Ext O O<|Ext O O<|Al 4 hGF J1.zv54<|λb4=>Sa 4 hGF O O O bV<|Asg O<|aa<|ah<|am<|Xp<|Mv O<|Bnb true O O (λ_=>bt _ _ _) (bne_iff_ne.2 h0)<|Asg O<|aa<|aL O<|Xp<|Ca O (J1.ld)<|Mv O<|Sa 2 hGF O O O bV<|Asg O<|aa<|ak<|Rr<|?_;exact aG 2 O O O O isAgg54 sizeOf54 sm (λw hw=>⟨rfl,ac hw⟩)
theorem A1(bs:L8)(hn:bs.length=48)(P:Pt Zp)(h0:P=none)(hD:D1 bs 0 P):PUR 20 [.agg ((bs).map U8).toArray] (.tuple #[J1.PtV J1.dX,I 160]):=by
 intro w hw;refine Hf func20 O hw<|λhGF=>Xp<|Bx 1 hGF O<|λb1=>Al 2 hGF J1.zv54<|λb2=>Asg O<|aa<|Xp<|bB (l:=0) (h':=48) O underlying30 sizeOf5 O O dc dc O O<|Cc O ent55 (λw' hC hG=>ye _ 48 48 bs hn _ P hD dc w' hG (BytesAt.range (aX (n:=1) O w' hC)))<|Mv O<|Ext O O<|Ext O O<|Al 4 hGF J1.zv54<|λb4=>Sa 4 hGF O O O bV<|Asg O<|aa<|ah<|am<|Xp<|Mv O<|Bnb false O O (λ_=>bt _ _ _) (rfl)<|Asg O<|aa<|aw O<|Xp<|La 4 O O bV<|Cbl true O ent26 (J1.lz _) (decide_eq_true h0)<|Asg O<|aa<|aL O<|Xp<|Ca O (J1.ld)<|Sa 2 hGF O O O bV<|Asg O<|aa<|ak<|Rr<|?_;exact aG 2 O O O O isAgg54 sizeOf54 sm (λw hw=>⟨rfl,ac hw⟩)
theorem Fh(bs:L8)(hn:bs.length=48)(P:Pt Zp)(h0: ¬P=none)(hD:D1 bs 0 P):PUR 20 [.agg ((bs).map U8).toArray] (.tuple #[J1.PtV (cA1 P (sF hD)),I 0]):=by
 intro w hw;refine Hf func20 O hw<|λhGF=>Xp<|Bx 1 hGF O<|λb1=>Al 2 hGF J1.zv54<|λb2=>Asg O<|aa<|Xp<|bB (l:=0) (h':=48) O underlying30 sizeOf5 O O dc dc O O<|Cc O ent55 (λw' hC hG=>ye _ 48 48 bs hn _ P hD dc w' hG (BytesAt.range (aX (n:=1) O w' hC)))<|Mv O<|Ext O O<|Ext O O<|Al 4 hGF J1.zv54<|λb4=>Sa 4 hGF O O O bV<|Asg O<|aa<|ah<|am<|Xp<|Mv O<|Bnb false O O (λ_=>bt _ _ _) (rfl)<|Asg O<|aa<|aw O<|Xp<|La 4 O O bV<|Cbl false O ent26 (J1.lz _) (decide_eq_false h0)<|Asg O<|aa<|aw O<|aq<|Xp<|La 4 O O bV<|Sa 2 hGF O O O bV<|Asg O<|aa<|ak<|Rr<|?_;exact aG 2 O O O O isAgg54 sizeOf54 sm (λw hw=>⟨rfl,ac hw⟩)
theorem Wm(bs:L8)(hn:bs.length=96)(c:Int)(P:Pt W2)(hD:D2 bs c P):PUR 72 [.agg ((bs).map U8).toArray] (.tuple #[J2.PtV (cA2 P (kY hD)),I c]):=by
 intro w hw;refine Hf func72 O hw<|λhGF=>Xp<|Bx 1 hGF O<|λb1=>Al 2 hGF J2.zv94<|λb2=>Asg O<|aa<|Xp<|bB (l:=0) (h':=96) O underlying33 sizeOf5 O O dc dc O O<|Cc O ent128 (λw' hC hG=>TK _ 96 96 bs hn _ P hD dc w' hG (BytesAt.range (aX (n:=1) O w' hC)))<|Ext O O<|Ext O O<|Sa 2 hGF O O O cf<|Asg O<|aa<|ak<|Rr<|?_;exact aG 2 O O O O isAgg94 sizeOf94 sm (λw hw=>⟨rfl,ac hw⟩)
end
section
attribute [local simp] J1.bk J2.bk bH fh ff fY
attribute [local simp] iH
theorem Ky{w w':World}{b o:Nat}{c:List Value}(h:w.rangeAt b o c)(hg:Grow w w'):w'.rangeAt b o c:=λj v hv=>(hg.cell (block_lt_of_cell (h j v hv))).trans (h j v hv)
theorem uy{n m x y:Nat}{c d:List Value}{s t:TypeId}(hx:x≠y): ∀n' m' b c1 t1 c2 t2,lkB [(n,x,c,s),(m,y,d,t)] n'=some (b,c1,t1)->lkB [(n,x,c,s),(m,y,d,t)] m'=some (b,c2,t2)->n'=m':=by
 intro n' m' b c1 t1 c2 t2 h1 h2;rcases aK h1 with ⟨e1,k1⟩|⟨_,h1⟩
 ·rcases aK h2 with ⟨e2,_⟩|⟨_,h2⟩
  ·exact e1.trans e2.symm
  ·rcases aK h2 with ⟨_,k2⟩|⟨_,h2⟩
   ·cases k1;cases k2;exact absurd O hx
   ·cases h2
 ·rcases aK h1 with ⟨e1,k1⟩|⟨_,h1⟩
  ·rcases aK h2 with ⟨_,k2⟩|⟨_,h2⟩
   ·cases k1;cases k2;exact absurd O hx
   ·rcases aK h2 with ⟨e2,_⟩|⟨_,h2⟩
    ·exact e1.trans e2.symm
    ·cases h2
  ·cases h1
def KsAt(w:World)(b s n:Nat)(K:Nat->L8):Prop:= ∀i,i<n->w.rangeAt b (0+s*i) ((K i).map U8)
theorem KsAt.up{w w':World}{b s n:Nat}{K:Nat->L8}(h:KsAt w b s n K)(hg:Grow w w'):KsAt w' b s n K:=λi hi=>Ky (h i hi) hg
namespace J1
def gSm(p:Nat->GP):Nat->GP
 |0=>dX
 |i+1=>CH (gSm p i) (p i)
def PEs(p:Nat->GP)(e:Nat->Int)(n:Nat):List (List Value):=(List.range n).map λ(k:Nat)=>[PtV (p k),I (e k)]
theorem lx(p:Nat->GP)(e:Nat->Int)(n:Nat):(PEs p e n).length=n:=by rw[PEs,List.length_map,List.length_range]
theorem mZ(p:Nat->GP)(e:Nat->Int){n k:Nat}(h:k<n):(PEs p e n)[k]? =some [PtV (p k),I (e k)]:=by
 rw[PEs,List.getElem?_map,List.getElem?_range h];rfl
theorem Gu(p:Nat->GP)(e:Nat->Int){n k:Nat}{v:List Value}(h:(PEs p e n)[k]? =some v):k<n/\v=[PtV (p k),I (e k)]:=by
 have hk:k<n:=by
  rcases Nat.lt_or_ge k n with hk|hk
  ·exact hk
  ·rw[List.getElem?_eq_none (by rw[lx];exact hk)]at h;cases h
 exact ⟨hk,(Option.some.inj ((mZ p e hk).symm.trans h)).symm⟩
structure RdK(b1 b2 b cap n:Nat)(K:Nat->L8)(w:World):Prop where
 l:w.cell? ⟨b1,0,none⟩=some (.slice (spt b) n cap)
 f:w.cell? ⟨b2,0,none⟩=some (.func (.func 20) #[] #[])
 k:KsAt w b 48 n K
def Vd(K:Nat->L8)(p:Nat->GP)(e:Nat->Int)(n:Nat):Prop:= ∀i,i<n->(K i).length=48/\PUR 20 [.agg ((K i).map U8).toArray] (.tuple #[PtV (p i),I (e i)])
theorem SN(a:Option Addr)(l c f:Nat)(w:World)(hw:Gt w):CLS 126 [.slice a l c,.func (.func f) #[] #[]].toArray w (λe w'=> ∃b1 b2,e=.returned (.func (.func 183) #[] #[pnt b1,pnt b2])/\Grow w w'/\w.heap.size<=b1/\w.heap.size<=b2/\b1≠b2/\OwnB w' b1 [.slice a l c] 69/\OwnB w' b2 [.func (.func f) #[] #[]] 56):=by
 refine Hf func126 O hw<|λhGF=>Xp<|iz 2 hGF O O O<|λb2=>iz 3 hGF O O O<|λb3=>Asg O<|aa<|Xp<|fP O O O O<|Asg O<|aa<|ak<|Rr<|?_;exact aO O O (λw hw=>⟨b2,b3,rfl,ac hw,(hw.own 2 b2 _ _ O).2.elim id False.elim,(hw.own 3 b3 _ _ O).2.elim id False.elim,λe=>(by subst e;exact absurd (hw.inj 2 3 _ _ _ _ _ O O) dc),(hw.own 2 b2 _ _ O).1,(hw.own 3 b3 _ _ O).1⟩)
theorem mI(b1 b2 b cap n:Nat)(hn:n<=1000)(K:Nat->L8)(p:Nat->GP)(e:Nat->Int)(hP:Vd K p e n):eS prog Gt 183 [pnt b1,pnt b2] (PEs p e n) (RdK b1 b2 b cap n K):=by
 intro l J Jx hJ hJx hRd hGx hY w hj;have okJ: ∀k,BOk Gt (Bi w (λY=>J Y k)):=λk=>⟨λ_ _ _ h=>(hRd _ _ _ h.rid).1,hJ k⟩;have okX: ∀k,BOk Gt (Bi w (λY=>Jx Y k)):=λk=>⟨λ_ _ _ h=>hGx _ _ _ h.rid,hJx k⟩;have c1: ∀k L w',Hp (Bi w (λY=>J Y k)) L w'->RdK b1 b2 b cap n K w':=λk L w' h=>(hRd _ _ _ h.rid).2;refine ch (G:=Gt) func183 O O (Hp (Bi w (λY=>J Y 0)) []) (bZ (Bi w _) hj (hJ 0)) (ay (okJ 0))<|Xp<|bp O isAgg69 (λw h=>(c1 _ _ w h).l) O O<|bD O (λ_=>aV underlying69 _ _ _ _) O O<|Mv O<|aa<|am<|fV (ι:={i:Nat // i<=n}) (λy=>[(0,.func (.yield l) #[] #[]),(1,pnt b1),(2,pnt b2),(6,.slice (spt b) n cap),(7,I (n:Int)),(8,I (y.1:Int))]) (λy=>Bi w (λY=>J Y y.1)) (λy=>[]) (λy=>n-y.1) ⟨0,Nat.zero_le _⟩ (λ_=>okJ _) O trv trivial<|?_;rintro ⟨i,hi⟩;dsimp only;refine Xp<|Bnr O O (λ_=>aC _ _ _)<|aa<|ah<|?_;refine bE O (λhc=> ?_) (λhc=> ?_)
 ·have hi2:i<n:=by simp at hc;omega
  refine aq<|ah<|am<|Xp<|jQ (s:=48) i O O underlying69 sizeOf30 om om O O<|?_;have hKi:=(hP i hi2).1;refine dK (cs:=(K i).map U8) O isAgg30 sizeOf30 (by rw[List.length_map];exact hKi) (λw h=>(c1 _ _ w h).k i hi2) O O<|Al 5 (okJ _) zv30<|λb5=>aA 5 (okJ _) O O O sizeOf30 (by rw[List.length_map];exact hKi) sm (bL _) O<|aa<|Xp<|Mv O<|bp O isAgg56 (λw h=>(c1 _ _ w h).f) O O<|bO 5 O O isAgg30 sizeOf30 (by rw[List.length_map];exact hKi) O O<|wO O O ent20 (hP i hi2).2 (okJ _) O O O<|Ext O O<|Ext O O<|?_
  refine c9 (hY.b (k:=i) (mZ p e hi2) w) (okJ _) (okX _) O O O O O ?_ ?_
  ·refine aU O (λ_=>aF _) O O<|aa<|aw O<|aq<|Xq<|Bnr O O (λ_=>az _ _ _ oi)<|Mv O<|aa<|?_
   repeat (refine aW ?_)
   exact aQ<|⟨rfl,⟨i+1,om⟩,_,by show n-(i+1)<n-i;omega,rfl,trv,trivial⟩
  ·refine aU O (λ_=>aF _) O O<|aa<|aL O<|ak<|Rr<|?_
   repeat (first|refine df ?_|refine ce ?_|refine dd O ?_|refine bx ?_|refine bv ?_)
   exact cX O (λw hw=>⟨⟨_,rfl⟩,.inr ⟨_,bG (hJx _) hw.rid⟩⟩)
 ·obtain rfl:i=n:=by simp at hc;omega
  refine a6 ?_
  repeat (first|refine df ?_|refine ce ?_|refine dd O ?_|refine bx ?_|refine bv ?_)
  refine cy O (λw hw=>⟨⟨_,rfl⟩,.inl ?_⟩);have:=bG (hJ _) hw.rid;rw[lx];exact this
theorem sD:lZ prog 54 "Add" 142:=λ_ _=>kr
theorem P0(n:Nat)(h0:0<n)(hn:n<=512)(K:Nat->L8)(p:Nat->GP)(e:Nat->Int)(hP:Vd K p e n)(j:Nat)(hjn:j<=n)(he0: ∀i,i<j->e i=0)(heb:j<n->¬e j=0)(b cap:Nat)(w:World)(hw:Gt w)(hK:KsAt w b 48 n K):CLS 70 [.slice (spt b) n cap,.func (.func 20) #[] #[]].toArray w (λr w'=>r=.returned (.tuple #[PtV (if j=n then gSm p n else dX),I (if j=n then 0 else e j)])/\Grow w w'):=by
 have hGF:BOk Gt (pl w):=gt_low.plain hw;refine ck (G:=Gt) func70 O O (Hp (pl w) []) (bZ (pl w) trivial ap) (ay hGF)<|ae (E:=EE [126])<|Al 4 hGF J1.zv54<|λb4=>Asg O<|aa<|jY<|ae (E:=EE [126])<|Al 6 hGF J1.zv54<|λb6=>Al 7 hGF J1.zv54<|λb7=>aa<|ah<|ae (E:=EE [126])<|Mv O<|bD O (λ_=>aV underlying69 _ _ _ _) O O<|Bnb false O O (λ_=>cq _ _ _) (beq_eq_false_iff_ne.2 om)<|Mv O<|Mv O<|bD O (λ_=>aV underlying69 _ _ _ _) O O<|Bnb false O O (λ_=>cm _ _ _) (decide_eq_false om)<|Pk O O O<|aa<|aw O<|aq<|ae (E:=EE [126])<|fT 8 hGF zeroValue34 O O<|λb8=>da 8 hGF O O O sizeOf34 O dc O<|aa<|ah<|lC<|ah<|ae (E:=EE [126])<|Mv O<|Mv O<|?_;refine dp O O ent126 O O (λw' hw'=>(SN _ _ _ _ w' (hGF.g _ _ _ hw')).mono λe' w'' h=> ?_);obtain ⟨b1,b2,rfl,hg,h1,h2,h3,ho1,ho2⟩:=h;refine ⟨_,_,rfl,ay hGF,hw'.news ap hg [(33,b1,[.slice (spt b) n cap],69),(34,b2,[.func (.func 20) #[] #[]],56)] ?_ (uy h3), ?_⟩
 ·intro n' b' c' t' hl
  rcases aK hl with ⟨_,e⟩|⟨_,hl⟩
  ·cases e;exact ⟨h1,ho1⟩
  rcases aK hl with ⟨_,e⟩|⟨_,hl⟩
  ·cases e;exact ⟨h2,ho2⟩
  ·cases hl
 clear hw' hg h1 h2 h3 ho1 ho2;refine aa<|am<|?_;refine vU (λk=>k<=j) (λ_=>pl w) (λ_ _=>pl w) (λ_=>hGF) (λ_ _=>hGF) (λ_=>rfl) (λ_ _=>rfl) O O ent183 (mI b1 b2 b cap n om K p e hP) (λv hv=>by obtain ⟨k,hk,rfl⟩:=List.mem_map.1 hv;rfl) O (λk=>[(4,b4,(GL (dX)).map U64,54),(6,b6,(GL (gSm p k)).map U64,54),(7,b7,(GL (dX)).map U64,54),(8,b8,[I (0)],34),(33,b1,[.slice (spt b) n cap],69),(34,b2,[.func (.func 20) #[] #[]],56)]) (λcd _ L'=>cd=.exit 0/\j<n/\kA L' ([(4,b4,(GL (dX)).map U64,54),(6,b6,(GL (dX)).map U64,54),(7,b7,(GL (dX)).map U64,54),(8,b8,[I (e j)],34),(33,b1,[.slice (spt b) n cap],69),(34,b2,[.func (.func 20) #[] #[]],56)])) (Nat.zero_le _) trv (λk _ w' h=>⟨cp (n:=33) O O w' h,cp (n:=34) O O w' h,hK.up (h.below (λ_ h=>h))⟩) ?_ ?_ ?_ ?_
 ·intro k v hx hQ R hR
  obtain ⟨hk,rfl⟩:=Gu p e hx;rcases Nat.lt_or_ge k j with hkj|hkj
  ·have he:=he0 k hkj
   refine ae (E:=EE [126])<|dJ 9 (hR (pl w) O hGF).1 J1.zv54 O O<|λb9=>aA 9 (hR (pl w) O hGF).1 O O O sizeOf54 sm sm (bi _) O<|aa<|bQ (E:=EE [126])<|Asg O<|aa<|?_;refine ⟨rfl,_,rfl, ?_⟩;refine am<|ae (E:=EE [126])<|Mv O<|aa<|am<|ae (E:=EE [126])<|Bnb true O O (λ_=>cq _ _ _) ((by rw[he];rfl))<|Asg O<|aa<|aL O<|bQ (E:=EE [126])<|La 6 O O bV<|ia O underlying54 O O<|La 9 O O bV<|uc O O sD O ent142 (Gr _ _) O O<|aA 6 (hR (pl w) O hGF).2.1 O O O sizeOf54 sm sm (bi _) O<|aa<|?_
   repeat (refine aW ?_)
   exact ⟨_,rfl,Q9 (Q:=λk=>k<=j) om ⟨rfl,rfl,rfl,rfl,rfl,rfl,trivial⟩⟩
  ·obtain rfl:k=j:=Nat.le_antisymm hQ hkj
   have he:=heb hk;refine ae (E:=EE [126])<|dJ 9 (hR (pl w) O hGF).1 J1.zv54 O O<|λb9=>aA 9 (hR (pl w) O hGF).1 O O O sizeOf54 sm sm (bi _) O<|aa<|bQ (E:=EE [126])<|Asg O<|aa<|?_;refine ⟨rfl,_,rfl, ?_⟩;refine am<|ae (E:=EE [126])<|Mv O<|aa<|am<|ae (E:=EE [126])<|Bnb false O O (λ_=>cq _ _ _) (beq_eq_false_iff_ne.2 he)<|Asg O<|aa<|aw O<|ae (E:=EE [126])<|La 7 O O bV<|Mv O<|aA 6 (hR (pl w) O hGF).2.1 O O O sizeOf54 sm sm (bi _) O<|da 8 (hR (pl w) O hGF).2.1 O O O sizeOf34 O dc O<|aa<|a6<|?_
   repeat (first|refine ce ?_|refine dd O ?_)
   exact ⟨_,rfl,rfl,hk,trv⟩
 ·intro hQ D hD
  rw[lx]at*;obtain rfl:j=n:=Nat.le_antisymm hjn hQ;refine qt (E:=EE [126]) (λX=>X=Hp (B2 (pl w) D) [(8,b8,[I (0)],34)]) (mkB [4]) (rkB [35]) [0,1,2,3] dU O kr kr kr<|jf O O<|La 6 O O bV<|aa<|qW (X:=Hp (B2 (pl w) D) [(8,b8,[I (0)],34)]) O (ej hD.r trv) (λ_=>rfl)<|cG 8 O O O isAgg34 O O<|aa<|mx O<|Sa 4 hD O O O bV<|aa<|?_;refine ⟨λ_ X hX _=>by subst hX;exact ej hD.r trv, ?_⟩
  refine jf O O<|Asg O<|aa<|lF<|ak<|?_
  repeat (first|refine bx ?_|refine bv ?_|refine fc ?_)
  exact dr (.inl O) ap (aG 4 O O O O isAgg54 sizeOf54 sm (λw hw=>⟨by rw[if_pos O,if_pos O],ac hw⟩))
 ·intro D hb
  repeat (first|refine aW ?_|refine aQ ?_|refine Hx ?_)
  exact pT hb
 ·rintro D cd k L' hD ⟨rfl,hlt,hsub⟩
  refine W3 (ej hD.r hsub) (ay hD)<|qt (E:=EE [126]) (λX=>X=Hp (B2 (pl w) D) [(8,b8,[I (e j)],34)]) (mkB [4]) (rkB [35]) [0,1,2,3] dU O kr kr kr<|jf O O<|La 6 O O bV<|aa<|qW (X:=Hp (B2 (pl w) D) [(8,b8,[I (e j)],34)]) O (ej hD.r trv) (λ_=>rfl)<|cG 8 O O O isAgg34 O O<|aa<|mx O<|Sa 4 hD O O O bV<|aa<|?_;refine ⟨λ_ X hX _=>by subst hX;exact ej hD.r trv, ?_⟩
  refine jf O O<|Asg O<|aa<|lF<|ak<|?_
  repeat (first|refine bx ?_|refine bv ?_|refine fc ?_)
  exact dr (.inl O) ap (aG 4 O O O O isAgg54 sizeOf54 sm (λw hw=>⟨by rw[if_neg om,if_neg om],ac hw⟩))
theorem HR(n:Nat)(hn:n=0)(v:Value)(a:Option Addr)(cap:Nat)(w:World)(hw:Gt w):CLS 70 [.slice a n cap,v].toArray w (λr w'=>r=.returned (.tuple #[PtV dX,I 161])/\Grow w w'):=by
 refine Hf func70 O hw<|λhGF=>ae (E:=EE [126])<|Al 4 hGF J1.zv54<|λb4=>Asg O<|aa<|jY<|ae (E:=EE [126])<|Al 6 hGF J1.zv54<|λb6=>Al 7 hGF J1.zv54<|λb7=>aa<|ah<|ae (E:=EE [126])<|Mv O<|bD O (λ_=>aV underlying69 _ _ _ _) O O<|Bnb true O O (λ_=>cq _ _ _) (beq_iff_eq.2 om)<|Mv O<|Sk<|Sk<|Sk<|Pk O O O<|aa<|aL O<|ae (E:=EE [126])<|La 7 O O bV<|Sa 4 hGF O O O bV<|Asg O<|aa<|ak<|?_
 repeat (first|refine bx ?_|refine bv ?_|refine fc ?_)
 exact aG 4 O O O O isAgg54 sizeOf54 sm (λw hw=>⟨rfl,ac hw⟩)
end J1
namespace J2
def gSm(p:Nat->GP):Nat->GP
 |0=>dX
 |i+1=>CH (gSm p i) (p i)
def PEs(p:Nat->GP)(e:Nat->Int)(n:Nat):List (List Value):=(List.range n).map λ(k:Nat)=>[PtV (p k),I (e k)]
theorem lx(p:Nat->GP)(e:Nat->Int)(n:Nat):(PEs p e n).length=n:=by rw[PEs,List.length_map,List.length_range]
theorem mZ(p:Nat->GP)(e:Nat->Int){n k:Nat}(h:k<n):(PEs p e n)[k]? =some [PtV (p k),I (e k)]:=by
 rw[PEs,List.getElem?_map,List.getElem?_range h];rfl
theorem Gu(p:Nat->GP)(e:Nat->Int){n k:Nat}{v:List Value}(h:(PEs p e n)[k]? =some v):k<n/\v=[PtV (p k),I (e k)]:=by
 have hk:k<n:=by
  rcases Nat.lt_or_ge k n with hk|hk
  ·exact hk
  ·rw[List.getElem?_eq_none (by rw[lx];exact hk)]at h;cases h
 exact ⟨hk,(Option.some.inj ((mZ p e hk).symm.trans h)).symm⟩
structure RdK(b1 b2 b cap n:Nat)(K:Nat->L8)(w:World):Prop where
 l:w.cell? ⟨b1,0,none⟩=some (.slice (spt b) n cap)
 f:w.cell? ⟨b2,0,none⟩=some (.func (.func 72) #[] #[])
 k:KsAt w b 96 n K
def Vd(K:Nat->L8)(p:Nat->GP)(e:Nat->Int)(n:Nat):Prop:= ∀i,i<n->(K i).length=96/\PUR 72 [.agg ((K i).map U8).toArray] (.tuple #[PtV (p i),I (e i)])
theorem mI(b1 b2 b cap n:Nat)(hn:n<=1000)(K:Nat->L8)(p:Nat->GP)(e:Nat->Int)(hP:Vd K p e n):eS prog Gt 184 [pnt b1,pnt b2] (PEs p e n) (RdK b1 b2 b cap n K):=by
 intro l J Jx hJ hJx hRd hGx hY w hj;have okJ: ∀k,BOk Gt (Bi w (λY=>J Y k)):=λk=>⟨λ_ _ _ h=>(hRd _ _ _ h.rid).1,hJ k⟩;have okX: ∀k,BOk Gt (Bi w (λY=>Jx Y k)):=λk=>⟨λ_ _ _ h=>hGx _ _ _ h.rid,hJx k⟩;have c1: ∀k L w',Hp (Bi w (λY=>J Y k)) L w'->RdK b1 b2 b cap n K w':=λk L w' h=>(hRd _ _ _ h.rid).2;refine ch (G:=Gt) func184 O O (Hp (Bi w (λY=>J Y 0)) []) (bZ (Bi w _) hj (hJ 0)) (ay (okJ 0))<|Xp<|bp O isAgg72 (λw h=>(c1 _ _ w h).l) O O<|bD O (λ_=>aV underlying72 _ _ _ _) O O<|Mv O<|aa<|am<|fV (ι:={i:Nat // i<=n}) (λy=>[(0,.func (.yield l) #[] #[]),(1,pnt b1),(2,pnt b2),(6,.slice (spt b) n cap),(7,I (n:Int)),(8,I (y.1:Int))]) (λy=>Bi w (λY=>J Y y.1)) (λy=>[]) (λy=>n-y.1) ⟨0,Nat.zero_le _⟩ (λ_=>okJ _) O trv trivial<|?_;rintro ⟨i,hi⟩;dsimp only;refine Xp<|Bnr O O (λ_=>aC _ _ _)<|aa<|ah<|?_;refine bE O (λhc=> ?_) (λhc=> ?_)
 ·have hi2:i<n:=by simp at hc;omega
  refine aq<|ah<|am<|Xp<|jQ (s:=96) i O O underlying72 sizeOf33 om om O O<|?_;have hKi:=(hP i hi2).1;refine dK (cs:=(K i).map U8) O isAgg33 sizeOf33 (by rw[List.length_map];exact hKi) (λw h=>(c1 _ _ w h).k i hi2) O O<|Al 5 (okJ _) zv33<|λb5=>aA 5 (okJ _) O O O sizeOf33 (by rw[List.length_map];exact hKi) sm (bL _) O<|aa<|Xp<|Mv O<|bp O isAgg134 (λw h=>(c1 _ _ w h).f) O O<|bO 5 O O isAgg33 sizeOf33 (by rw[List.length_map];exact hKi) O O<|wO O O ent72 (hP i hi2).2 (okJ _) O O O<|Ext O O<|Ext O O<|?_
  refine c9 (hY.b (k:=i) (mZ p e hi2) w) (okJ _) (okX _) O O O O O ?_ ?_
  ·refine aU O (λ_=>aF _) O O<|aa<|aw O<|aq<|Xq<|Bnr O O (λ_=>az _ _ _ oi)<|Mv O<|aa<|?_
   repeat (refine aW ?_)
   exact aQ<|⟨rfl,⟨i+1,om⟩,_,by show n-(i+1)<n-i;omega,rfl,trv,trivial⟩
  ·refine aU O (λ_=>aF _) O O<|aa<|aL O<|ak<|Rr<|?_
   repeat (first|refine df ?_|refine ce ?_|refine dd O ?_|refine bx ?_|refine bv ?_)
   exact cX O (λw hw=>⟨⟨_,rfl⟩,.inr ⟨_,bG (hJx _) hw.rid⟩⟩)
 ·obtain rfl:i=n:=by simp at hc;omega
  refine a6 ?_
  repeat (first|refine df ?_|refine ce ?_|refine dd O ?_|refine bx ?_|refine bv ?_)
  refine cy O (λw hw=>⟨⟨_,rfl⟩,.inl ?_⟩);have:=bG (hJ _) hw.rid;rw[lx];exact this
theorem sD:lZ prog 94 "Add" 152:=λ_ _=>kr
end J2
end
section
attribute [local simp] J1.bk J2.bk bH fh ff fY
attribute [local simp] iH
attribute [local simp] Q6.fZ
open Q6 in
theorem YM{P:Pt Zp}(hP:E1.onP P){Q:Pt W2}(hQ:E2w.onP Q)(hq:E2w.times Q ORD=none):K12.mul (PR L63 FE P Q) (PR L63 FE (E1.ne P) Q)=K12.one:=by
 rw[PR_1 Ks JP yg vE hP (E1.ne_on hP) hQ hq,E1.ad_ne,X7]
theorem Yq{a b:Nat}(h:K12.pw EG a=K12.pw EG b):a % ORD=b % ORD:=by
 have e:b+b*(ORD-1)=b*ORD:=by rw[Nat.add_comm,<-Nat.mul_succ,show (ORD-1).succ=ORD from by decide+kernel]
 have k:K12.pw EG (a+b*(ORD-1))=K12.one:=by
  rw[K12.pw_add,h,<-K12.pw_add,e,Iw];exact Nat.mul_mod_left _ _
 have k2:=(Iw _).1 k;have k3:a+b*(ORD-1)+b=a+b*ORD:=by rw[Nat.add_assoc,Nat.add_comm _ b,e]
 have k4:=congrArg (· % ORD) k3;rw[Nat.add_mul_mod_self_right,Nat.add_mod,k2,Nat.zero_add,Nat.mod_mod]at k4;exact k4.symm
theorem I4(x:Nat){Q S:Pt W2}(hQ:E2w.onP Q)(hq:E2w.times Q ORD=none)(hS:E2w.onP S)(hs:E2w.times S ORD=none):K12.mul (PR L63 FE (E1.times (some G1p) x) Q) (PR L63 FE (E1.ne (some G1p)) S)=K12.one↔S=E2w.times Q x:=by
 obtain ⟨h,rfl⟩:=xx hQ hq;obtain ⟨s,rfl⟩:=xx hS hs;have u:=YM (P:=some G1p) il hS hs;have e:PR L63 FE (some G1p) (E2w.times (some G2p) s)=K12.pw EG s:=by
  have k1:=uQ 1 s;rw[Nat.one_mul,show E1.times (some G1p) 1=some G1p from O]at k1;exact k1
 rw[e]at u;rw[uQ,<-E2w.times_mul jX];constructor
 ·intro k
  have k1:K12.pw EG (x*h)=K12.pw EG s:=by
   rw[<-K12.mul_one (K12.pw EG (x*h)),<-u,K12.mul_comm (K12.pw EG s),<-K12.mul_assoc,k,K12.one_mul]
  have k2:=Yq k1;rw[<-E2w.times_mod jX jy s,<-k2,E2w.times_mod jX jy,Nat.mul_comm]
 ·intro k
  have k1:=uQ 1 s;have k2:=uQ 1 (h*x);rw[<-k,k1,Nat.one_mul,Nat.one_mul]at k2;rw[Nat.mul_comm x,<-k2];exact u
def v2p(a b:J1.GP×J2.GP):Nat->J1.GP×J2.GP
 |0=>a
 |_=>b
theorem WL{a b:J1.GP×J2.GP}(ha:E2w.times a.2.P ORD=none)(hb:E2w.times b.2.P ORD=none): ∀i,i<2->E2w.times (v2p a b i).2.P ORD=none
 |0,_=>ha
 |1,_=>hb
theorem U3(a b:J1.GP×J2.GP):Q6.PRN (v2p a b) 2=K12.mul (PR L63 FE a.1.P a.2.P) (PR L63 FE b.1.P b.2.P):=by
 rw[Q6.PRN,Q6.PRN,Q6.PRN,K12.one_mul];rfl
theorem VS(K:J1.GP)(bs:L8)(hn:bs.length=96)(S:Pt W2)(hD:D2 bs 0 S)(msg:L8)(H:J2.GP)(hM:Ms msg H 0)(a:Option Addr)(cap:Nat)(hl:msg.length<=65600)(hc:msg.length<=cap)(hK: ∀(d:Nat) (w':World),Gt w'->w'.rangeAt d 0 ((RW 54 (λi=>Q6.PRv (v2p (K,H) (J1.ju J1.rU,cA2 S (kY hD)) i)) 2).map U64)->CLS 118 [.slice (spt d) 2 2].toArray w' (λy w''=>y=.returned (.bool true)/\Grow w' w''))(w:World)(hw:Gt w)(hb:BytesAt w a msg):CLS 64 [J1.PtV K,.slice a msg.length cap,.agg ((bs).map U8).toArray].toArray w (λr w'=>r=.returned (I 0)/\Grow w w'):=by
 refine Hf func64 O hw<|λhGF=>Xp<|Bx 3 hGF O<|λb3=>Bx 5 hGF O<|λb5=>Asg O<|aa<|Xp<|bO 5 O O isAgg33 sizeOf33 (by simp[*]) O O<|Ca O (Wm bs hn _ S hD)<|Mv O<|Ext O O<|Ext O O<|Al 7 hGF J2.zv94<|λb7=>Sa 7 hGF O O O cf<|Asg O<|aa<|ah<|Xp<|Mv O<|Bnb false O O (λ_=>bt _ _ _) (rfl)<|aa<|aw O<|aq<|Xp<|Mv O<|Cc O ent44 (λw' hC hG=>Q0 msg H _ hM a cap w' hl hc hG (hb.grow (ac hC)))<|Mv O<|Ext O O<|Ext O O<|Al 9 hGF J2.zv94<|λb9=>Sa 9 hGF O O O cf<|Asg O<|aa<|ah<|Xp<|Mv O<|Bnb false O O (λ_=>bt _ _ _) (rfl)<|aa<|aw O<|aq<|?_
 refine ah<|Xd []<|La 3 O O bV<|La 9 O O cf<|cF Q6.uR O O sm sm O O<|Ca O (J1.HV)<|Ca O (J1.vd _)<|La 7 O O cf<|cF Q6.uR O O sm sm O O<|rx (s:=54) 33 (λi=>Q6.PRv (v2p (K,H) (J1.ju J1.rU,cA2 S (kY hD)) i)) (List.replicate 54 (0#64)) hGF O O O (λi _=>Q6.fZ _) dc dc underlying183 sizeOf182 sm Q6.zv182 O O<|λb33=>Cc O ent118 (λw' hC hG=>hK b33 w' hG (aX (n:=33) O w' hC))<|aU O (λ_=>aF _) O O<|aa<|aw O<|aq<|Xp<|Asg O<|aa<|ak<|Rr<|?_;exact aO O O (λw hw=>⟨rfl,ac hw⟩)
theorem WD(K:J1.GP)(bs:L8)(hn:bs.length=96)(S:Pt W2)(hD:D2 bs 0 S)(msg:L8)(H:J2.GP)(hM:Ms msg H 0)(a:Option Addr)(cap:Nat)(hl:msg.length<=65600)(hc:msg.length<=cap)(hK: ∀(d:Nat) (w':World),Gt w'->w'.rangeAt d 0 ((RW 54 (λi=>Q6.PRv (v2p (K,H) (J1.ju J1.rU,cA2 S (kY hD)) i)) 2).map U64)->CLS 118 [.slice (spt d) 2 2].toArray w' (λy w''=>y=.returned (.bool false)/\Grow w' w''))(w:World)(hw:Gt w)(hb:BytesAt w a msg):CLS 64 [J1.PtV K,.slice a msg.length cap,.agg ((bs).map U8).toArray].toArray w (λr w'=>r=.returned (I 162)/\Grow w w'):=by
 refine Hf func64 O hw<|λhGF=>Xp<|Bx 3 hGF O<|λb3=>Bx 5 hGF O<|λb5=>Asg O<|aa<|Xp<|bO 5 O O isAgg33 sizeOf33 (by simp[*]) O O<|Ca O (Wm bs hn _ S hD)<|Mv O<|Ext O O<|Ext O O<|Al 7 hGF J2.zv94<|λb7=>Sa 7 hGF O O O cf<|Asg O<|aa<|ah<|Xp<|Mv O<|Bnb false O O (λ_=>bt _ _ _) (rfl)<|aa<|aw O<|aq<|Xp<|Mv O<|Cc O ent44 (λw' hC hG=>Q0 msg H _ hM a cap w' hl hc hG (hb.grow (ac hC)))<|Mv O<|Ext O O<|Ext O O<|Al 9 hGF J2.zv94<|λb9=>Sa 9 hGF O O O cf<|Asg O<|aa<|ah<|Xp<|Mv O<|Bnb false O O (λ_=>bt _ _ _) (rfl)<|aa<|aw O<|aq<|?_
 refine ah<|Xd []<|La 3 O O bV<|La 9 O O cf<|cF Q6.uR O O sm sm O O<|Ca O (J1.HV)<|Ca O (J1.vd _)<|La 7 O O cf<|cF Q6.uR O O sm sm O O<|rx (s:=54) 33 (λi=>Q6.PRv (v2p (K,H) (J1.ju J1.rU,cA2 S (kY hD)) i)) (List.replicate 54 (0#64)) hGF O O O (λi _=>Q6.fZ _) dc dc underlying183 sizeOf182 sm Q6.zv182 O O<|λb33=>Cc O ent118 (λw' hC hG=>hK b33 w' hG (aX (n:=33) O w' hC))<|aU O (λ_=>aF _) O O<|aa<|aL O<|Xp<|Asg O<|aa<|ak<|Rr<|?_;exact aO O O (λw hw=>⟨rfl,ac hw⟩)
theorem IB(K:J1.GP)(x:Nat)(hx:K.P=E1.times (some G1p) x)(bs:L8)(hn:bs.length=96)(S:Pt W2)(hD:D2 bs 0 S)(hs:E2w.times S ORD=none)(msg:L8)(H:J2.GP)(hM:Ms msg H 0)(a:Option Addr)(cap:Nat)(hl:msg.length<=65600)(hc:msg.length<=cap)(e:Int)(he:(S=E2w.times H.P x/\e=0)\/(¬S=E2w.times H.P x/\e=162))(w:World)(hw:Gt w)(hb:BytesAt w a msg):CLS 64 [J1.PtV K,.slice a msg.length cap,.agg ((bs).map U8).toArray].toArray w (λr w'=>r=.returned (I e)/\Grow w w'):=by
 have hk: ∀(d:Nat) (w':World),Gt w'->w'.rangeAt d 0 ((RW 54 (λi=>Q6.PRv (v2p (K,H) (J1.ju J1.rU,cA2 S (kY hD)) i)) 2).map U64)->CLS 118 [.slice (spt d) 2 2].toArray w' (λy w''=>y=.returned (.bool (decide (S=E2w.times H.P x)))/\Grow w' w''):=λd w' hG hr=>by
  have k:=Q6.T5 2 (v2p (K,H) (J1.ju J1.rU,cA2 S (kY hD))) d 2 dc (WL hM.r hs) w' hG hr;have e1:decide (Q6.PRN (v2p (K,H) (J1.ju J1.rU,cA2 S (kY hD))) 2=K12.one)=decide (S=E2w.times H.P x):=by
   refine decide_eq_decide.2 ?_;rw[U3];show K12.mul (PR L63 FE K.P H.P) (PR L63 FE (E1.ne (some G1p)) S)=K12.one↔_;rw[hx];exact I4 x H.on hM.r (kY hD) hs
  rw[e1]at k;exact k
 rcases he with ⟨h1,rfl⟩|⟨h1,rfl⟩
 ·rw[decide_eq_true h1]at hk
  exact VS K bs hn S hD msg H hM a cap hl hc hk w hw hb
 ·rw[decide_eq_false h1]at hk
  exact WD K bs hn S hD msg H hM a cap hl hc hk w hw hb
theorem WN(w:World)(K:J1.GP)(kb:L8)(hkn:kb.length=48)(hk:PUR 20 [.agg ((kb).map U8).toArray] (.tuple #[J1.PtV K,I 0]))(a:Option Addr)(l cap:Nat)(bs:L8)(hn:bs.length=96)(e:Int)(hV: ∀w',Gt w'->Grow w w'->CLS 64 [J1.PtV K,.slice a l cap,.agg ((bs).map U8).toArray].toArray w' (λr w''=>r=.returned (I e)/\Grow w' w''))(hw:Gt w):CLS 29 [.agg ((kb).map U8).toArray,.slice a l cap,.agg ((bs).map U8).toArray].toArray w (λr w'=>r=.returned (I e)/\Grow w w'):=by
 refine Hf func29 O hw<|λhGF=>Xp<|Bx 3 hGF O<|λb3=>Bx 5 hGF O<|λb5=>Asg O<|aa<|Xp<|bO 3 O O isAgg30 sizeOf30 (by simp[*]) O O<|Ca O (hk)<|Mv O<|Ext O O<|Ext O O<|Al 7 hGF J1.zv54<|λb7=>Sa 7 hGF O O O bV<|Asg O<|aa<|ah<|Xp<|Mv O<|Bnb false O O (λ_=>bt _ _ _) (rfl)<|aa<|aw O<|aq<|Xp<|La 7 O O bV<|Mv O<|bO 5 O O isAgg33 sizeOf33 (by simp[*]) O O<|Cc O ent64 (λw' hC hG=>hV w' hG (ac hC))<|Asg O<|aa<|ak<|Rr<|?_
 exact aO O O (λw hw=>⟨rfl,ac hw⟩)
theorem Y9(w:World)(K:J1.GP)(e0:Option Addr)(n0 c0:Nat)(hS: ∀w',Gt w'->Grow w w'->CLS 70 [.slice e0 n0 c0,.func (.func 20) #[] #[]].toArray w' (λr w''=>r=.returned (.tuple #[J1.PtV K,I 0])/\Grow w' w''))(a:Option Addr)(l cap:Nat)(bs:L8)(hn:bs.length=96)(e:Int)(hV: ∀w',Gt w'->Grow w w'->CLS 64 [J1.PtV K,.slice a l cap,.agg ((bs).map U8).toArray].toArray w' (λr w''=>r=.returned (I e)/\Grow w' w''))(hw:Gt w):CLS 37 [.slice e0 n0 c0,.slice a l cap,.agg ((bs).map U8).toArray].toArray w (λr w'=>r=.returned (I e)/\Grow w w'):=by
 refine Hf func37 O hw<|λhGF=>Xp<|Bx 5 hGF O<|λb5=>Asg O<|aa<|Xp<|Mv O<|Cc O ent70 (λw' hC hG=>hS w' hG (ac hC))<|Mv O<|Ext O O<|Ext O O<|Al 7 hGF J1.zv54<|λb7=>Sa 7 hGF O O O bV<|Asg O<|aa<|ah<|Xp<|Mv O<|Bnb false O O (λ_=>bt _ _ _) (rfl)<|aa<|aw O<|aq<|Xp<|La 7 O O bV<|Mv O<|bO 5 O O isAgg33 sizeOf33 (by simp[*]) O O<|Cc O ent64 (λw' hC hG=>hV w' hG (ac hC))<|Asg O<|aa<|ak<|Rr<|?_
 exact aO O O (λw hw=>⟨rfl,ac hw⟩)
theorem FI(w:World)(K:J1.GP)(c:Int)(h0: ¬c=0)(e0:Option Addr)(n0 c0:Nat)(hS: ∀w',Gt w'->Grow w w'->CLS 70 [.slice e0 n0 c0,.func (.func 20) #[] #[]].toArray w' (λr w''=>r=.returned (.tuple #[J1.PtV K,I c])/\Grow w' w''))(hw:Gt w):CLS 33 [.slice e0 n0 c0].toArray w (λr w'=>r=.returned (.tuple #[.agg ((List.replicate 48 (0#8)).map U8).toArray,I c])/\Grow w w'):=by
 refine Hf func33 O hw<|λhGF=>Xp<|Al 2 hGF zv30<|λb2=>Asg O<|aa<|Xp<|Mv O<|Cc O ent70 (λw' hC hG=>hS w' hG (ac hC))<|Mv O<|Ext O O<|Ext O O<|Al 4 hGF J1.zv54<|λb4=>Sa 4 hGF O O O bV<|Asg O<|aa<|ah<|Xp<|Mv O<|Bnb true O O (λ_=>bt _ _ _) (bne_iff_ne.2 h0)<|aa<|aL O<|Xp<|fC zv30 underlying30 sizeOf5 O O<|Mv O<|Sx 2 hGF O O O t30t List.length_replicate (bL _)<|Asg O<|aa<|ak<|Rr<|?_;exact aG 2 O O O O isAgg30 sizeOf30 sm (λw hw=>⟨rfl,ac hw⟩)
end
namespace Sh
abbrev tN:BitVec 32->Nat:=BitVec.toNat
abbrev M32:Nat:=4294967296
def tn(x a b:Nat):Nat:=Nat.lor (Nat.mod (Nat.shiftLeft x a) M32) (Nat.shiftRight x b)
def s1N(x:Nat):Nat:=Nat.xor (Nat.xor (tn x 26 6) (tn x 21 11)) (tn x 7 25)
def s0N(x:Nat):Nat:=Nat.xor (Nat.xor (tn x 30 2) (tn x 19 13)) (tn x 10 22)
def l0N(x:Nat):Nat:=Nat.xor (Nat.xor (tn x 25 7) (tn x 14 18)) (Nat.shiftRight x 3)
def l1N(x:Nat):Nat:=Nat.xor (Nat.xor (tn x 15 17) (tn x 13 19)) (Nat.shiftRight x 10)
def aN(a b:Nat):Nat:=Nat.mod (Nat.add a b) M32
def w4N(bl:List Nat)(i:Nat):Nat:=Nat.lor (Nat.lor (Nat.lor (Nat.mod (Nat.shiftLeft (Nat.mod (bl.getD (4*i) 0) M32) 24) M32) (Nat.mod (Nat.shiftLeft (Nat.mod (bl.getD (4*i+1) 0) M32) 16) M32)) (Nat.mod (Nat.shiftLeft (Nat.mod (bl.getD (4*i+2) 0) M32) 8) M32)) (Nat.mod (bl.getD (4*i+3) 0) M32)
def W1N(bl:List Nat):Nat->List Nat
 |0=>List.replicate 64 0
 |k+1=>(W1N bl k).set k (w4N bl k)
def w5N(ws:List Nat)(i:Nat):Nat:=aN (aN (aN (l1N (ws.getD (i-2) 0)) (ws.getD (i-7) 0)) (l0N (ws.getD (i-15) 0))) (ws.getD (i-16) 0)
def W2N(bl:List Nat):Nat->List Nat
 |0=>W1N bl 16
 |k+1=>(W2N bl k).set (16+k) (w5N (W2N bl k) (16+k))
structure VN where
 (a b c d e f g h:Nat)
def ttN(v:VN)(k w:Nat):Nat:=aN (aN (aN (aN v.h (s1N v.e)) (Nat.xor (Nat.land v.e v.f) (Nat.land (Nat.sub 4294967295 v.e) v.g))) k) w
def JO(v:VN)(k w:Nat):VN:=⟨aN (ttN v k w) (aN (s0N v.a) (Nat.xor (Nat.xor (Nat.land v.a v.b) (Nat.land v.a v.c)) (Nat.land v.b v.c))),v.a,v.b,v.c,aN v.d (ttN v k w),v.e,v.f,v.g⟩
def zC(v:VN)(ks ws:List Nat):Nat->VN
 |0=>v
 |k+1=>JO (zC v ks ws k) (ks.getD k 0) (ws.getD k 0)
def vN(s:List Nat):VN:=⟨s.getD 0 0,s.getD 1 0,s.getD 2 0,s.getD 3 0,s.getD 4 0,s.getD 5 0,s.getD 6 0,s.getD 7 0⟩
def Gl(ks s bl:List Nat):List Nat:=
 let v:=zC (vN s) ks (W2N bl 48) 64
 [aN (s.getD 0 0) v.a,aN (s.getD 1 0) v.b,aN (s.getD 2 0) v.c,aN (s.getD 3 0) v.d,aN (s.getD 4 0) v.e,aN (s.getD 5 0) v.f,aN (s.getD 6 0) v.g,aN (s.getD 7 0) v.h]
def SW(ks s:List Nat):List (List Nat)->List Nat
 |[]=>s
 |b::l=>SW ks (Gl ks s b) l
def V8.n(v:V8):VN:=⟨tN v.a,tN v.b,tN v.c,tN v.d,tN v.e,tN v.f,tN v.g,tN v.h⟩
theorem qP(x y:BitVec 32):tN (x+y)=aN (tN x) (tN y):=BitVec.toNat_add x y
theorem lY(x:BitVec 32)(k:Int)(a b:Nat)(ha:(BitVec.ofInt 64 k &&& 31#64).toNat=a)(hb:(32#64-(BitVec.ofInt 64 k &&& 31#64)).toNat=b):tN (mH x k)=tn (tN x) a b:=by
 subst ha hb;show BitVec.toNat (mH x k)=_;rw[mH,BitVec.toNat_or,BitVec.toNat_shiftLeft,BitVec.toNat_ushiftRight];rfl
theorem kV(x y:BitVec 32):tN (x^^^y)=Nat.xor (tN x) (tN y):=BitVec.toNat_xor x y
theorem wh(x y:BitVec 32):tN (x &&& y)=Nat.land (tN x) (tN y):=BitVec.toNat_and x y
theorem Xv(x:BitVec 32):tN (~~~x)=Nat.sub 4294967295 (tN x):=BitVec.toNat_not
theorem s1_e(x:BitVec 32):tN (wH x)=s1N (tN x):=by rw[wH,kV,kV,lY x (-6) 26 6 dc dc,lY x (-11) 21 11 dc dc,lY x (-25) 7 25 dc dc];rfl
theorem s0_e(x:BitVec 32):tN (HI x)=s0N (tN x):=by rw[HI,kV,kV,lY x (-2) 30 2 dc dc,lY x (-13) 19 13 dc dc,lY x (-22) 10 22 dc dc];rfl
theorem Mj(x:BitVec 32)(n:Nat):tN (x>>>n)=Nat.shiftRight (tN x) n:=BitVec.toNat_ushiftRight x n
theorem l0_e(x:BitVec 32):tN (LH x)=l0N (tN x):=by rw[LH,kV,kV,lY x (-7) 25 7 dc dc,lY x (-18) 14 18 dc dc,Mj];rfl
theorem l1_e(x:BitVec 32):tN (Jr x)=l1N (tN x):=by rw[Jr,kV,kV,lY x (-17) 15 17 dc dc,lY x (-19) 13 19 dc dc,Mj];rfl
theorem oU{n:Nat}(l:List (BitVec n))(i:Nat):(l.map BitVec.toNat).getD i 0=(l.getD i 0).toNat:=by
 rw[List.getD_eq_getElem?_getD,List.getD_eq_getElem?_getD,List.getElem?_map]
 cases l[i]? with
 |none=>rfl
 |some x=>rfl
theorem w4_e(bl:L8)(i:Nat):tN (w4 bl i)=w4N (bl.map BitVec.toNat) i:=by
 have s: ∀(x:BitVec 8) (k:Nat),BitVec.toNat (x.setWidth 32<<<k)=Nat.mod (Nat.shiftLeft (Nat.mod x.toNat M32) k) M32:=λx k=>by
  rw[BitVec.toNat_shiftLeft,BitVec.toNat_setWidth];rfl
 show BitVec.toNat (w4 bl i)=_;rw[w4,w4N,BitVec.toNat_or,BitVec.toNat_or,BitVec.toNat_or,s,s,s,BitVec.toNat_setWidth,oU,oU,oU,oU];rfl
theorem Xn(bl:L8): ∀k,(W1 bl k).map tN=W1N (bl.map BitVec.toNat) k
 |0=>by rw[W1,W1N,List.map_replicate];rfl
 |k+1=>by rw[W1,W1N,List.map_set,Xn bl k,w4_e]
theorem w5_e(ws:L3)(i:Nat):tN (w5 ws i)=w5N (ws.map tN) i:=by
 rw[w5,w5N,qP,qP,qP,l1_e,l0_e,oU,oU,oU,oU]
theorem Sp(bl:L8): ∀k,(W2 bl k).map tN=W2N (bl.map BitVec.toNat) k
 |0=>Xn bl 16
 |k+1=>by rw[W2,W2N,List.map_set,Sp bl k,w5_e,Sp bl k]
theorem Va(v:V8)(k w:BitVec 32):(rnd v k w).n=JO v.n (tN k) (tN w):=by
 have t:tN (v.h+wH v.e+(v.e &&& v.f^^^ ~~~v.e &&& v.g)+k+w)=ttN v.n (tN k) (tN w):=by
  rw[qP,qP,qP,qP,s1_e,kV,wh,wh,Xv];rfl
 have e1:tN (rnd v k w).a=(JO v.n (tN k) (tN w)).a:=by
  show tN ((v.h+wH v.e+(v.e &&& v.f^^^ ~~~v.e &&& v.g)+k+w)+(HI v.a+(v.a &&& v.b^^^v.a &&& v.c^^^v.b &&& v.c)))=_;rw[qP,t,qP,s0_e,kV,kV,wh,wh,wh];rfl
 have e2:tN (rnd v k w).e=(JO v.n (tN k) (tN w)).e:=by
  show tN (v.d+(v.h+wH v.e+(v.e &&& v.f^^^ ~~~v.e &&& v.g)+k+w))=_;rw[qP,t];rfl
 show VN.mk (tN (rnd v k w).a) _ _ _ (tN (rnd v k w).e) _ _ _=_;rw[e1,e2];rfl
theorem Fc(v:V8)(ws:L3): ∀k,(oW v ws k).n=zC v.n (KW.map tN) (ws.map tN) k
 |0=>rfl
 |k+1=>by rw[oW,zC,Va,Fc v ws k,oU,oU]
theorem vN_e(st:L3):(v8 st).n=vN (st.map tN):=by
 simp only[vN,oU];rfl
theorem PJ(st:L3)(bl:L8):(uZ st bl).map tN=Gl (KW.map tN) (st.map tN) (bl.map BitVec.toNat):=by
 have h:=Fc (v8 st) (W2 bl 48) 64;rw[vN_e,Sp]at h;rw[Gl,<-h];simp only[uZ,YB,List.map_cons,List.map_nil,oU,qP];rfl
theorem FC(st:L3)(b:L8)(l:List L8): ∀k,gX st (b::l) (k+1)=gX (uZ st b) l k
 |0=>rfl
 |k+1=>by rw[gX,FC st b l k];rfl
theorem NW: ∀(l:List L8) (st:L3),(gX st l l.length).map tN=SW (KW.map tN) (st.map tN) (l.map (·.map BitVec.toNat))
 |[],_=>rfl
 |b::l,st=>by
  rw[List.length_cons,FC,NW l,PJ];rfl
theorem Ts(l:L3):(l.map tN).map (BitVec.ofNat 32)=l:=by
 rw[List.map_map];exact (List.map_congr_left λx _=>BitVec.ofNat_toNat 32 x|>.trans (BitVec.setWidth_eq x)).trans (List.map_id l)
theorem mT(bs r:L8)(h:DG ((SW (KW.map tN) (IV.map tN) ((CP bs).map (·.map BitVec.toNat))).map (BitVec.ofNat 32)) 8=r):SHA bs=r:=by
 rw[SHA,<-Ts (gX IV (CP bs) (CP bs).length),NW];exact h
end Sh
def wG:W2:=(zp 0x4a1a6fbdd75a0a015d8b97f9b7778cb923e5fab97e6dc0ada2f001b452745ac708ce13797418e6a361d408d7d680684,zp 0xdbba1ca562e8bdb6032da29043bd2a3b08775da7ac5d24b3af502c0a9279ac704e6ddfb9d18a3c57f161d2c62d60e1f)
def XP:W2:=(zp 0x21535d46c591ae51ea59ab9491a6b9cd35ff4f85826e9915e8b0c757f9ab2ab5090fce821399c2cec7f0c0e6d77cd9c,zp 0x25a27be7a3911aa82f64e6d40e73db7f4ada224ea508874ef6bd351588204f0933c5a53815ddcd17c33cb3a26ac8a65)
def mmy0:W2:=(zp 0x9315ba1a011f20cd38ffaabb09603d06a295ef31792f2c55128a130273557a146c65e15a894b561ea42449f72e05ce8,zp 0x36e9a81bb9182d66500bc370e277f842552f69e08e67141cffa537cd2507d5f69028db0682c32bf3f011f6d6fb18f74)
def Qs:W2×W2:=((zp 0xe5528f71e373b4cf4afeae262a9f7740af62f1f146cb03b2f585a3c472692d1e2312171c6affb64079df761a6fb895c,zp 0x40d6dac87e668f0c302c639a58fca14889c97ab0af29bff72d109475ef9633938e46dacaf3800b143c3951edfac00f5),(zp 0xe9aaf4f09f560fdc6700fba1f2fa6ea051feea7c1522fb68b475762a1222fa5a4a32027c5665199aa084ab2eaa2eac0,zp 0x7e31b613c8b044266240abcdbc53de1205bbd28644eda52d4acc7bfc6ac181dc09f84e9f0917ddb3fb2db605dcb5d71))
theorem VL{x r:W2}(s:SwR wG x r):x=XP/\sgS r wG=mmy0:=by
 have h:=RD (X:=(zp 0x1445931e8f87914a5e5dff9a6367ea5b6eecfebfa5dbd3644276be2084cf50dbd6f255c3e3c71fa7e756d3e8eb98d8c,zp 0x104dc64d945da164baef0f4ca48c2f5bdd79ca3e6d34207d6ca583818d41c98061051b2988759d8273ee71dccdab02a3)) (X':=XP) (R:=(zp 0x9315ba1a011f20cd38ffaabb09603d06a295ef31792f2c55128a130273557a146c65e15a894b561ea42449f72e05ce8,zp 0x36e9a81bb9182d66500bc370e277f842552f69e08e67141cffa537cd2507d5f69028db0682c32bf3f011f6d6fb18f74)) (q:=zp 0xdac9d21e47174c96a071c9e810c4a14509be19c174d93dca733279dbf3e05d1b596ec771c74d7df2b7a3db90a55e76) (by decide+kernel) (by decide+kernel) (by decide+kernel) (by decide+kernel) (by decide+kernel) (by decide+kernel) (by decide+kernel) s
 exact ⟨h.1,by rw[h.2];decide+kernel⟩
theorem mmq0{x r:W2}(s:SwR wG x r):(XIs x,YIs x (sgS r wG))=Qs:=by
 rw[(VL s).2,(VL s).1];exact Prod.ext (Nt (by decide+kernel) (by decide+kernel)) (Nv (by decide+kernel) (by decide+kernel))
theorem mmo0:E2w.on Qs:=by
 unfold Ec.on;decide+kernel
def vI:W2:=(zp 0x88b742e34a06f08dae75df6b2bea04eb3e473a392b6fd00284a28b63ad06976480d134d08e780ac1654ea9398db027a,zp 0xba39e89ae159b80dce7d0779408abc9852e05f54fb489f657ae1495caf3223fe2b5eb69b8daca03a010b491852ed9fb)
def XA:W2:=(zp 0x1282216845306bbd6e021b45b7a42bf1fc20df27014f92120519b37afd7e697762112b16860f3b08c8a79e95f102f4eb,zp 0xa4ba0dba5603a134bd786cca59f66eff1940460ee60c65e5f3b5765da92a4d5152aeeaf1cc81c0d80d24c625d4ddce5)
def mmy1:W2:=(zp 0xb5f594a31f82557fb104862b8da474f82730f49b063c1500a3f44a2524027f5d045c446d010cae05b3cb59720cc237a,zp 0x83d1bac0b3db3945538e523d6d97e66388592e8e1ffee055ef37b9288316aadd58bcf5f1adc9bc9d2eb8ed1f9092ef0)
def OW:W2×W2:=((zp 0x18fe49d245cb404aa63bc2979912ca9199e29263bf25c55bcf8a5570509429b33744b0d9e5e38c8b0ffa96ca37f34f0,zp 0x8af245a8c56afe24ab1a5e9d0b2e57d98ad35b1a2f1ab1741847a3efbd70c9f93d9b12db792a9fda10ca67fde0c7bde),(zp 0x18339860a12634c09f56c86d7394f66dc87632a6a94ea54e3638d91b543a48cd83e6189211d031c35088f1655d645237,zp 0x18f87c161a07eb19ade5e67e09d3949e2d5ab28bc33b8795d06378ef88652a286fea933d0b106a39e405aa07a2285f3f))
theorem Zc{x r:W2}(s:SwR vI x r):x=XA/\sgS r vI=mmy1:=by
 have h:=QS (R:=(zp 0xb5f594a31f82557fb104862b8da474f82730f49b063c1500a3f44a2524027f5d045c446d010cae05b3cb59720cc237a,zp 0x83d1bac0b3db3945538e523d6d97e66388592e8e1ffee055ef37b9288316aadd58bcf5f1adc9bc9d2eb8ed1f9092ef0)) (X:=XA) (by decide+kernel) (by decide+kernel) (by decide+kernel) (by decide+kernel) s
 exact ⟨h.1,by rw[h.2];decide+kernel⟩
theorem mmq1{x r:W2}(s:SwR vI x r):(XIs x,YIs x (sgS r vI))=OW:=by
 rw[(Zc s).2,(Zc s).1];exact Prod.ext (Nt (by decide+kernel) (by decide+kernel)) (Nv (by decide+kernel) (by decide+kernel))
theorem mmo1:E2w.on OW:=by
 unfold Ec.on;decide+kernel
def mmX:W2:=(zp 0x15d20c32159aace6759a783461fd9e3c5ea985d29a7a466bc11c0ad3e5923bfee7e335057028e7c7c4db7df243baee61,zp 0x197c335f20db08e91c53aecbabf17e0c0880d2d3f17fa9d9f4f2bb7caae0c05c201db70fd56d044ed05b6cb2968dbb7d)
theorem WS{x r x' r':W2}(s:SwR wG x r)(s':SwR vI x' r'): ∃y,E2w.times (E2w.ad (some (XIs x,YIs x (sgS r wG))) (some (XIs x',YIs x' (sgS r' vI)))) HEF=some (mmX,y):=by
 rw[mmq0 s,mmq1 s'];exact Ef mmo0 mmo1 (l9 Qs) (l9 OW) G3 (by decide+kernel)
namespace Xm
def mmm:L8:=[109#8]
def mmd:L8:=[66#8,76#8,83#8,95#8,83#8,73#8,71#8,95#8,66#8,76#8,83#8,49#8,50#8,51#8,56#8,49#8,71#8,50#8,95#8,88#8,77#8,68#8,58#8,83#8,72#8,65#8,45#8,50#8,53#8,54#8,95#8,83#8,83#8,87#8,85#8,95#8,82#8,79#8,95#8,80#8,79#8,80#8,95#8]
def mmb:L8:=[123#8,71#8,213#8,206#8,230#8,221#8,139#8,80#8,195#8,100#8,179#8,9#8,239#8,248#8,219#8,121#8,59#8,67#8,238#8,233#8,90#8,183#8,54#8,237#8,243#8,192#8,188#8,151#8,202#8,133#8,187#8,46#8]
def mml:Nat->L8
 |0=>[0#8,0#8,0#8,0#8,0#8,0#8,0#8,0#8,0#8,0#8,0#8,0#8,0#8,0#8,0#8,0#8,0#8,0#8,0#8,0#8,0#8,0#8,0#8,0#8,0#8,0#8,0#8,0#8,0#8,0#8,0#8,0#8]
 |1=>[233#8,243#8,94#8,46#8,92#8,128#8,246#8,94#8,201#8,255#8,229#8,232#8,220#8,235#8,67#8,138#8,89#8,141#8,220#8,239#8,198#8,80#8,150#8,242#8,255#8,5#8,130#8,85#8,193#8,159#8,150#8,94#8]
 |2=>[123#8,106#8,141#8,225#8,33#8,56#8,34#8,181#8,227#8,178#8,69#8,227#8,216#8,181#8,80#8,213#8,193#8,175#8,53#8,17#8,181#8,108#8,40#8,216#8,41#8,127#8,26#8,95#8,16#8,92#8,95#8,159#8]
 |3=>[137#8,19#8,115#8,95#8,213#8,222#8,108#8,66#8,47#8,107#8,9#8,245#8,211#8,113#8,239#8,43#8,168#8,66#8,250#8,106#8,217#8,161#8,154#8,46#8,187#8,60#8,106#8,175#8,104#8,200#8,201#8,131#8]
 |4=>[253#8,180#8,156#8,144#8,219#8,151#8,20#8,70#8,87#8,98#8,89#8,5#8,57#8,229#8,82#8,56#8,143#8,169#8,40#8,200#8,6#8,255#8,124#8,243#8,132#8,144#8,3#8,103#8,221#8,185#8,182#8,82#8]
 |5=>[213#8,239#8,78#8,111#8,76#8,88#8,150#8,146#8,179#8,217#8,181#8,212#8,200#8,240#8,93#8,168#8,136#8,18#8,155#8,38#8,110#8,91#8,73#8,141#8,183#8,84#8,162#8,10#8,174#8,29#8,255#8,192#8]
 |6=>[83#8,237#8,92#8,221#8,179#8,250#8,120#8,30#8,238#8,212#8,149#8,238#8,189#8,94#8,81#8,63#8,140#8,154#8,19#8,104#8,143#8,3#8,74#8,181#8,146#8,224#8,8#8,196#8,23#8,171#8,209#8,153#8]
 |7=>[28#8,190#8,98#8,198#8,79#8,142#8,86#8,0#8,81#8,219#8,173#8,44#8,221#8,44#8,73#8,212#8,103#8,191#8,247#8,78#8,201#8,230#8,160#8,154#8,180#8,238#8,112#8,83#8,104#8,75#8,255#8,124#8]
 |_=>[94#8,54#8,50#8,215#8,242#8,99#8,63#8,84#8,156#8,195#8,108#8,171#8,68#8,220#8,94#8,69#8,251#8,216#8,116#8,227#8,116#8,52#8,73#8,39#8,222#8,120#8,139#8,199#8,90#8,111#8,241#8,166#8]
theorem mm_b:B0 mmm mmd 256=mmb:=Sh.mT _ _ (by decide+kernel)
theorem Vb:Xk mmb (D mmd) 0=mml 0:=by decide+kernel
theorem Nd:Xk mmb (D mmd) 1=mml 1:=by
 show Xk mmb (D mmd) (0+1)=_;rw[Xk,Vb];exact Sh.mT _ _ (by decide+kernel)
theorem Ma:Xk mmb (D mmd) 2=mml 2:=by
 show Xk mmb (D mmd) (1+1)=_;rw[Xk,Nd];exact Sh.mT _ _ (by decide+kernel)
theorem M8:Xk mmb (D mmd) 3=mml 3:=by
 show Xk mmb (D mmd) (2+1)=_;rw[Xk,Ma];exact Sh.mT _ _ (by decide+kernel)
theorem NI:Xk mmb (D mmd) 4=mml 4:=by
 show Xk mmb (D mmd) (3+1)=_;rw[Xk,M8];exact Sh.mT _ _ (by decide+kernel)
theorem NG:Xk mmb (D mmd) 5=mml 5:=by
 show Xk mmb (D mmd) (4+1)=_;rw[Xk,NI];exact Sh.mT _ _ (by decide+kernel)
theorem Mr:Xk mmb (D mmd) 6=mml 6:=by
 show Xk mmb (D mmd) (5+1)=_;rw[Xk,NG];exact Sh.mT _ _ (by decide+kernel)
theorem NE:Xk mmb (D mmd) 7=mml 7:=by
 show Xk mmb (D mmd) (6+1)=_;rw[Xk,Mr];exact Sh.mT _ _ (by decide+kernel)
theorem YL:Xk mmb (D mmd) 8=mml 8:=by
 show Xk mmb (D mmd) (7+1)=_;rw[Xk,NE];exact Sh.mT _ _ (by decide+kernel)
theorem VE:E mmm mmd 256=mml 1++mml 2++mml 3++mml 4++mml 5++mml 6++mml 7++mml 8:=by
 rw[E,mm_b,show (256+31) / 32=8 from O];simp only[Ozz,List.nil_append];rw[Nd,Ma,M8,NI,NG,Mr,NE,YL];decide+kernel
theorem mm_0:N2 (E mmm mmd 256) 0=wG:=by rw[VE];decide+kernel
theorem mm_1:N2 (E mmm mmd 256) 1=vI:=by rw[VE];decide+kernel
end Xm
section
attribute [local simp] J1.bk J2.bk bH fh ff fY
attribute [local simp] iH
def Kx(x:Nat):Pt Zp:=E1.times (some G1p) x
theorem A8(x:Nat):E1.onP (Kx x):=E1.times_on il x
theorem Kk(x:Nat):E1.times (Kx x) ORD=none:=E1.times_ord il kB x
theorem GY{x:Nat}(h0:0<x)(h1:x<ORD): ¬Kx x=none:=λe=>by
 have k:=E1.times_inj (Q:=some G1p) u3 (λ_=>hrO) kB (λe=>by cases e) (m:=x) (n:=0) h1 om e
 omega
theorem P1{Q:Pt W2}(hQ:E2w.onP Q)(hq:E2w.times Q ORD=none)(hn: ¬Q=none){m n:Nat}(hm:m<ORD)(hn':n<ORD)(h: ¬m=n): ¬E2w.times Q m=E2w.times Q n:=λe=>h (E2w.times_inj hQ (λ_=>hrO) hq hn hm hn' e)
theorem Zk{p:Nat->J1.GP}{f:Nat->Nat}: ∀{n:Nat},(∀i,i<n->(p i).P=Kx (f i))->(J1.gSm p n).P=Kx ((List.range n).map f).sum
 |0,_=>rfl
 |n+1,h=>by
  rw[List.range_succ,List.map_append,List.sum_append_nat];show E1.ad (J1.gSm p n).P (p n).P=_;rw[Zk λi hi=>h i om,h n om,Kx,Kx,<-E1.times_add il];simp[Kx]
theorem DK{x:Nat}(h: ¬Kx x=none):PUR 20 [.agg ((EN1 (Kx x)).map U8).toArray] (.tuple #[J1.PtV (cA1 (Kx x) (sF (wd (A8 x) (Kk x)))),I 0]):=Fh _ (ff _) _ h (wd (A8 x) (Kk x))
theorem Rz: ¬Xm.FBad Xm.mmm SUs 2:=by
 rintro (h|h|h|h)<;>revert h<;>decide
theorem Zt: ∃p:J2.GP,Ms [109#8] p 0/\¬p.P=none:=by
 obtain ⟨A,B,hs⟩:=Pi Xm.mmm SUs;obtain ⟨p,hp,hc⟩:=phs.ok _ _ _ _ Rz hs;refine ⟨p,⟨hc,in_r (Pl hs) hp⟩, ?_⟩;obtain ⟨⟨x,r,h0,rfl⟩,x',r',h1,rfl⟩:=hs;rw[show U2n Xm.mmm SUs 0=wG from Xm.mm_0]at h0 hp;rw[show U2n Xm.mmm SUs 1=vI from Xm.mm_1]at h1 hp;obtain ⟨y,hy⟩:=WS h0 h1;rw[hp,hy];exact λe=>by cases e
def k2(A B:L8):Nat->L8
 |0=>A
 |_=>B
theorem k2_0(A B:L8):k2 A B 0=A:=rfl
theorem k2_1(A B:L8):k2 A B 1=B:=rfl
theorem w6{A B:L8}{s:Nat}(ha:A.length=s)(hb:B.length=s): ∀i,(k2 A B i).length=s
 |0=>ha
 |_+1=>hb
theorem Nf{w:World}{b s n:Nat}{K:Nat->L8}(h:w.rangeAt b 0 ((RW s K n).map U8))(hl: ∀i,(K i).length=s):KsAt w b s n K:=λi hi=>jb h hi (hl i)
theorem KsAt.less{w:World}{b s n m:Nat}{K:Nat->L8}(h:KsAt w b s n K)(hm:m<=n):KsAt w b s m K:=λi hi=>h i om
theorem G7(a b e:Zr)(A B E Z S:L8)(lA:A.length=48)(lB:B.length=48)(lS:S.length=96)(hA:PUR 28 [U64 3#64] (RV a))(hB:PUR 28 [U64 5#64] (RV b))(hE:PUR 28 [U64 8#64] (RV e))(hpA:PUR 13 [RV a] (.agg ((A).map U8).toArray))(hpB:PUR 13 [RV b] (.agg ((B).map U8).toArray))(hpE:PUR 13 [RV e] (.agg ((E).map U8).toArray))(hpZ:PUR 13 [aI (List.replicate 6 (0#64))] (.agg ((Z).map U8).toArray))(hS: ∀(bm:Nat) (w':World),Gt w'->BytesAt w' (spt bm) [109#8]->CLS 14 [RV (a+b),.slice (spt bm) 1 1].toArray w' (λr w''=>r=.returned (.tuple #[.agg ((S).map U8).toArray,I 0])/\Grow w' w''))(hF: ∀(d:Nat) (bm:Nat) (w':World),Gt w'->KsAt w' d 48 2 (k2 A B)->BytesAt w' (spt bm) [109#8]->CLS 37 [.slice (spt d) 2 2,.slice (spt bm) 1 1,.agg ((S).map U8).toArray].toArray w' (λr w''=>r=.returned (I 0)/\Grow w' w''))(hF': ∀(d:Nat) (bm:Nat) (w':World),Gt w'->KsAt w' d 48 2 (k2 A B)->BytesAt w' (spt bm) [109#8]->CLS 37 [.slice (spt d) 1 2,.slice (spt bm) 1 1,.agg ((S).map U8).toArray].toArray w' (λr w''=>r=.returned (I 162)/\Grow w' w''))(hV: ∀(bm:Nat) (w':World),Gt w'->BytesAt w' (spt bm) [109#8]->CLS 29 [.agg ((E).map U8).toArray,.slice (spt bm) 1 1,.agg ((S).map U8).toArray].toArray w' (λr w''=>r=.returned (I 0)/\Grow w' w''))(hK:PUR 20 [.agg ((Z).map U8).toArray] (.tuple #[J1.PtV J1.dX,I 160]))(hN: ∀w',Gt w'->CLS 33 [.slice none 0 0].toArray w' (λr w''=>r=.returned (.tuple #[.agg ((List.replicate 48 (0#8)).map U8).toArray,I 161])/\Grow w' w'')):PUR 11 [] (.bool true):=by
 intro w hw;refine Hf func11 O hw<|λhGF=>ae (E:=EE [1000022])<|Asg O<|aa<|ae (E:=EE [1000022])<|Ca O (hA)<|Ca O (hB)<|Al 1 hGF zv27<|λb1=>Al 2 hGF zv27<|λb2=>Sa 1 hGF O O O nU<|Sa 2 hGF O O O nU<|aa<|ae (E:=EE [1000022])<|iX 16 [109#8] hGF O O O dc dc underlying22 sizeOf5 zeroValue5 O O<|λb16=>nC 16 O hGF O O underlying22 underlying5 O O<|Asg O<|aa<|ae (E:=EE [1000022])<|La 1 O O nU<|La 2 O O nU<|Ca O (Dc a b)<|Mv O<|Cc O ent14 (λw' hC hG=>hS b16 w' hG (BytesAt.range (aX (n:=16) O w' hC)))<|Mv O<|Ext O O<|Ext O O<|Al 4 hGF zv33<|λb4=>aA 4 hGF O O O sizeOf33 (by simp[*]) sm (bL _) O<|Asg O<|aa<|Xd [1000022]<|La 1 O O nU<|Ca O (hpA)<|La 2 O O nU<|Ca O (hpB)<|rx (s:=48) 30 (k2 A B) (List.replicate 48 (0#8)) hGF O O O (λi _=>w6 lA lB i) dc dc underlying69 sizeOf30 sm zv30 O O<|λb30=>Asg O<|aa<|ae (E:=EE [1000022])<|Mv O<|?_
 refine Mv O<|bO 4 O O isAgg33 sizeOf33 (by simp[*]) O O<|Cc O ent37 (λw' hC hG=>hF b30 b16 w' hG (Nf (aX (n:=30) O w' hC) (w6 lA lB)) (BytesAt.range (aX (n:=16) O w' hC)))<|Asg O<|aa<|Xd [1000022]<|Mv O<|mF (l:=0) (h':=1) O underlying69 sizeOf30 O O om O O<|Mv O<|bO 4 O O isAgg33 sizeOf33 (by simp[*]) O O<|Cc O ent37 (λw' hC hG=>hF' b30 b16 w' hG (Nf (aX (n:=30) O w' hC) (w6 lA lB)) (BytesAt.range (aX (n:=16) O w' hC)))<|Asg O<|aa<|Xd [1000022]<|Ca O (hE)<|Ca O (hpE)<|Mv O<|bO 4 O O isAgg33 sizeOf33 (by simp[*]) O O<|Cc O ent29 (λw' hC hG=>hV b16 w' hG (BytesAt.range (aX (n:=16) O w' hC)))<|Asg O<|aa<|ae (E:=EE [1000022])<|eJ zv27 underlying27 (mf sizeOf25) O O<|Ca O (hpZ)<|Ca O (hK)<|Mv O<|Ext O O<|Ext O O<|Al 10 hGF J1.zv54<|λb10=>Sa 10 hGF O O O bV<|Asg O<|aa<|ae (E:=EE [1000022])<|Cc O ent33 (λw' hC hG=>hN w' hG)<|Mv O<|Ext O O<|Ext O O<|Al 12 hGF zv30<|λb12=>aA 12 hGF O O O sizeOf30 (by simp[*]) sm (bL _) O<|Asg O<|?_
 refine aa<|ae (E:=EE [1000022])<|Mv O<|Mv O<|Bnr (v:=I 0) O O (λ_=>az _ _ _ oi)<|Mv O<|Bnr (v:=I 0) O O (λ_=>az _ _ _ oi)<|Bnb true O O (λ_=>cq _ _ _) (rfl)<|Mv O<|Mv O<|Bnb true O O (λ_=>cq _ _ _) (rfl)<|Pk O O O<|Mv O<|Mv O<|Bnb true O O (λ_=>cq _ _ _) (rfl)<|Pk O O O<|Mv O<|Mv O<|Bnb true O O (λ_=>cq _ _ _) (rfl)<|Pk O O O<|Asg O<|aa<|ak<|Rr<|?_;exact aO O O (λw hw=>⟨rfl,ac hw⟩)
theorem GR(n:Nat)(h0:0<n)(hn:n<=512)(K:Nat->L8)(f:Nat->Nat)(hK: ∀i,i<n->K i=EN1 (Kx (f i))/\¬Kx (f i)=none): ∃P:J1.GP,P.P=Kx ((List.range n).map f).sum/\∀(b cap:Nat) (w:World),Gt w->KsAt w b 48 n K->CLS 70 [.slice (spt b) n cap,.func (.func 20) #[] #[]].toArray w (λr w'=>r=.returned (.tuple #[J1.PtV P,I 0])/\Grow w w'):=by
 let p:Nat->J1.GP:=λi=>cA1 (Kx (f i)) (sF (wd (A8 _) (Kk _)))
 refine ⟨J1.gSm p n,Zk λi _=>rfl,λb cap w hw hk=> ?_⟩;have k:=J1.P0 n h0 hn K p (λ_=>0) (λi hi=>⟨by rw[(hK i hi).1];exact ff _,by rw[(hK i hi).1];exact DK (hK i hi).2⟩) n (Nat.le_refl _) (λ_ _=>rfl) (λh=>absurd h (Nat.lt_irrefl _)) b cap w hw hk
 rw[if_pos O,if_pos O]at k;exact k
theorem wU(n:Nat)(h0:0<n)(hn:n<=512)(K:Nat->L8)(f:Nat->Nat)(hK: ∀i,i<n->K i=EN1 (Kx (f i))/\¬Kx (f i)=none)(msg:L8)(H:J2.GP)(hM:Ms msg H 0)(hl:msg.length<=65600)(S:Pt W2)(oS:E2w.onP S)(rS:E2w.times S ORD=none)(e:Int)(he:(S=E2w.times H.P ((List.range n).map f).sum/\e=0)\/(¬S=E2w.times H.P ((List.range n).map f).sum/\e=162))(b c0:Nat)(a:Option Addr)(cap:Nat)(hc:msg.length<=cap)(w:World)(hw:Gt w)(hk:KsAt w b 48 n K)(hb:BytesAt w a msg):CLS 37 [.slice (spt b) n c0,.slice a msg.length cap,.agg ((EN2 S).map U8).toArray].toArray w (λr w'=>r=.returned (I e)/\Grow w w'):=by
 obtain ⟨P,hP,hs⟩:=GR n h0 hn K f hK;exact Y9 w P (spt b) n c0 (λw' hG hg=>hs b c0 w' hG (hk.up hg)) a msg.length cap (EN2 S) (fY _) e (λw' hG hg=>IB P _ hP (EN2 S) (fY _) S (M9 oS rS) rS msg H hM a cap hl hc e he w' hG (hb.grow hg)) hw
theorem JQ(x:Nat)(hx: ¬Kx x=none)(msg:L8)(H:J2.GP)(hM:Ms msg H 0)(hl:msg.length<=65600)(S:Pt W2)(oS:E2w.onP S)(rS:E2w.times S ORD=none)(e:Int)(he:(S=E2w.times H.P x/\e=0)\/(¬S=E2w.times H.P x/\e=162))(a:Option Addr)(cap:Nat)(hc:msg.length<=cap)(w:World)(hw:Gt w)(hb:BytesAt w a msg):CLS 29 [.agg ((EN1 (Kx x)).map U8).toArray,.slice a msg.length cap,.agg ((EN2 S).map U8).toArray].toArray w (λr w'=>r=.returned (I e)/\Grow w w'):=
 WN w (cA1 (Kx x) (sF (wd (A8 x) (Kk x)))) (EN1 (Kx x)) (ff _) (DK hx) a msg.length cap (EN2 S) (fY _) e (λw' hG hg=>IB _ x O (EN2 S) (fY _) S (M9 oS rS) rS msg H hM a cap hl hc e he w' hG (hb.grow hg)) hw
theorem Cu(w:World)(hw:Gt w):CLS 33 [.slice none 0 0].toArray w (λr w'=>r=.returned (.tuple #[.agg ((List.replicate 48 (0#8)).map U8).toArray,I 161])/\Grow w w'):=FI w J1.dX 161 dc none 0 0 (λw' hG _=>J1.HR 0 O _ none 0 w' hG) hw
theorem JN:PUR 20 [.agg ((EN1 none).map U8).toArray] (.tuple #[J1.PtV J1.dX,I 160]):=A1 _ (ff _) none O (wd (P:=none) True.intro (E1.times_none ORD))
def fz:Nat->Nat
 |0=>3
 |_=>5
theorem tL:PUR 11 [] (.bool true):=by
 obtain ⟨H,hM,hH⟩:=Zt;have e8:(zr (3#64).toNat+zr (5#64).toNat:Zr).val=8:=by decide+kernel
 have h3:(zr (3#64).toNat).val=3:=by decide+kernel
 have h5:(zr (5#64).toNat).val=5:=by decide+kernel
 have h8:(zr (8#64).toNat).val=8:=by decide+kernel
 have lt: ∀{k:Nat},k<100->k<ORD:=λh=>Nat.lt_trans h (by decide+kernel)
 have pb: ∀(x:Zr) (k:Nat),x.val=k->PUR 13 [RV x] (.agg ((EN1 (Kx k)).map U8).toArray):=λx k h=>by subst h;exact W5 x
 have hK: ∀i,i<2->k2 (EN1 (Kx 3)) (EN1 (Kx 5)) i=EN1 (Kx (fz i))/\¬Kx (fz i)=none:=λi hi=>by
  match i,hi with
  |0,_=>rw[show fz 0=3 from O];exact ⟨k2_0 _ _,GY dc (lt dc)⟩
  |1,_=>rw[show fz 1=5 from O];exact ⟨k2_1 _ _,GY dc (lt dc)⟩
 have oS:=E2w.times_on H.on 8;have rS:=E2w.times_ord H.on hM.r 8;refine G7 _ _ _ (EN1 (Kx 3)) (EN1 (Kx 5)) (EN1 (Kx 8)) (EN1 none) (EN2 (E2w.times H.P 8)) (ff _) (ff _) (fY _) (qX 3#64) (qX 5#64) (qX 8#64) (pb _ 3 h3) (pb _ 5 h5) (pb _ 8 h8) ?_ ?_ ?_ ?_ ?_ JN Cu
 ·have k:=W5 0
  rw[RV,nr_0]at k;exact k
 ·intro bm w' hG hb
  have k:=H8 (zr (3#64).toNat+zr (5#64).toNat) [109#8] H hM (spt bm) 1 w' dc dc hG hb;rw[show (J2.r7 H (zr (3#64).toNat+zr (5#64).toNat)).P=E2w.times H.P 8 from by rw[<-e8];rfl]at k
  exact k
 ·intro d bm w' hG hk hb
  exact wU 2 dc dc _ fz hK [109#8] H hM dc _ oS rS 0 (.inl ⟨rfl,rfl⟩) d 2 _ 1 dc w' hG hk hb
 ·intro d bm w' hG hk hb
  exact wU 1 dc dc _ fz (λi hi=>hK i om) [109#8] H hM dc _ oS rS 162 (.inr ⟨P1 H.on hM.r hH (m:=8) (n:=3) (lt dc) (lt dc) dc,rfl⟩) d 2 _ 1 dc w' hG (hk.less dc) hb
 ·intro bm w' hG hb
  exact JQ 8 (GY dc (lt dc)) [109#8] H hM dc _ oS rS 0 (.inl ⟨rfl,rfl⟩) _ 1 dc w' hG hb
end
section
attribute [local simp] J1.bk J2.bk bH fh ff fY
attribute [local simp] iH
theorem made(k:Nat):(madeCells (Value.int .u8 0).cells (k*1)).toList=(List.replicate k 0#8).map U8:=by
 refine List.ext_getElem? λi=> ?_;rw[Nat.mul_one,madeCells,Array.toList_map,List.getElem?_map,List.getElem?_map,Array.toList_range];by_cases h:i<k
 ·rw[List.getElem?_range h,List.getElem?_replicate,if_pos h]
  show some ((Value.int .u8 0).cells[i % 1]!)=_;rw[Nat.mod_one];rfl
 ·rw[List.getElem?_eq_none (by rw[List.length_range];omega),List.getElem?_replicate,if_neg h];rfl
end
section
attribute [local simp] J1.bk J2.bk bH fh ff fY
attribute [local simp] iH
attribute [local simp] List.length_take
def KB(k:Nat)(bs:L8):L8:=bs.take k++List.replicate (k-bs.length) 0#8
theorem rI(k:Nat)(bs:L8):(KB k bs).length=k:=by
 rw[KB,List.length_append,List.length_take,List.length_replicate];omega
theorem xe(k:Nat)(bs:L8):lay 0 ((bs.take k).map U8) ((List.replicate k 0#8).map U8)=(KB k bs).map U8:=by
 refine List.ext_getElem? λm=> ?_;rw[gB _ _ _ _ (by simp;omega)]
 simp only[KB,List.map_append,List.getElem?_append,List.length_map,List.length_take,Nat.zero_add,Nat.zero_le,true_and,Nat.sub_zero];by_cases h:m<min k bs.length
 ·rw[if_pos h,if_pos h]
 ·rw[if_neg h,if_neg h,List.getElem?_map,List.getElem?_map,List.getElem?_replicate,List.getElem?_replicate]
  by_cases h2:m<k
  ·rw[if_pos h2,if_pos om]
  ·rw[if_neg h2,if_neg om]
attribute [local simp] rI
theorem BytesAt.pre{w:World}{a:Option Addr}{bs:L8}(h:BytesAt w a bs)(k:Nat):BytesAt w a (bs.take k):=λj v hv=>by
 rw[List.getElem?_map,List.getElem?_take]at hv;split at hv
 ·exact h j v (by rw[List.getElem?_map];exact hv)
 ·cases hv
theorem De(a:Option Addr)(cap:Nat)(bs:L8)(P:Pt Zp)(c:Int)(h0: ¬c=0)(hD:D1 (KB 48 bs) c P)(x:W6)(hR: ∀(bm:Nat) (w':World),Gt w'->BytesAt w' (spt bm) (KB 48 bs)->CLS 30 [.slice (spt bm) 48 48,.bool false].toArray w' (λr w''=>r=.returned (.tuple #[EV6 x,I c])/\Grow w' w''))(w:World)(hw:Gt w)(hb:BytesAt w a bs):CLS 5 [.slice a bs.length cap].toArray w (λr w'=>r=.returned (.bool true)/\Grow w w'):=by
 refine Hf func5 O hw<|λhGF=>Xp<|Asg O<|aa<|ah<|Xp<|Ca O tL<|aU O (λ_=>aF _) O O<|aa<|aw O<|aq<|Xp<|Al 3 hGF zv30<|λb3=>aa<|Xp<|bB (l:=0) (h':=48) O underlying30 sizeOf5 O O dc dc O O<|Mv O<|dY 3 (o:=0) (cs:=bs.take 48) hGF O O O underlying22 sz5 (by rw[List.length_take];exact Nat.min_comm _ _) (λw' h=>(hb.grow (ac h)).pre 48) (by simp;omega) O O<|?_
 rw[xe];refine aa<|Xp<|bO 3 O O isAgg30 sizeOf30 (by simp[*]) O O<|Ca O (Kp (KB 48 bs) (rI _ _) c h0 P hD)<|Mv O<|Ext O O<|Ext O O<|Al 4 hGF J1.zv54<|λb4=>Sa 4 hGF O O O bV<|Asg O<|aa<|Xp<|bB (l:=0) (h':=48) O underlying30 sizeOf5 O O dc dc O O<|Cc O ent30 (λw' hC hG=>hR b3 w' hG (BytesAt.range (aX (n:=3) O w' hC)))<|Mv O<|Ext O O<|Ext O O<|Al 6 hGF zv43<|λb6=>Sa 6 hGF O O O dz<|Asg O<|aa<|ah<|Xp<|Mv O<|Bnb false O O (λ_=>cq _ _ _) (beq_eq_false_iff_ne.2 h0)<|Mv O<|Sk<|Sk<|Pk O O O<|aa<|aw O<|aq<|Xp<|Mv O<|Mv O<|Bnb true O O (λ_=>cq _ _ _) sm<|Mv O<|Mv O<|Bnb false O O (λ_=>cq _ _ _) (beq_eq_false_iff_ne.2 h0)<|La 4 O O bV<|?_
 refine Cbl true O ent26 (J1.lz _) (decide_eq_true O)<|aU O (λ_=>aF _) O O<|Bnb true O O (λw=>gZ 4 underlying4 _ _ w) (rfl)<|Pk O O O<|Asg O<|aa<|ak<|Rr<|?_;exact aO O O (λw hw=>⟨rfl,ac hw⟩)
theorem Dd(a:Option Addr)(cap:Nat)(bs:L8)(P:Pt Zp)(h0:P=none)(hD:D1 (KB 48 bs) 0 P)(x:W6)(hz:x.2.2=ze2)(hR: ∀(bm:Nat) (w':World),Gt w'->BytesAt w' (spt bm) (KB 48 bs)->CLS 30 [.slice (spt bm) 48 48,.bool false].toArray w' (λr w''=>r=.returned (.tuple #[EV6 x,I 0])/\Grow w' w''))(w:World)(hw:Gt w)(hb:BytesAt w a bs):CLS 5 [.slice a bs.length cap].toArray w (λr w'=>r=.returned (.bool true)/\Grow w w'):=by
 refine Hf func5 O hw<|λhGF=>Xp<|Asg O<|aa<|ah<|Xp<|Ca O tL<|aU O (λ_=>aF _) O O<|aa<|aw O<|aq<|Xp<|Al 3 hGF zv30<|λb3=>aa<|Xp<|bB (l:=0) (h':=48) O underlying30 sizeOf5 O O dc dc O O<|Mv O<|dY 3 (o:=0) (cs:=bs.take 48) hGF O O O underlying22 sz5 (by rw[List.length_take];exact Nat.min_comm _ _) (λw' h=>(hb.grow (ac h)).pre 48) (by simp;omega) O O<|?_
 rw[xe];refine aa<|Xp<|bO 3 O O isAgg30 sizeOf30 (by simp[*]) O O<|Ca O (A1 (KB 48 bs) (rI _ _) P h0 hD)<|Mv O<|Ext O O<|Ext O O<|Al 4 hGF J1.zv54<|λb4=>Sa 4 hGF O O O bV<|Asg O<|aa<|Xp<|bB (l:=0) (h':=48) O underlying30 sizeOf5 O O dc dc O O<|Cc O ent30 (λw' hC hG=>hR b3 w' hG (BytesAt.range (aX (n:=3) O w' hC)))<|Mv O<|Ext O O<|Ext O O<|Al 6 hGF zv43<|λb6=>Sa 6 hGF O O O dz<|Asg O<|aa<|ah<|Xp<|Mv O<|Bnb true O O (λ_=>cq _ _ _) (rfl)<|Mv O<|La 6 O O dz<|Cbl true O ent31 (uh x) (decide_eq_true hz)<|Pk O O O<|aa<|aL O<|Xq<|Asg O<|aa<|Xp<|Mv O<|Mv O<|Bnb true O O (λ_=>cq _ _ _) (rfl)<|Mv O<|Mv O<|?_
 refine Bnb false O O (λ_=>cq _ _ _) (rfl)<|La 4 O O bV<|Cbl true O ent26 (J1.lz _) (decide_eq_true O)<|aU O (λ_=>aF _) O O<|Bnb true O O (λw=>gZ 4 underlying4 _ _ w) (rfl)<|Pk O O O<|Asg O<|aa<|ak<|Rr<|?_;exact aO O O (λw hw=>⟨rfl,ac hw⟩)
theorem E2(a:Option Addr)(cap:Nat)(bs:L8)(P:Pt Zp)(h0: ¬P=none)(hD:D1 (KB 48 bs) 0 P)(x:W6)(hz: ¬x.2.2=ze2)(hR: ∀(bm:Nat) (w':World),Gt w'->BytesAt w' (spt bm) (KB 48 bs)->CLS 30 [.slice (spt bm) 48 48,.bool false].toArray w' (λr w''=>r=.returned (.tuple #[EV6 x,I 0])/\Grow w' w''))(w:World)(hw:Gt w)(hb:BytesAt w a bs):CLS 5 [.slice a bs.length cap].toArray w (λr w'=>r=.returned (.bool true)/\Grow w w'):=by
 refine Hf func5 O hw<|λhGF=>Xp<|Asg O<|aa<|ah<|Xp<|Ca O tL<|aU O (λ_=>aF _) O O<|aa<|aw O<|aq<|Xp<|Al 3 hGF zv30<|λb3=>aa<|Xp<|bB (l:=0) (h':=48) O underlying30 sizeOf5 O O dc dc O O<|Mv O<|dY 3 (o:=0) (cs:=bs.take 48) hGF O O O underlying22 sz5 (by rw[List.length_take];exact Nat.min_comm _ _) (λw' h=>(hb.grow (ac h)).pre 48) (by simp;omega) O O<|?_
 rw[xe];refine aa<|Xp<|bO 3 O O isAgg30 sizeOf30 (by simp[*]) O O<|Ca O (Fh (KB 48 bs) (rI _ _) P h0 hD)<|Mv O<|Ext O O<|Ext O O<|Al 4 hGF J1.zv54<|λb4=>Sa 4 hGF O O O bV<|Asg O<|aa<|Xp<|bB (l:=0) (h':=48) O underlying30 sizeOf5 O O dc dc O O<|Cc O ent30 (λw' hC hG=>hR b3 w' hG (BytesAt.range (aX (n:=3) O w' hC)))<|Mv O<|Ext O O<|Ext O O<|Al 6 hGF zv43<|λb6=>Sa 6 hGF O O O dz<|Asg O<|aa<|ah<|Xp<|Mv O<|Bnb true O O (λ_=>cq _ _ _) (rfl)<|Mv O<|La 6 O O dz<|Cbl false O ent31 (uh x) (decide_eq_false hz)<|Pk O O O<|aa<|aw O<|aq<|Xp<|Mv O<|Mv O<|Bnb true O O (λ_=>cq _ _ _) (rfl)<|Mv O<|Mv O<|Bnb true O O (λ_=>cq _ _ _) (rfl)<|La 4 O O bV<|?_
 refine Cbl false O ent26 (J1.lz _) (decide_eq_false h0)<|aU O (λ_=>aF _) O O<|Bnb true O O (λw=>gZ 4 underlying4 _ _ w) (rfl)<|Pk O O O<|Asg O<|aa<|ak<|Rr<|?_;exact aO O O (λw hw=>⟨rfl,ac hw⟩)
theorem YK(a:Option Addr)(cap:Nat)(bs:L8)(w:World)(hw:Gt w)(hb:BytesAt w a bs):CLS 5 [.slice a bs.length cap].toArray w (λr w'=>r=.returned (.bool true)/\Grow w w'):=by
 obtain ⟨c,P,hD⟩:=Wc (KB 48 bs);have hR: ∀(bm:Nat) (w':World),Gt w'->BytesAt w' (spt bm) (KB 48 bs)->CLS 30 [.slice (spt bm) 48 48,.bool false].toArray w' (λr w''=>r=.returned (.tuple #[EV6 (RJ P),I c])/\Grow w' w''):=λbm w' hG hb'=>by
  have k:=GQ (spt bm) 48 (KB 48 bs) c P hD w' hG hb';rw[RDC,rI]at k;exact k
 by_cases h0:c=0
 ·subst h0
  by_cases h1:P=none
  ·subst h1
   exact Dd a cap bs none O hD _ O hR w hw hb
  ·refine E2 a cap bs P h1 hD _ (λe=> ?_) hR w hw hb
   cases P with
   |none=>exact h1 O
   |some p=>exact yv e
 ·exact De a cap bs P c h0 hD _ hR w hw hb
end
end Go.Proofs.YtfgacclgjklgnaaGreatDoor
