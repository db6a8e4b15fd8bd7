/- L7 -/
import Derived.Test.YtjookodjbjabbaaGreatDoorL6
set_option maxRecDepth 100000
set_option maxHeartbeats 1000000
namespace Go.Proofs.YtjookodjbjabbaaGreatDoor
open Go.Proofs.Tryz
section
open Go.RowKit
attribute [local simp] a6 bj aH aB aP aZ aQ aI aM be bz a5 bv J1.bB J2.bB ce fk eG fg
attribute [local simp] fP
theorem Li{w w':World}{b o:Nat}{c:List Value}(h:w.rangeAt b o c)(hg:Grow w w'):w'.rangeAt b o c:=λj v hv=>(hg.cell (block_lt_of_cell (h j v hv))).trans (h j v hv)
theorem uz{n m x y:Nat}{c d:List Value}{s t:TypeId}(hx:x≠y): ∀n' m' b c1 t1 c2 t2,lkB [(n,x,c,s),(m,y,d,t)] n'=some (b,c1,t1)->lkB [(n,x,c,s),(m,y,d,t)] m'=some (b,c2,t2)->n'=m':=by
 intro n' m' b c1 t1 c2 t2 h1 h2;rcases aK h1 with ⟨e1,k1⟩|⟨_,h1⟩
 ·rcases aK h2 with ⟨e2,_⟩|⟨_,h2⟩
  ·exact e1.trans e2.symm
  ·rcases aK h2 with ⟨_,k2⟩|⟨_,h2⟩
   ·cases k1;cases k2;exact absurd O hx
   ·cases h2
 ·rcases aK h1 with ⟨e1,k1⟩|⟨_,h1⟩
  ·rcases aK h2 with ⟨_,k2⟩|⟨_,h2⟩
   ·cases k1;cases k2;exact absurd O hx
   ·rcases aK h2 with ⟨e2,_⟩|⟨_,h2⟩
    ·exact e1.trans e2.symm
    ·cases h2
  ·cases h1
def KsAt(w:World)(b s n:Nat)(K:Nat->L8):Prop:= ∀i,i<n->w.rangeAt b (0+s*i) ((K i).map U8)
theorem KsAt.up{w w':World}{b s n:Nat}{K:Nat->L8}(h:KsAt w b s n K)(hg:Grow w w'):KsAt w' b s n K:=λi hi=>Li (h i hi) hg
namespace J1
def gSm(p:Nat->GP):Nat->GP
 |0=>gInf
 |i+1=>F4 (gSm p i) (p i)
def PEs(p:Nat->GP)(e:Nat->Int)(n:Nat):List (List Value):=(List.range n).map λ(k:Nat)=>[PtV (p k),I (e k)]
theorem tM(p:Nat->GP)(e:Nat->Int)(n:Nat):(PEs p e n).length=n:=by rw[PEs,List.length_map,List.length_range]
theorem AG(p:Nat->GP)(e:Nat->Int){n k:Nat}(h:k<n):(PEs p e n)[k]? =some [PtV (p k),I (e k)]:=by
 rw[PEs,List.getElem?_map,List.getElem?_range h];rfl
theorem SM(p:Nat->GP)(e:Nat->Int){n k:Nat}{v:List Value}(h:(PEs p e n)[k]? =some v):k<n/\v=[PtV (p k),I (e k)]:=by
 have hk:k<n:=by
  rcases Nat.lt_or_ge k n with hk|hk
  ·exact hk
  ·rw[List.getElem?_eq_none (by rw[tM];exact hk)]at h;cases h
 exact ⟨hk,(Option.some.inj ((AG p e hk).symm.trans h)).symm⟩
structure RdK(b1 b2 b cap n:Nat)(K:Nat->L8)(w:World):Prop where
 l:w.cell? ⟨b1,0,none⟩=some (.slice (spt b) n cap)
 f:w.cell? ⟨b2,0,none⟩=some (.func (.func 14) #[] #[])
 k:KsAt w b 48 n K
def Vd(K:Nat->L8)(p:Nat->GP)(e:Nat->Int)(n:Nat):Prop:= ∀i,i<n->(K i).length=48/\PUR 14 [.agg ((K i).map U8).toArray] (.tuple #[PtV (p i),I (e i)])
theorem Pn(a:Option Addr)(l c f:Nat)(w:World)(hw:Gt w):CLS 109 [.slice a l c,.func (.func f) #[] #[]].toArray w (λe w'=> ∃b1 b2,e=.returned (.func (.func 160) #[] #[pnt b1,pnt b2])/\Grow w w'/\w.heap.size<=b1/\w.heap.size<=b2/\b1≠b2/\OwnB w' b1 [.slice a l c] 65/\OwnB w' b2 [.func (.func f) #[] #[]] 56):=by
 refine Hf func109 O hw<|λhGF=>Xp<|iF 2 hGF O O O<|λb2=>iF 3 hGF O O O<|λb3=>Asg O<|aa<|Xp<|gj O O O O<|Asg O<|aa<|am<|Rr<|?_;exact aF O O (λw hw=>⟨b2,b3,rfl,ac hw,(hw.own 2 b2 _ _ O).2.elim id False.elim,(hw.own 3 b3 _ _ O).2.elim id False.elim,λe=>(by subst e;exact absurd (hw.inj 2 3 _ _ _ _ _ O O) dc),(hw.own 2 b2 _ _ O).1,(hw.own 3 b3 _ _ O).1⟩)
theorem qV(b1 b2 b cap n:Nat)(hn:n<=1000)(K:Nat->L8)(p:Nat->GP)(e:Nat->Int)(hP:Vd K p e n):fF prog Gt 160 [pnt b1,pnt b2] (PEs p e n) (RdK b1 b2 b cap n K):=by
 intro l J Jx hJ hJx hRd hGx hY w hj;have okJ: ∀k,BOk Gt (Bi w (λY=>J Y k)):=λk=>⟨λ_ _ _ h=>(hRd _ _ _ h.rid).1,hJ k⟩;have okX: ∀k,BOk Gt (Bi w (λY=>Jx Y k)):=λk=>⟨λ_ _ _ h=>hGx _ _ _ h.rid,hJx k⟩;have c1: ∀k L w',Hp (Bi w (λY=>J Y k)) L w'->RdK b1 b2 b cap n K w':=λk L w' h=>(hRd _ _ _ h.rid).2;refine cv (G:=Gt) func160 O O (Hp (Bi w (λY=>J Y 0)) []) (cj (Bi w _) hj (hJ 0)) (az (okJ 0))<|Xp<|bO O isAgg65 (λw h=>(c1 _ _ w h).l) O O<|bf O (λ_=>aG underlying65 _ _ _ _) O O<|Mv O<|aa<|ai<|gz (ι:={i:Nat // i<=n}) (λy=>[(0,.func (.yield l) #[] #[]),(1,pnt b1),(2,pnt b2),(6,.slice (spt b) n cap),(7,I (n:Int)),(8,I (y.1:Int))]) (λy=>Bi w (λY=>J Y y.1)) (λy=>[]) (λy=>n-y.1) ⟨0,Nat.zero_le _⟩ (λ_=>okJ _) O trv trivial<|?_;rintro ⟨i,hi⟩;dsimp only;refine Xp<|Bnr O O (λ_=>aw _ _ _)<|aa<|ah<|?_;refine bD O (λhc=> ?_) (λhc=> ?_)
 ·have hi2:i<n:=by simp at hc;omega
  refine aq<|ah<|ai<|Xp<|iQ (s:=48) i O O underlying65 sizeOf30 om om O O<|?_;have hKi:=(hP i hi2).1;refine cZ (cs:=(K i).map U8) O isAgg30 sizeOf30 (by rw[List.length_map];exact hKi) (λw h=>(c1 _ _ w h).k i hi2) O O<|Al 5 (okJ _) zv30<|λb5=>aA 5 (okJ _) O O O sizeOf30 (by rw[List.length_map];exact hKi) sm (bZ _) O<|aa<|Xp<|Mv O<|bO O isAgg56 (λw h=>(c1 _ _ w h).f) O O<|bV 5 O O isAgg30 sizeOf30 (by rw[List.length_map];exact hKi) O O<|GK O O ent14 (hP i hi2).2 (okJ _) O O O<|Ext O O<|Ext O O<|?_
  refine du (hY.b (k:=i) (AG p e hi2) w) (okJ _) (okX _) O O O O O ?_ ?_
  ·refine bp O (λ_=>a8 _) O O<|aa<|aD O<|aq<|Xq<|Bnr O O (λ_=>au _ _ _ oi)<|Mv O<|aa<|?_
   repeat (refine aO ?_)
   exact aC<|⟨rfl,⟨i+1,om⟩,_,by show n-(i+1)<n-i;omega,rfl,trv,trivial⟩
  ·refine bp O (λ_=>a8 _) O O<|aa<|aT O<|am<|Rr<|?_
   repeat (first|refine dv ?_|refine cm ?_|refine dJ O ?_|refine bJ ?_|refine bK ?_)
   exact dp O (λw hw=>⟨⟨_,rfl⟩,.inr ⟨_,cb (hJx _) hw.rid⟩⟩)
 ·obtain rfl:i=n:=by simp at hc;omega
  refine aV ?_
  repeat (first|refine dv ?_|refine cm ?_|refine dJ O ?_|refine bJ ?_|refine bK ?_)
  refine cO O (λw hw=>⟨⟨_,rfl⟩,.inl ?_⟩);have:=cb (hJ _) hw.rid;rw[tM];exact this
theorem Cj:mP prog 54 "Add" 122:=λ_ _=>kr
theorem Sy(n:Nat)(h0:0<n)(hn:n<=512)(K:Nat->L8)(p:Nat->GP)(e:Nat->Int)(hP:Vd K p e n)(j:Nat)(hjn:j<=n)(he0: ∀i,i<j->e i=0)(heb:j<n->¬e j=0)(b cap:Nat)(w:World)(hw:Gt w)(hK:KsAt w b 48 n K):CLS 61 [.slice (spt b) n cap,.func (.func 14) #[] #[]].toArray w (λr w'=>r=.returned (.tuple #[PtV (if j=n then gSm p n else gInf),I (if j=n then 0 else e j)])/\Grow w w'):=by
 have hGF:BOk Gt (pl w):=gt_low.plain hw;refine cw (G:=Gt) func61 O O (Hp (pl w) []) (cj (pl w) trivial ao) (az hGF)<|ae (E:=EE [109])<|Al 4 hGF J1.zv54<|λb4=>Asg O<|aa<|le<|ae (E:=EE [109])<|Al 6 hGF J1.zv54<|λb6=>Al 7 hGF J1.zv54<|λb7=>aa<|ah<|ae (E:=EE [109])<|Mv O<|bf O (λ_=>aG underlying65 _ _ _ _) O O<|Bnb false O O (λ_=>dO _ _ _) (beq_eq_false_iff_ne.2 om)<|Mv O<|Mv O<|bf O (λ_=>aG underlying65 _ _ _ _) O O<|Bnb false O O (λ_=>ba _ _ _) (decide_eq_false om)<|Pk O O O<|aa<|aD O<|aq<|ae (E:=EE [109])<|hO 8 hGF zeroValue34 O O<|λb8=>dP 8 hGF O O O sizeOf34 O dc O<|aa<|ah<|mC<|ah<|ae (E:=EE [109])<|Mv O<|Mv O<|?_;refine dw O O ent109 O O (λw' hw'=>(Pn _ _ _ _ w' (hGF.g _ _ _ hw')).mono λe' w'' h=> ?_);obtain ⟨b1,b2,rfl,hg,h1,h2,h3,ho1,ho2⟩:=h;refine ⟨_,_,rfl,az hGF,hw'.news ao hg [(33,b1,[.slice (spt b) n cap],65),(34,b2,[.func (.func 14) #[] #[]],56)] ?_ (uz h3), ?_⟩
 ·intro n' b' c' t' hl
  rcases aK hl with ⟨_,e⟩|⟨_,hl⟩
  ·cases e;exact ⟨h1,ho1⟩
  rcases aK hl with ⟨_,e⟩|⟨_,hl⟩
  ·cases e;exact ⟨h2,ho2⟩
  ·cases hl
 clear hw' hg h1 h2 h3 ho1 ho2;refine aa<|ai<|?_;refine vR (λk=>k<=j) (λ_=>pl w) (λ_ _=>pl w) (λ_=>hGF) (λ_ _=>hGF) (λ_=>rfl) (λ_ _=>rfl) O O ent160 (qV b1 b2 b cap n om K p e hP) (λv hv=>by obtain ⟨k,hk,rfl⟩:=List.mem_map.1 hv;rfl) O (λk=>[(4,b4,(GL (gInf)).map U64,54),(6,b6,(GL (gSm p k)).map U64,54),(7,b7,(GL (gInf)).map U64,54),(8,b8,[I (0)],34),(33,b1,[.slice (spt b) n cap],65),(34,b2,[.func (.func 14) #[] #[]],56)]) (λcd _ L'=>cd=.exit 0/\j<n/\kc L' ([(4,b4,(GL (gInf)).map U64,54),(6,b6,(GL (gInf)).map U64,54),(7,b7,(GL (gInf)).map U64,54),(8,b8,[I (e j)],34),(33,b1,[.slice (spt b) n cap],65),(34,b2,[.func (.func 14) #[] #[]],56)])) (Nat.zero_le _) trv (λk _ w' h=>⟨cy (n:=33) O O w' h,cy (n:=34) O O w' h,hK.up (h.below (λ_ h=>h))⟩) ?_ ?_ ?_ ?_
 ·intro k v hx hQ R hR
  obtain ⟨hk,rfl⟩:=SM p e hx;rcases Nat.lt_or_ge k j with hkj|hkj
  ·have he:=he0 k hkj
   refine ae (E:=EE [109])<|dN 9 (hR (pl w) O hGF).1 J1.zv54 O O<|λb9=>aA 9 (hR (pl w) O hGF).1 O O O sizeOf54 sm sm (bc _) O<|aa<|bG (E:=EE [109])<|Asg O<|aa<|?_;refine ⟨rfl,_,rfl, ?_⟩;refine ai<|ae (E:=EE [109])<|Mv O<|aa<|ai<|ae (E:=EE [109])<|Bnb true O O (λ_=>dO _ _ _) ((by rw[he];rfl))<|Asg O<|aa<|aT O<|bG (E:=EE [109])<|La 6 O O ck<|iu O underlying54 O O<|La 9 O O ck<|uH O O Cj O ent122 (IQ _ _) O O<|aA 6 (hR (pl w) O hGF).2.1 O O O sizeOf54 sm sm (bc _) O<|aa<|?_
   repeat (refine aO ?_)
   exact ⟨_,rfl,P1 (Q:=λk=>k<=j) om ⟨rfl,rfl,rfl,rfl,rfl,rfl,trivial⟩⟩
  ·obtain rfl:k=j:=Nat.le_antisymm hQ hkj
   have he:=heb hk;refine ae (E:=EE [109])<|dN 9 (hR (pl w) O hGF).1 J1.zv54 O O<|λb9=>aA 9 (hR (pl w) O hGF).1 O O O sizeOf54 sm sm (bc _) O<|aa<|bG (E:=EE [109])<|Asg O<|aa<|?_;refine ⟨rfl,_,rfl, ?_⟩;refine ai<|ae (E:=EE [109])<|Mv O<|aa<|ai<|ae (E:=EE [109])<|Bnb false O O (λ_=>dO _ _ _) (beq_eq_false_iff_ne.2 he)<|Asg O<|aa<|aD O<|ae (E:=EE [109])<|La 7 O O ck<|Mv O<|aA 6 (hR (pl w) O hGF).2.1 O O O sizeOf54 sm sm (bc _) O<|dP 8 (hR (pl w) O hGF).2.1 O O O sizeOf34 O dc O<|aa<|aV<|?_
   repeat (first|refine cm ?_|refine dJ O ?_)
   exact ⟨_,rfl,rfl,hk,trv⟩
 ·intro hQ D hD
  rw[tM]at*;obtain rfl:j=n:=Nat.le_antisymm hjn hQ;refine gi (E:=EE [109]) (λX=>X=Hp (B2 (pl w) D) [(8,b8,[I (0)],34)]) (mkB [4]) (rkB [35]) [0,1,2,3] cT O kr kr kr<|dC O O<|La 6 O O ck<|aa<|kp (X:=Hp (B2 (pl w) D) [(8,b8,[I (0)],34)]) O (cL hD.r trv) (λ_=>rfl)<|cR 8 O O O isAgg34 O O<|aa<|fD O<|Sa 4 hD O O O ck<|aa<|?_;refine ⟨λ_ X hX _=>by subst hX;exact cL hD.r trv, ?_⟩
  refine dC O O<|Asg O<|aa<|fJ<|am<|?_
  repeat (first|refine bJ ?_|refine bK ?_|refine eZ ?_)
  exact dR (.inl O) ao (a7 4 O O O O isAgg54 sizeOf54 sm (λw hw=>⟨by rw[if_pos O,if_pos O],ac hw⟩))
 ·intro D hb
  repeat (first|refine aO ?_|refine aC ?_|refine Hs ?_)
  exact pu hb
 ·rintro D cd k L' hD ⟨rfl,hlt,hsub⟩
  refine U9 (cL hD.r hsub) (az hD)<|gi (E:=EE [109]) (λX=>X=Hp (B2 (pl w) D) [(8,b8,[I (e j)],34)]) (mkB [4]) (rkB [35]) [0,1,2,3] cT O kr kr kr<|dC O O<|La 6 O O ck<|aa<|kp (X:=Hp (B2 (pl w) D) [(8,b8,[I (e j)],34)]) O (cL hD.r trv) (λ_=>rfl)<|cR 8 O O O isAgg34 O O<|aa<|fD O<|Sa 4 hD O O O ck<|aa<|?_;refine ⟨λ_ X hX _=>by subst hX;exact cL hD.r trv, ?_⟩
  refine dC O O<|Asg O<|aa<|fJ<|am<|?_
  repeat (first|refine bJ ?_|refine bK ?_|refine eZ ?_)
  exact dR (.inl O) ao (a7 4 O O O O isAgg54 sizeOf54 sm (λw hw=>⟨by rw[if_neg om,if_neg om],ac hw⟩))
theorem Gh(n:Nat)(hn:n=0)(v:Value)(a:Option Addr)(cap:Nat)(w:World)(hw:Gt w):CLS 61 [.slice a n cap,v].toArray w (λr w'=>r=.returned (.tuple #[PtV gInf,I 161])/\Grow w w'):=by
 refine Hf func61 O hw<|λhGF=>ae (E:=EE [109])<|Al 4 hGF J1.zv54<|λb4=>Asg O<|aa<|le<|ae (E:=EE [109])<|Al 6 hGF J1.zv54<|λb6=>Al 7 hGF J1.zv54<|λb7=>aa<|ah<|ae (E:=EE [109])<|Mv O<|bf O (λ_=>aG underlying65 _ _ _ _) O O<|Bnb true O O (λ_=>dO _ _ _) (beq_iff_eq.2 om)<|Mv O<|Sk<|Sk<|Sk<|Pk O O O<|aa<|aT O<|ae (E:=EE [109])<|La 7 O O ck<|Sa 4 hGF O O O ck<|Asg O<|aa<|am<|?_
 repeat (first|refine bJ ?_|refine bK ?_|refine eZ ?_)
 exact a7 4 O O O O isAgg54 sizeOf54 sm (λw hw=>⟨rfl,ac hw⟩)
end J1
end
section
open Go.RowKit
attribute [local simp] a6 bj aH aB aP aZ aQ aI aM be bz a5 bv J1.bB J2.bB ce fk eG fg
attribute [local simp] fP
attribute [local simp] Q6.gc
open Q6 in
def v2p(a b:J1.GP×J2.GP):Nat->J1.GP×J2.GP
 |0=>a
 |_=>b
theorem W9(K:J1.GP)(bs:L8)(hn:bs.length=96)(S:Pt W2)(hD:D2 bs 0 S)(msg:L8)(H:J2.GP)(hM:Ms msg H 0)(a:Option Addr)(cap:Nat)(hl:msg.length<=65600)(hc:msg.length<=cap)(hK: ∀(d:Nat) (w':World),Gt w'->w'.rangeAt d 0 ((RW 54 (λi=>Q6.PRv (v2p (K,H) (J1.ku J1.y7,cA2 S (n4 hD)) i)) 2).map U64)->CLS 111 [.slice (spt d) 2 2].toArray w' (λy w''=>y=.returned (.bool true)/\Grow w' w''))(w:World)(hw:Gt w)(hb:BytesAt w a msg):CLS 62 [J1.PtV K,.slice a msg.length cap,.agg ((bs).map U8).toArray].toArray w (λr w'=>r=.returned (I 0)/\Grow w w'):=by
 refine Hf func62 O hw<|λhGF=>Xp<|Bx 3 hGF O<|λb3=>Bx 5 hGF O<|λb5=>Asg O<|aa<|Xp<|bV 5 O O isAgg33 sizeOf33 (by simp[*]) O O<|Ca O (Uc bs hn _ S hD)<|Mv O<|Ext O O<|Ext O O<|Al 7 hGF J2.zv80<|λb7=>Sa 7 hGF O O O cn<|Asg O<|aa<|ah<|Xp<|Mv O<|Bnb false O O (λ_=>bC _ _ _) (rfl)<|aa<|aD O<|aq<|Xp<|Mv O<|Cc O ent34 (λw' hC hG=>OE msg H _ hM a cap w' hl hc hG (hb.grow (ac hC)))<|Mv O<|Ext O O<|Ext O O<|Al 9 hGF J2.zv80<|λb9=>Sa 9 hGF O O O cn<|Asg O<|aa<|ah<|Xp<|Mv O<|Bnb false O O (λ_=>bC _ _ _) (rfl)<|aa<|aD O<|aq<|?_
 refine ah<|Xd []<|La 3 O O ck<|La 9 O O cn<|co Q6.tX O O sm sm O O<|Ca O (J1.HS)<|Ca O (J1.u9 _)<|La 7 O O cn<|co Q6.tX O O sm sm O O<|eV (s:=54) 33 (λi=>Q6.PRv (v2p (K,H) (J1.ku J1.y7,cA2 S (n4 hD)) i)) (List.replicate 54 (0#64)) hGF O O O (λi _=>Q6.gc _) dc dc underlying170 sizeOf169 sm Q6.zv169 O O<|λb33=>Cc O ent111 (λw' hC hG=>hK b33 w' hG (aJ (n:=33) O w' hC))<|bp O (λ_=>a8 _) O O<|aa<|aD O<|aq<|Xp<|Asg O<|aa<|am<|Rr<|?_;exact aF O O (λw hw=>⟨rfl,ac hw⟩)
theorem WZ(K:J1.GP)(bs:L8)(hn:bs.length=96)(S:Pt W2)(hD:D2 bs 0 S)(msg:L8)(H:J2.GP)(hM:Ms msg H 0)(a:Option Addr)(cap:Nat)(hl:msg.length<=65600)(hc:msg.length<=cap)(hK: ∀(d:Nat) (w':World),Gt w'->w'.rangeAt d 0 ((RW 54 (λi=>Q6.PRv (v2p (K,H) (J1.ku J1.y7,cA2 S (n4 hD)) i)) 2).map U64)->CLS 111 [.slice (spt d) 2 2].toArray w' (λy w''=>y=.returned (.bool false)/\Grow w' w''))(w:World)(hw:Gt w)(hb:BytesAt w a msg):CLS 62 [J1.PtV K,.slice a msg.length cap,.agg ((bs).map U8).toArray].toArray w (λr w'=>r=.returned (I 162)/\Grow w w'):=by
 refine Hf func62 O hw<|λhGF=>Xp<|Bx 3 hGF O<|λb3=>Bx 5 hGF O<|λb5=>Asg O<|aa<|Xp<|bV 5 O O isAgg33 sizeOf33 (by simp[*]) O O<|Ca O (Uc bs hn _ S hD)<|Mv O<|Ext O O<|Ext O O<|Al 7 hGF J2.zv80<|λb7=>Sa 7 hGF O O O cn<|Asg O<|aa<|ah<|Xp<|Mv O<|Bnb false O O (λ_=>bC _ _ _) (rfl)<|aa<|aD O<|aq<|Xp<|Mv O<|Cc O ent34 (λw' hC hG=>OE msg H _ hM a cap w' hl hc hG (hb.grow (ac hC)))<|Mv O<|Ext O O<|Ext O O<|Al 9 hGF J2.zv80<|λb9=>Sa 9 hGF O O O cn<|Asg O<|aa<|ah<|Xp<|Mv O<|Bnb false O O (λ_=>bC _ _ _) (rfl)<|aa<|aD O<|aq<|?_
 refine ah<|Xd []<|La 3 O O ck<|La 9 O O cn<|co Q6.tX O O sm sm O O<|Ca O (J1.HS)<|Ca O (J1.u9 _)<|La 7 O O cn<|co Q6.tX O O sm sm O O<|eV (s:=54) 33 (λi=>Q6.PRv (v2p (K,H) (J1.ku J1.y7,cA2 S (n4 hD)) i)) (List.replicate 54 (0#64)) hGF O O O (λi _=>Q6.gc _) dc dc underlying170 sizeOf169 sm Q6.zv169 O O<|λb33=>Cc O ent111 (λw' hC hG=>hK b33 w' hG (aJ (n:=33) O w' hC))<|bp O (λ_=>a8 _) O O<|aa<|aT O<|Xp<|Asg O<|aa<|am<|Rr<|?_;exact aF O O (λw hw=>⟨rfl,ac hw⟩)
theorem Vm(w:World)(K:J1.GP)(kb:L8)(hkn:kb.length=48)(hk:PUR 14 [.agg ((kb).map U8).toArray] (.tuple #[J1.PtV K,I 0]))(a:Option Addr)(l cap:Nat)(bs:L8)(hn:bs.length=96)(e:Int)(hV: ∀w',Gt w'->Grow w w'->CLS 62 [J1.PtV K,.slice a l cap,.agg ((bs).map U8).toArray].toArray w' (λr w''=>r=.returned (I e)/\Grow w' w''))(hw:Gt w):CLS 26 [.agg ((kb).map U8).toArray,.slice a l cap,.agg ((bs).map U8).toArray].toArray w (λr w'=>r=.returned (I e)/\Grow w w'):=by
 refine Hf func26 O hw<|λhGF=>Xp<|Bx 3 hGF O<|λb3=>Bx 5 hGF O<|λb5=>Asg O<|aa<|Xp<|bV 3 O O isAgg30 sizeOf30 (by simp[*]) O O<|Ca O (hk)<|Mv O<|Ext O O<|Ext O O<|Al 7 hGF J1.zv54<|λb7=>Sa 7 hGF O O O ck<|Asg O<|aa<|ah<|Xp<|Mv O<|Bnb false O O (λ_=>bC _ _ _) (rfl)<|aa<|aD O<|aq<|Xp<|La 7 O O ck<|Mv O<|bV 5 O O isAgg33 sizeOf33 (by simp[*]) O O<|Cc O ent62 (λw' hC hG=>hV w' hG (ac hC))<|Asg O<|aa<|am<|Rr<|?_
 exact aF O O (λw hw=>⟨rfl,ac hw⟩)
theorem Y6(w:World)(K:J1.GP)(e0:Option Addr)(n0 c0:Nat)(hS: ∀w',Gt w'->Grow w w'->CLS 61 [.slice e0 n0 c0,.func (.func 14) #[] #[]].toArray w' (λr w''=>r=.returned (.tuple #[J1.PtV K,I 0])/\Grow w' w''))(a:Option Addr)(l cap:Nat)(bs:L8)(hn:bs.length=96)(e:Int)(hV: ∀w',Gt w'->Grow w w'->CLS 62 [J1.PtV K,.slice a l cap,.agg ((bs).map U8).toArray].toArray w' (λr w''=>r=.returned (I e)/\Grow w' w''))(hw:Gt w):CLS 25 [.slice e0 n0 c0,.slice a l cap,.agg ((bs).map U8).toArray].toArray w (λr w'=>r=.returned (I e)/\Grow w w'):=by
 refine Hf func25 O hw<|λhGF=>Xp<|Bx 5 hGF O<|λb5=>Asg O<|aa<|Xp<|Mv O<|Cc O ent61 (λw' hC hG=>hS w' hG (ac hC))<|Mv O<|Ext O O<|Ext O O<|Al 7 hGF J1.zv54<|λb7=>Sa 7 hGF O O O ck<|Asg O<|aa<|ah<|Xp<|Mv O<|Bnb false O O (λ_=>bC _ _ _) (rfl)<|aa<|aD O<|aq<|Xp<|La 7 O O ck<|Mv O<|bV 5 O O isAgg33 sizeOf33 (by simp[*]) O O<|Cc O ent62 (λw' hC hG=>hV w' hG (ac hC))<|Asg O<|aa<|am<|Rr<|?_
 exact aF O O (λw hw=>⟨rfl,ac hw⟩)
theorem FD(w:World)(K:J1.GP)(c:Int)(h0: ¬c=0)(e0:Option Addr)(n0 c0:Nat)(hS: ∀w',Gt w'->Grow w w'->CLS 61 [.slice e0 n0 c0,.func (.func 14) #[] #[]].toArray w' (λr w''=>r=.returned (.tuple #[J1.PtV K,I c])/\Grow w' w''))(hw:Gt w):CLS 27 [.slice e0 n0 c0].toArray w (λr w'=>r=.returned (.tuple #[.agg ((List.replicate 48 (0#8)).map U8).toArray,I c])/\Grow w w'):=by
 refine Hf func27 O hw<|λhGF=>Xp<|Al 2 hGF zv30<|λb2=>Asg O<|aa<|Xp<|Mv O<|Cc O ent61 (λw' hC hG=>hS w' hG (ac hC))<|Mv O<|Ext O O<|Ext O O<|Al 4 hGF J1.zv54<|λb4=>Sa 4 hGF O O O ck<|Asg O<|aa<|ah<|Xp<|Mv O<|Bnb true O O (λ_=>bC _ _ _) (bne_iff_ne.2 h0)<|aa<|aT O<|Xp<|dX zv30 underlying30 sizeOf5 O O<|Mv O<|Sx 2 hGF O O O t30t List.length_replicate (bZ _)<|Asg O<|aa<|am<|Rr<|?_;exact a7 2 O O O O isAgg30 sizeOf30 sm (λw hw=>⟨rfl,ac hw⟩)
end
namespace Sh
abbrev tN:BitVec 32->Nat:=BitVec.toNat
abbrev M32:Nat:=4294967296
def tn(x a b:Nat):Nat:=Nat.lor (Nat.mod (Nat.shiftLeft x a) M32) (Nat.shiftRight x b)
def s1N(x:Nat):Nat:=Nat.xor (Nat.xor (tn x 26 6) (tn x 21 11)) (tn x 7 25)
def s0N(x:Nat):Nat:=Nat.xor (Nat.xor (tn x 30 2) (tn x 19 13)) (tn x 10 22)
def l0N(x:Nat):Nat:=Nat.xor (Nat.xor (tn x 25 7) (tn x 14 18)) (Nat.shiftRight x 3)
def l1N(x:Nat):Nat:=Nat.xor (Nat.xor (tn x 15 17) (tn x 13 19)) (Nat.shiftRight x 10)
def aN(a b:Nat):Nat:=Nat.mod (Nat.add a b) M32
def w4N(bl:List Nat)(i:Nat):Nat:=Nat.lor (Nat.lor (Nat.lor (Nat.mod (Nat.shiftLeft (Nat.mod (bl.getD (4*i) 0) M32) 24) M32) (Nat.mod (Nat.shiftLeft (Nat.mod (bl.getD (4*i+1) 0) M32) 16) M32)) (Nat.mod (Nat.shiftLeft (Nat.mod (bl.getD (4*i+2) 0) M32) 8) M32)) (Nat.mod (bl.getD (4*i+3) 0) M32)
def W1N(bl:List Nat):Nat->List Nat
 |0=>List.replicate 64 0
 |k+1=>(W1N bl k).set k (w4N bl k)
def w5N(ws:List Nat)(i:Nat):Nat:=aN (aN (aN (l1N (ws.getD (i-2) 0)) (ws.getD (i-7) 0)) (l0N (ws.getD (i-15) 0))) (ws.getD (i-16) 0)
def W2N(bl:List Nat):Nat->List Nat
 |0=>W1N bl 16
 |k+1=>(W2N bl k).set (16+k) (w5N (W2N bl k) (16+k))
structure VN where
 (a b c d e f g h:Nat)
def ttN(v:VN)(k w:Nat):Nat:=aN (aN (aN (aN v.h (s1N v.e)) (Nat.xor (Nat.land v.e v.f) (Nat.land (Nat.sub 4294967295 v.e) v.g))) k) w
def KG(v:VN)(k w:Nat):VN:=⟨aN (ttN v k w) (aN (s0N v.a) (Nat.xor (Nat.xor (Nat.land v.a v.b) (Nat.land v.a v.c)) (Nat.land v.b v.c))),v.a,v.b,v.c,aN v.d (ttN v k w),v.e,v.f,v.g⟩
def BE(v:VN)(ks ws:List Nat):Nat->VN
 |0=>v
 |k+1=>KG (BE v ks ws k) (ks.getD k 0) (ws.getD k 0)
def vN(s:List Nat):VN:=⟨s.getD 0 0,s.getD 1 0,s.getD 2 0,s.getD 3 0,s.getD 4 0,s.getD 5 0,s.getD 6 0,s.getD 7 0⟩
def IM(ks s bl:List Nat):List Nat:=
 let v:=BE (vN s) ks (W2N bl 48) 64
 [aN (s.getD 0 0) v.a,aN (s.getD 1 0) v.b,aN (s.getD 2 0) v.c,aN (s.getD 3 0) v.d,aN (s.getD 4 0) v.e,aN (s.getD 5 0) v.f,aN (s.getD 6 0) v.g,aN (s.getD 7 0) v.h]
def Ss(ks s:List Nat):List (List Nat)->List Nat
 |[]=>s
 |b::l=>Ss ks (IM ks s b) l
def V8.n(v:V8):VN:=⟨tN v.a,tN v.b,tN v.c,tN v.d,tN v.e,tN v.f,tN v.g,tN v.h⟩
theorem qy(x y:BitVec 32):tN (x+y)=aN (tN x) (tN y):=BitVec.toNat_add x y
theorem lJ(x:BitVec 32)(k:Int)(a b:Nat)(ha:(BitVec.ofInt 64 k &&& 31#64).toNat=a)(hb:(32#64-(BitVec.ofInt 64 k &&& 31#64)).toNat=b):tN (lr x k)=tn (tN x) a b:=by
 subst ha hb;show BitVec.toNat (lr x k)=_;rw[lr,BitVec.toNat_or,BitVec.toNat_shiftLeft,BitVec.toNat_ushiftRight];rfl
theorem kT(x y:BitVec 32):tN (x^^^y)=Nat.xor (tN x) (tN y):=BitVec.toNat_xor x y
theorem w6(x y:BitVec 32):tN (x &&& y)=Nat.land (tN x) (tN y):=BitVec.toNat_and x y
theorem XC(x:BitVec 32):tN (~~~x)=Nat.sub 4294967295 (tN x):=BitVec.toNat_not
theorem s1_e(x:BitVec 32):tN (pT x)=s1N (tN x):=by rw[pT,kT,kT,lJ x (-6) 26 6 dc dc,lJ x (-11) 21 11 dc dc,lJ x (-25) 7 25 dc dc];rfl
theorem s0_e(x:BitVec 32):tN (wl x)=s0N (tN x):=by rw[wl,kT,kT,lJ x (-2) 30 2 dc dc,lJ x (-13) 19 13 dc dc,lJ x (-22) 10 22 dc dc];rfl
theorem Mt(x:BitVec 32)(n:Nat):tN (x>>>n)=Nat.shiftRight (tN x) n:=BitVec.toNat_ushiftRight x n
theorem l0_e(x:BitVec 32):tN (Ce x)=l0N (tN x):=by rw[Ce,kT,kT,lJ x (-7) 25 7 dc dc,lJ x (-18) 14 18 dc dc,Mt];rfl
theorem l1_e(x:BitVec 32):tN (CK x)=l1N (tN x):=by rw[CK,kT,kT,lJ x (-17) 15 17 dc dc,lJ x (-19) 13 19 dc dc,Mt];rfl
theorem oC{n:Nat}(l:List (BitVec n))(i:Nat):(l.map BitVec.toNat).getD i 0=(l.getD i 0).toNat:=by
 rw[List.getD_eq_getElem?_getD,List.getD_eq_getElem?_getD,List.getElem?_map]
 cases l[i]? with
 |none=>rfl
 |some x=>rfl
theorem w4_e(bl:L8)(i:Nat):tN (w4 bl i)=w4N (bl.map BitVec.toNat) i:=by
 have s: ∀(x:BitVec 8) (k:Nat),BitVec.toNat (x.setWidth 32<<<k)=Nat.mod (Nat.shiftLeft (Nat.mod x.toNat M32) k) M32:=λx k=>by
  rw[BitVec.toNat_shiftLeft,BitVec.toNat_setWidth];rfl
 show BitVec.toNat (w4 bl i)=_;rw[w4,w4N,BitVec.toNat_or,BitVec.toNat_or,BitVec.toNat_or,s,s,s,BitVec.toNat_setWidth,oC,oC,oC,oC];rfl
theorem UK(bl:L8): ∀k,(W1 bl k).map tN=W1N (bl.map BitVec.toNat) k
 |0=>by rw[W1,W1N,List.map_replicate];rfl
 |k+1=>by rw[W1,W1N,List.map_set,UK bl k,w4_e]
theorem w5_e(ws:L3)(i:Nat):tN (w5 ws i)=w5N (ws.map tN) i:=by
 rw[w5,w5N,qy,qy,qy,l1_e,l0_e,oC,oC,oC,oC]
theorem Sp(bl:L8): ∀k,(W2 bl k).map tN=W2N (bl.map BitVec.toNat) k
 |0=>UK bl 16
 |k+1=>by rw[W2,W2N,List.map_set,Sp bl k,w5_e,Sp bl k]
theorem Wa(v:V8)(k w:BitVec 32):(rnd v k w).n=KG v.n (tN k) (tN w):=by
 have t:tN (v.h+pT v.e+(v.e &&& v.f^^^ ~~~v.e &&& v.g)+k+w)=ttN v.n (tN k) (tN w):=by
  rw[qy,qy,qy,qy,s1_e,kT,w6,w6,XC];rfl
 have e1:tN (rnd v k w).a=(KG v.n (tN k) (tN w)).a:=by
  show tN ((v.h+pT v.e+(v.e &&& v.f^^^ ~~~v.e &&& v.g)+k+w)+(wl v.a+(v.a &&& v.b^^^v.a &&& v.c^^^v.b &&& v.c)))=_;rw[qy,t,qy,s0_e,kT,kT,w6,w6,w6];rfl
 have e2:tN (rnd v k w).e=(KG v.n (tN k) (tN w)).e:=by
  show tN (v.d+(v.h+pT v.e+(v.e &&& v.f^^^ ~~~v.e &&& v.g)+k+w))=_;rw[qy,t];rfl
 show VN.mk (tN (rnd v k w).a) _ _ _ (tN (rnd v k w).e) _ _ _=_;rw[e1,e2];rfl
theorem Hv(v:V8)(ws:L3): ∀k,(mS v ws k).n=BE v.n (KW.map tN) (ws.map tN) k
 |0=>rfl
 |k+1=>by rw[mS,BE,Wa,Hv v ws k,oC,oC]
theorem vN_e(st:L3):(v8 st).n=vN (st.map tN):=by
 simp only[vN,oC];rfl
theorem TM(st:L3)(bl:L8):(rD st bl).map tN=IM (KW.map tN) (st.map tN) (bl.map BitVec.toNat):=by
 have h:=Hv (v8 st) (W2 bl 48) 64;rw[vN_e,Sp]at h;rw[IM,<-h];simp only[rD,Ri,List.map_cons,List.map_nil,oC,qy];rfl
theorem DK(st:L3)(b:L8)(l:List L8): ∀k,gP st (b::l) (k+1)=gP (rD st b) l k
 |0=>rfl
 |k+1=>by rw[gP,DK st b l k];rfl
theorem Nr: ∀(l:List L8) (st:L3),(gP st l l.length).map tN=Ss (KW.map tN) (st.map tN) (l.map (·.map BitVec.toNat))
 |[],_=>rfl
 |b::l,st=>by
  rw[List.length_cons,DK,Nr l,TM];rfl
theorem SG(l:L3):(l.map tN).map (BitVec.ofNat 32)=l:=by
 rw[List.map_map];exact (List.map_congr_left λx _=>BitVec.ofNat_toNat 32 x|>.trans (BitVec.setWidth_eq x)).trans (List.map_id l)
theorem mN(bs r:L8)(h:DG ((Ss (KW.map tN) (IV.map tN) ((pS bs).map (·.map BitVec.toNat))).map (BitVec.ofNat 32)) 8=r):SHA bs=r:=by
 rw[SHA,<-SG (gP IV (pS bs) (pS bs).length),Nr];exact h
end Sh
def w9:W2:=(zp 0x4a1a6fbdd75a0a015d8b97f9b7778cb923e5fab97e6dc0ada2f001b452745ac708ce13797418e6a361d408d7d680684,zp 0xdbba1ca562e8bdb6032da29043bd2a3b08775da7ac5d24b3af502c0a9279ac704e6ddfb9d18a3c57f161d2c62d60e1f)
def UY:W2:=(zp 0x21535d46c591ae51ea59ab9491a6b9cd35ff4f85826e9915e8b0c757f9ab2ab5090fce821399c2cec7f0c0e6d77cd9c,zp 0x25a27be7a3911aa82f64e6d40e73db7f4ada224ea508874ef6bd351588204f0933c5a53815ddcd17c33cb3a26ac8a65)
def mmy0:W2:=(zp 0x9315ba1a011f20cd38ffaabb09603d06a295ef31792f2c55128a130273557a146c65e15a894b561ea42449f72e05ce8,zp 0x36e9a81bb9182d66500bc370e277f842552f69e08e67141cffa537cd2507d5f69028db0682c32bf3f011f6d6fb18f74)
def Hy:W2×W2:=((zp 0xe5528f71e373b4cf4afeae262a9f7740af62f1f146cb03b2f585a3c472692d1e2312171c6affb64079df761a6fb895c,zp 0x40d6dac87e668f0c302c639a58fca14889c97ab0af29bff72d109475ef9633938e46dacaf3800b143c3951edfac00f5),(zp 0xe9aaf4f09f560fdc6700fba1f2fa6ea051feea7c1522fb68b475762a1222fa5a4a32027c5665199aa084ab2eaa2eac0,zp 0x7e31b613c8b044266240abcdbc53de1205bbd28644eda52d4acc7bfc6ac181dc09f84e9f0917ddb3fb2db605dcb5d71))
theorem We{x r:W2}(s:SwR w9 x r):x=UY/\sgS r w9=mmy0:=by
 have h:=OX (X:=(zp 0x1445931e8f87914a5e5dff9a6367ea5b6eecfebfa5dbd3644276be2084cf50dbd6f255c3e3c71fa7e756d3e8eb98d8c,zp 0x104dc64d945da164baef0f4ca48c2f5bdd79ca3e6d34207d6ca583818d41c98061051b2988759d8273ee71dccdab02a3)) (X':=UY) (R:=(zp 0x9315ba1a011f20cd38ffaabb09603d06a295ef31792f2c55128a130273557a146c65e15a894b561ea42449f72e05ce8,zp 0x36e9a81bb9182d66500bc370e277f842552f69e08e67141cffa537cd2507d5f69028db0682c32bf3f011f6d6fb18f74)) (q:=zp 0xdac9d21e47174c96a071c9e810c4a14509be19c174d93dca733279dbf3e05d1b596ec771c74d7df2b7a3db90a55e76) (by decide+kernel) (by decide+kernel) (by decide+kernel) (by decide+kernel) (by decide+kernel) (by decide+kernel) (by decide+kernel) s
 exact ⟨h.1,by rw[h.2];decide+kernel⟩
theorem mmq0{x r:W2}(s:SwR w9 x r):(XIs x,YIs x (sgS r w9))=Hy:=by
 rw[(We s).2,(We s).1];exact Prod.ext (Ns (by decide+kernel) (by decide+kernel)) (MG (by decide+kernel) (by decide+kernel))
theorem Xz:E2w.on Hy:=by
 unfold Ec.on;decide+kernel
def wt:W2:=(zp 0x88b742e34a06f08dae75df6b2bea04eb3e473a392b6fd00284a28b63ad06976480d134d08e780ac1654ea9398db027a,zp 0xba39e89ae159b80dce7d0779408abc9852e05f54fb489f657ae1495caf3223fe2b5eb69b8daca03a010b491852ed9fb)
def VW:W2:=(zp 0x1282216845306bbd6e021b45b7a42bf1fc20df27014f92120519b37afd7e697762112b16860f3b08c8a79e95f102f4eb,zp 0xa4ba0dba5603a134bd786cca59f66eff1940460ee60c65e5f3b5765da92a4d5152aeeaf1cc81c0d80d24c625d4ddce5)
def mmy1:W2:=(zp 0xb5f594a31f82557fb104862b8da474f82730f49b063c1500a3f44a2524027f5d045c446d010cae05b3cb59720cc237a,zp 0x83d1bac0b3db3945538e523d6d97e66388592e8e1ffee055ef37b9288316aadd58bcf5f1adc9bc9d2eb8ed1f9092ef0)
def Ic:W2×W2:=((zp 0x18fe49d245cb404aa63bc2979912ca9199e29263bf25c55bcf8a5570509429b33744b0d9e5e38c8b0ffa96ca37f34f0,zp 0x8af245a8c56afe24ab1a5e9d0b2e57d98ad35b1a2f1ab1741847a3efbd70c9f93d9b12db792a9fda10ca67fde0c7bde),(zp 0x18339860a12634c09f56c86d7394f66dc87632a6a94ea54e3638d91b543a48cd83e6189211d031c35088f1655d645237,zp 0x18f87c161a07eb19ade5e67e09d3949e2d5ab28bc33b8795d06378ef88652a286fea933d0b106a39e405aa07a2285f3f))
theorem Y3{x r:W2}(s:SwR wt x r):x=VW/\sgS r wt=mmy1:=by
 have h:=O3 (R:=(zp 0xb5f594a31f82557fb104862b8da474f82730f49b063c1500a3f44a2524027f5d045c446d010cae05b3cb59720cc237a,zp 0x83d1bac0b3db3945538e523d6d97e66388592e8e1ffee055ef37b9288316aadd58bcf5f1adc9bc9d2eb8ed1f9092ef0)) (X:=VW) (by decide+kernel) (by decide+kernel) (by decide+kernel) (by decide+kernel) s
 exact ⟨h.1,by rw[h.2];decide+kernel⟩
theorem mmq1{x r:W2}(s:SwR wt x r):(XIs x,YIs x (sgS r wt))=Ic:=by
 rw[(Y3 s).2,(Y3 s).1];exact Prod.ext (Ns (by decide+kernel) (by decide+kernel)) (MG (by decide+kernel) (by decide+kernel))
theorem VE:E2w.on Ic:=by
 unfold Ec.on;decide+kernel
namespace Xm
def mmm:L8:=[109#8]
def mmd:L8:=[66#8,76#8,83#8,95#8,83#8,73#8,71#8,95#8,66#8,76#8,83#8,49#8,50#8,51#8,56#8,49#8,71#8,50#8,95#8,88#8,77#8,68#8,58#8,83#8,72#8,65#8,45#8,50#8,53#8,54#8,95#8,83#8,83#8,87#8,85#8,95#8,82#8,79#8,95#8,80#8,79#8,80#8,95#8]
def mmb:L8:=[123#8,71#8,213#8,206#8,230#8,221#8,139#8,80#8,195#8,100#8,179#8,9#8,239#8,248#8,219#8,121#8,59#8,67#8,238#8,233#8,90#8,183#8,54#8,237#8,243#8,192#8,188#8,151#8,202#8,133#8,187#8,46#8]
def mml:Nat->L8
 |0=>[0#8,0#8,0#8,0#8,0#8,0#8,0#8,0#8,0#8,0#8,0#8,0#8,0#8,0#8,0#8,0#8,0#8,0#8,0#8,0#8,0#8,0#8,0#8,0#8,0#8,0#8,0#8,0#8,0#8,0#8,0#8,0#8]
 |1=>[233#8,243#8,94#8,46#8,92#8,128#8,246#8,94#8,201#8,255#8,229#8,232#8,220#8,235#8,67#8,138#8,89#8,141#8,220#8,239#8,198#8,80#8,150#8,242#8,255#8,5#8,130#8,85#8,193#8,159#8,150#8,94#8]
 |2=>[123#8,106#8,141#8,225#8,33#8,56#8,34#8,181#8,227#8,178#8,69#8,227#8,216#8,181#8,80#8,213#8,193#8,175#8,53#8,17#8,181#8,108#8,40#8,216#8,41#8,127#8,26#8,95#8,16#8,92#8,95#8,159#8]
 |3=>[137#8,19#8,115#8,95#8,213#8,222#8,108#8,66#8,47#8,107#8,9#8,245#8,211#8,113#8,239#8,43#8,168#8,66#8,250#8,106#8,217#8,161#8,154#8,46#8,187#8,60#8,106#8,175#8,104#8,200#8,201#8,131#8]
 |4=>[253#8,180#8,156#8,144#8,219#8,151#8,20#8,70#8,87#8,98#8,89#8,5#8,57#8,229#8,82#8,56#8,143#8,169#8,40#8,200#8,6#8,255#8,124#8,243#8,132#8,144#8,3#8,103#8,221#8,185#8,182#8,82#8]
 |5=>[213#8,239#8,78#8,111#8,76#8,88#8,150#8,146#8,179#8,217#8,181#8,212#8,200#8,240#8,93#8,168#8,136#8,18#8,155#8,38#8,110#8,91#8,73#8,141#8,183#8,84#8,162#8,10#8,174#8,29#8,255#8,192#8]
 |6=>[83#8,237#8,92#8,221#8,179#8,250#8,120#8,30#8,238#8,212#8,149#8,238#8,189#8,94#8,81#8,63#8,140#8,154#8,19#8,104#8,143#8,3#8,74#8,181#8,146#8,224#8,8#8,196#8,23#8,171#8,209#8,153#8]
 |7=>[28#8,190#8,98#8,198#8,79#8,142#8,86#8,0#8,81#8,219#8,173#8,44#8,221#8,44#8,73#8,212#8,103#8,191#8,247#8,78#8,201#8,230#8,160#8,154#8,180#8,238#8,112#8,83#8,104#8,75#8,255#8,124#8]
 |_=>[94#8,54#8,50#8,215#8,242#8,99#8,63#8,84#8,156#8,195#8,108#8,171#8,68#8,220#8,94#8,69#8,251#8,216#8,116#8,227#8,116#8,52#8,73#8,39#8,222#8,120#8,139#8,199#8,90#8,111#8,241#8,166#8]
theorem mm_b:B0 mmm mmd 256=mmb:=Sh.mN _ _ (by decide+kernel)
theorem WY:Xk mmb (D mmd) 0=mml 0:=by decide+kernel
theorem NH:Xk mmb (D mmd) 1=mml 1:=by
 show Xk mmb (D mmd) (0+1)=_;rw[Xk,WY];exact Sh.mN _ _ (by decide+kernel)
theorem Nj:Xk mmb (D mmd) 2=mml 2:=by
 show Xk mmb (D mmd) (1+1)=_;rw[Xk,NH];exact Sh.mN _ _ (by decide+kernel)
theorem M7:Xk mmb (D mmd) 3=mml 3:=by
 show Xk mmb (D mmd) (2+1)=_;rw[Xk,Nj];exact Sh.mN _ _ (by decide+kernel)
theorem Nf:Xk mmb (D mmd) 4=mml 4:=by
 show Xk mmb (D mmd) (3+1)=_;rw[Xk,M7];exact Sh.mN _ _ (by decide+kernel)
theorem MP:Xk mmb (D mmd) 5=mml 5:=by
 show Xk mmb (D mmd) (4+1)=_;rw[Xk,Nf];exact Sh.mN _ _ (by decide+kernel)
theorem Mp:Xk mmb (D mmd) 6=mml 6:=by
 show Xk mmb (D mmd) (5+1)=_;rw[Xk,MP];exact Sh.mN _ _ (by decide+kernel)
theorem M6:Xk mmb (D mmd) 7=mml 7:=by
 show Xk mmb (D mmd) (6+1)=_;rw[Xk,Mp];exact Sh.mN _ _ (by decide+kernel)
theorem Un:Xk mmb (D mmd) 8=mml 8:=by
 show Xk mmb (D mmd) (7+1)=_;rw[Xk,M6];exact Sh.mN _ _ (by decide+kernel)
theorem Wu:E mmm mmd 256=mml 1++mml 2++mml 3++mml 4++mml 5++mml 6++mml 7++mml 8:=by
 rw[E,mm_b,show (256+31) / 32=8 from O];simp only[Ozz,List.nil_append];rw[NH,Nj,M7,Nf,MP,Mp,M6,Un];decide+kernel
theorem mm_0:N2 (E mmm mmd 256) 0=w9:=by rw[Wu];decide+kernel
theorem mm_1:N2 (E mmm mmd 256) 1=wt:=by rw[Wu];decide+kernel
end Xm
section
set_option maxRecDepth 1000000
section
variable {β:Type}
def fN(n:Nat)(k:Nat->β):β:=match n with
 |0=>k 0
 |m+1=>k (m+1)
theorem Vt(n:Nat)(k:Nat->β):fN n k=k n:=by cases n<;>rfl
def fZ(x:Zp)(k:Zp->β):β:=fN x.val λn=>k (zp n)
theorem N8(x:Zp)(k:Zp->β):fZ x k=k x:=by rw[fZ,Vt,r3]
def f2K(x:W2)(k:W2->β):β:=fZ x.1 λa=>fZ x.2 λb=>k (a,b)
theorem vl(x:W2)(k:W2->β):f2K x k=k x:=by rw[f2K,N8,N8]
def f6K(x:W6)(k:W6->β):β:=f2K x.1 λa=>f2K x.2.1 λb=>f2K x.2.2 λc=>k (a,b,c)
theorem vO(x:W6)(k:W6->β):f6K x k=k x:=by rw[f6K,vl,vl,vl]
def jl(x:W12)(k:W12->β):β:=f6K x.1 λa=>f6K x.2 λb=>k (a,b)
theorem kQ(x:W12)(k:W12->β):jl x k=k x:=by rw[jl,vO,vO]
def fWK(g:WK->WK):List WK->(List WK->β)->β
 |[],k=>k []
 |w::l,k=>f6K (g w).2.2 λc=>fWK g l λl=>k ((w.1,w.2.1,c)::l)
theorem DT{g:WK->WK}(h: ∀w,g w=(w.1,w.2.1,(g w).2.2)): ∀(l:List WK) (k:List WK->β),fWK g l k=k (l.map g)
 |[],_=>rfl
 |w::l,k=>by rw[fWK,vO,DT h l,List.map_cons,<-h]
def fAK(g:WK->W6):List WK->W12->(W12->β)->β
 |[],f,k=>k f
 |w::l,f,k=>f6K (g w) λt=>jl (K12.mul (lel t) f) λf=>fAK g l f k
theorem ET(g:WK->W6): ∀(l:List WK) (f:W12) (k:W12->β),fAK g l f k=k (iR g l f)
 |[],_,_=>rfl
 |w::l,f,k=>by rw[fAK,vO,kQ,ET g l];rfl
theorem W5(w:WK):wDb w=(w.1,w.2.1,(wDb w).2.2):=rfl
theorem Xx(w:WK):wJn w=(w.1,w.2.1,(wJn w).2.2):=by unfold wJn;split<;>rfl
def stK(d:Bool)(S:List WK×W12)(k:List WK×W12->β):β:=jl (K12.mul S.2 S.2) λf=>fAK rDb S.1 f λf=>fWK wDb S.1 λl=>bif d then fAK rJn l f λf=>fWK wJn l λl=>k (l,f)else k (l,f)
theorem WF(d:Bool)(S:List WK×W12)(k:List WK×W12->β):stK d S k=k (rdF d S):=by
 rw[stK,kQ,ET,DT W5]
 cases d with
 |false=>rfl
 |true=>rw[cond_true,ET,DT Xx];rfl
def okS(d:Bool)(S:List WK×W12):Bool:=bif d then S.1.all λw=> !decide ((wDb w).2.2.2.2=ze2)else true
def okR:List Bool->List WK×W12->Bool
 |[],_=>true
 |d::r,S=>okS d S && okR r (rdF d S)
def yC:List Bool->List WK×W12->Bool->(List WK×W12->Bool->β)->β
 |[],S,b,k=>k S b
 |d::r,S,b,k=>bif b && okS d S then stK d S λS=>yC r S true k else stK d S λS=>yC r S false k
theorem HJ: ∀(l:List Bool) (S:List WK×W12) (b:Bool) (k:List WK×W12->Bool->β),yC l S b k=k (rdK l S) (b && okR l S)
 |[],S,b,k=>by rw[yC,okR,Bool.and_true];rfl
 |d::r,S,b,k=>by
  have e: ∀c,(stK d S λS=>yC r S c k)=k (rdK (d::r) S) (c && okR r (rdF d S)):=λc=>by rw[WF,HJ r];rfl
  rw[yC,e,e,okR]
  cases b<;>cases okS d S<;>rfl
theorem HM: ∀(l:List Bool) (S:List WK×W12),okR l S=true->∀(k:Nat),l[k]? =some true->∀w∈(rdK (l.take k) S).1,¬(wDb w).2.2.2.2=ze2
 |d::r,S,h,0,hd,w,hw=>by
  obtain rfl:d=true:=Option.some.inj hd;have k:=List.all_eq_true.1 (Bool.and_eq_true_iff.1 h).1 w hw;simpa using k
 |_::r,S,h,k+1,hd,w,hw=>HM r _ (Bool.and_eq_true_iff.1 h).2 k hd w hw
/-! ### The power -/
def ivN(x:W2):W2:=
 let n:=zp (pm (nm2 x).val PP 384 (PP-2))
 (x.1*n,-x.2*n)
theorem SH:iv2=ivN:=funext λx=>by
 have h:=zO (nm2 x).val (PP-2) 384 (by decide+kernel)
 rw[r3]at h;rw[iv2,ivN,h]
def Xy(i:W2->W2)(x:W6)(k:W6->β):β:=f2K (i3n x.1 x.2.1 x.2.2) λn=>f2K (i n) λn=>k (ml2 (i3a x.1 x.2.1 x.2.2) n,ml2 (i3b x.1 x.2.1 x.2.2) n,ml2 (i3c x.1 x.2.1 x.2.2) n)
def Hr(i:W2->W2)(x:W12)(k:W12->β):β:=f6K (qnm K6 VV x) λq=>Xy i q λq=>jl (K12.mul (x.1,K6.neg x.2) (q,K6.zero)) k
theorem T8(x:W12)(k:W12->β):Hr ivN x k=k (re x):=by
 rw[<-SH,Hr,vO,Xy,vl,vl,kQ];rfl
def FRg(g:W2)(x:W12):W12:=((ml2 (cj2 x.1.1) (pw2 g 0),ml2 (cj2 x.1.2.1) (pw2 g 2),ml2 (cj2 x.1.2.2) (pw2 g 4)),(ml2 (cj2 x.2.1) (pw2 g 1),ml2 (cj2 x.2.2.1) (pw2 g 3),ml2 (cj2 x.2.2.2) (pw2 g 5)))
def pwK(x:W12):List Bool->W12->(W12->β)->β
 |[],a,k=>jl (da a) k
 |b::r,a,k=>jl (K12.mul a a) λa=>bif b then jl (K12.mul a x) λa=>pwK x r a k else pwK x r a k
theorem zj(x:W12): ∀(l:List Bool) (n:Nat) (k:W12->β),pwK x l (K12.pw x n) k=k (da (K12.pw x (kI l n)))
 |[],n,k=>kQ _ _
 |true::r,n,k=>by
  rw[pwK,kQ,cond_true,kQ,K12.bt_y x (m:=2*n+1) O];exact zj x r _ k
 |false::r,n,k=>by
  rw[pwK,kQ,cond_false,K12.bt_n x (m:=2*n) O];exact zj x r _ k
def tnK(l:List Bool)(x:W12)(k:W12->β):β:=pwK x l K12.one k
theorem KV:kI (di 64 UG []) 0=UG:=by decide+kernel
theorem Qw(x:W12)(k:W12->β):tnK (di 64 UG []) x k=k (tnd UG x):=by
 have h:=zj x (di 64 UG []) 0 k;rw[KV]at h;exact h
def TP(l:List Bool)(i:W2->W2)(g:W2)(x:W12)(k:W12->β):β:=
 Hr i x λv=>jl (K12.mul (da x) v) λa=>jl (FRg g a) λb=>jl (K12.mul (FRg g b) a) λy=>
 tnK l y λt=>jl (K12.mul t (da y)) λa=>tnK l a λt=>jl (K12.mul t (da a)) λa=>
 tnK l a λt=>jl (K12.mul t (FRg g a)) λa=>
 tnK l a λt=>tnK l t λt=>jl (FRg g a) λb=>jl (K12.mul t (FRg g b)) λb=>jl (K12.mul b (da a)) λb=>
 jl (K12.mul b y) λb=>jl (K12.mul b y) λb=>jl (K12.mul b y) k
theorem I7(x:W12)(k:W12->β):TP (di 64 UG []) ivN (-(zp CNn),zp CNn) x k=k (xI UG x):=by
 rw[<-Du];have e:FRg GA=d8:=funext λ_=>rfl;simp only[TP,T8,kQ,Qw,e,xI,fi6,fi5,fi4,fi3,fi2,fi1]
end
def nS(p q:Zp×Zp)(P Q:W2×W2)(c:Bool):Bool:=yC (di 63 (UG-2^63) []) ([wkB p P,wkB q Q],K12.one) true λS b=>b && TP (di 64 UG []) ivN (-(zp CNn),zp CNn) (da S.2) λv=>decide (v=K12.one)==c
theorem IA{p q:Zp×Zp}{P Q:W2×W2}{c:Bool}(h:nS p q P Q c=true):okR (di 63 (UG-2^63) []) ([wkB p P,wkB q Q],K12.one)=true/\decide (xI UG (da (rdK (di 63 (UG-2^63) []) ([wkB p P,wkB q Q],K12.one)).2)=K12.one)=c:=by
 rw[nS,HJ,I7,Bool.true_and,Bool.and_eq_true]at h;exact ⟨h.1,eq_of_beq h.2⟩
/-! ### Points by literals -/
section
variable {α:Type} [DecidableEq α] (C:Ec α)
def okP(J:α×α×α)(p:α×α):Bool:= !decide (J.2.2=C.R.zero) && (decide (J.1=C.R.mul p.1 (C.z2 J.2.2)) && decide (J.2.1=C.R.mul p.2 (C.z3 J.2.2)))
theorem uv{P:Pt α}{J:α×α×α}{p:α×α}(hP:C.onP P)(h:C.jr J P){l:List Bool}{n:Nat}(hn:kI l 0=n)(k:okP C (C.jm J l (C.R.zero,C.R.zero,C.R.zero)) p=true):C.times P n=some p:=by
 have e:=C.jr_m hP h l (C.R.zero,C.R.zero,C.R.zero) 0 (show C.R.zero=C.R.zero from O);rw[hn]at e;simp only[okP,Bool.and_eq_true,Bool.not_eq_true',decide_eq_true_eq,decide_eq_false_iff_not]at k;exact C.jr_one e (show C.jr _ (some p)from ⟨k.1,k.2.1,k.2.2⟩)
end
def mmH:W2×W2:=((zp 0x15d20c32159aace6759a783461fd9e3c5ea985d29a7a466bc11c0ad3e5923bfee7e335057028e7c7c4db7df243baee61,zp 0x197c335f20db08e91c53aecbabf17e0c0880d2d3f17fa9d9f4f2bb7caae0c05c201db70fd56d044ed05b6cb2968dbb7d),(zp 0x12209a4008d642f9eea9d4b97e3109121080bd5e3893b70e9084e6c7de6e43b98c6c4a52d3f36bbb6713f7adf3de74a1,zp 0x1256e3b423c9dd0d7278b1e110cc625d626824b4f83aa9fc97a084d0c34eacf3cb7800495ae790dc5e24c802b7ad0d16))
def mmS:W2×W2:=((zp 0x6d325bd679cc3f989b68582f4eff2d94b372b1f01bfc04957d6140da52ccacfbe26a24a202e8529b08900d4f1fc1208,zp 0x251a519876f464c83133097ebf1a68721d90b28022e19c8ec4dc00ead36d3245916bb8c56d474b02d613c999d93f6ab),(zp 0x16374371aa881af335027b8be36594ebcd055b4bb5140ec6d06ec145d5fc295c755d03c69406fbe4246b20c59cdd20d4,zp 0x7ebcf4e0bc2ce02d699340e8acbab2337679d458250e250f2cc34d6f37449b878deaa6abfda8e0418bf451f2c80ba1a))
def WG:Zp×Zp:=(zp 0x9ece308f9d1f0131765212deca99697b112d61f9be9a5f1f3780a51335b3ff981747a0b2ca2179b96d2c0c9024e5224,zp 0x32b80d3a6f5b09f8a84623389c5f80ca69a0cddabc3097f9d9c27310fd43be6e745256c634af45ca3473b0590ae30d1)
def Ux:Zp×Zp:=(zp 0x85ae765588126f5e860d019c0e26235f567a9c0c0b2d8ff30f3e8d436b1082596e5e7462d20f5be3764fd473e57f9cf,zp 0x19e7dfab8a794b6abb9f84e57739de172a63415273f460d1607fa6a74f0acd97d9671b801dd1fd4f18232dd1259359a1)
theorem Ty{x r x' r':W2}(s:SwR w9 x r)(s':SwR wt x' r'):E2w.times (E2w.ad (some (XIs x,YIs x (sgS r w9))) (some (XIs x',YIs x' (sgS r' wt)))) HEF=some mmH:=by
 rw[mmq0 s,mmq1 s'];exact uv E2w (E2w.ad_on (P:=some Hy) (Q:=some Ic) Xz VE) (E2w.jr_a (P:=some Hy) (Q:=some Ic) Xz VE (kD Hy) (kD Ic)) Ib (by decide+kernel)
theorem Sv:E2w.on mmH:=by
 unfold Ec.on;decide+kernel
theorem PC:E2w.times (some mmH) 8=some mmS:=uv E2w (P:=some mmH) Sv (kD mmH) (l:=[true,false,false,false]) O (by decide+kernel)
theorem YB:E1.times (some G1p) 3=some WG:=uv E1 (P:=some G1p) qm vW (l:=[true,true]) O (by decide+kernel)
theorem ND:E1.times (some G1p) 8=some Ux:=uv E1 (P:=some G1p) qm vW (l:=[true,false,false,false]) O (by decide+kernel)
theorem UF:nS Ux (G1p.1,-G1p.2) mmH mmS true=true:=by decide+kernel
theorem chk3:nS WG (G1p.1,-G1p.2) mmH mmS false=true:=by decide+kernel
end
def UGS:W6:=E2w.jm (mmS.1,mmS.2,on2) (di 64 UG []) (ze2,ze2,ze2)
theorem Pd:E2w.jm (mmS.1,mmS.2,on2) (di 64 UG []) (E2w.R.zero,E2w.R.zero,E2w.R.zero)=UGS:=by unfold UGS;rfl
theorem ugs:UGS.2.2≠ze2/\UGS.1=ml2 (ml2 TX2 (cj2 mmS.1)) (ml2 UGS.2.2 UGS.2.2)/\UGS.2.1=ml2 (ng2 (ml2 TY2 (cj2 mmS.2))) (ml2 (ml2 UGS.2.2 UGS.2.2) UGS.2.2):=by decide+kernel
theorem XH(h:E2w.onP (some mmS)):E2w.times (some mmS) UG=some (ml2 TX2 (cj2 mmS.1),ng2 (ml2 TY2 (cj2 mmS.2))):=N4 E2w (P:=some mmS) h (kD mmS) (di 64 UG []) ug64 Pd ugs.1 ugs.2.1 ugs.2.2
theorem Qs(h:E2w.onP (some mmS)):IG2 (some mmS):=by
 show E2w.ne (E2w.times (some mmS) UG)=TW2.p (some mmS);rw[XH h];refine congrArg some ((Prod.ext O ?_:_=(ml2 TX2 (cj2 mmS.1),ml2 TY2 (cj2 mmS.2))).trans (LW mmS).symm);show ng2 (ng2 (ml2 TY2 (cj2 mmS.2)))=ml2 TY2 (cj2 mmS.2);exact R2.neg_neg _
section
open Go.RowKit
attribute [local simp] a6 bj aH aB aP aZ aQ aI aM be bz a5 bv J1.bB J2.bB ce fk eG fg
attribute [local simp] fP
theorem Xf:ORD=RR:=by decide+kernel
theorem Yh(x:Zr):x.val<ORD:=by rw[Xf];exact x.isLt
def Kx(x:Nat):Pt Zp:=E1.times (some G1p) x
theorem sS(x:Nat):E1.onP (Kx x):=E1.times_on pd x
theorem It{x:Nat}(h0:0<x)(h1:x<ORD): ¬Kx x=none:=λe=>by
 have k:=E1.times_inj (Q:=some G1p) qm (λ_=>hrO) Gd (λe=>by cases e) (m:=x) (n:=0) h1 om e
 omega
theorem YZ{p:Nat->J1.GP}{f:Nat->Nat}: ∀{n:Nat},(∀i,i<n->(p i).P=Kx (f i))->(J1.gSm p n).P=Kx ((List.range n).map f).sum
 |0,_=>rfl
 |n+1,h=>by
  rw[List.range_succ,List.map_append,List.sum_append_nat];show E1.ad (J1.gSm p n).P (p n).P=_;rw[YZ λi hi=>h i om,h n om,Kx,Kx,<-E1.times_add pd];simp[Kx]
theorem xr{x:Nat}(h: ¬Kx x=none):PUR 14 [.agg ((EN1 (Kx x)).map U8).toArray] (.tuple #[J1.PtV (cA1 (Kx x) (nW (pI (sS x) (sp x)))),I 0]):=Pb _ (eG _) _ h (pI (sS x) (sp x))
theorem EI(x:Zr):PUR 7 [RV x] (.agg ((EN1 (Kx x.val)).map U8).toArray):=QD x
theorem O4: ¬Xm.FBad Xm.mmm SUs 2:=by
 rintro (h|h|h|h)<;>revert h<;>decide
theorem YH: ∃p:J2.GP,Ms [109#8] p 0/\p.P=some mmH:=by
 obtain ⟨A,B,hs⟩:=Dx Xm.mmm SUs;obtain ⟨p,hp,hc⟩:=phs.ok _ _ _ _ O4 hs;refine ⟨p,⟨hc⟩, ?_⟩;obtain ⟨⟨x,r,h0,rfl⟩,x',r',h1,rfl⟩:=hs;rw[show U2n Xm.mmm SUs 0=w9 from Xm.mm_0]at h0 hp;rw[show U2n Xm.mmm SUs 1=wt from Xm.mm_1]at h1 hp;rw[hp];exact Ty h0 h1
def k2(A B:L8):Nat->L8
 |0=>A
 |_=>B
theorem k2_0(A B:L8):k2 A B 0=A:=rfl
theorem k2_1(A B:L8):k2 A B 1=B:=rfl
theorem yA{A B:L8}{s:Nat}(ha:A.length=s)(hb:B.length=s): ∀i,(k2 A B i).length=s
 |0=>ha
 |_+1=>hb
theorem Nn{w:World}{b s n:Nat}{K:Nat->L8}(h:w.rangeAt b 0 ((RW s K n).map U8))(hl: ∀i,(K i).length=s):KsAt w b s n K:=λi hi=>gB h hi (hl i)
theorem KsAt.less{w:World}{b s n m:Nat}{K:Nat->L8}(h:KsAt w b s n K)(hm:m<=n):KsAt w b s m K:=λi hi=>h i om
theorem FH(a b e:Zr)(A B E Z S:L8)(lA:A.length=48)(lB:B.length=48)(lS:S.length=96)(hA:PUR 23 [U64 3#64] (RV a))(hB:PUR 23 [U64 5#64] (RV b))(hE:PUR 23 [U64 8#64] (RV e))(hpA:PUR 7 [RV a] (.agg ((A).map U8).toArray))(hpB:PUR 7 [RV b] (.agg ((B).map U8).toArray))(hpE:PUR 7 [RV e] (.agg ((E).map U8).toArray))(hpZ:PUR 7 [aL (List.replicate 6 (0#64))] (.agg ((Z).map U8).toArray))(hS: ∀(bm:Nat) (w':World),Gt w'->BytesAt w' (spt bm) [109#8]->CLS 8 [RV (a+b),.slice (spt bm) 1 1].toArray w' (λr w''=>r=.returned (.tuple #[.agg ((S).map U8).toArray,I 0])/\Grow w' w''))(hF: ∀(d:Nat) (bm:Nat) (w':World),Gt w'->KsAt w' d 48 2 (k2 A B)->BytesAt w' (spt bm) [109#8]->CLS 25 [.slice (spt d) 2 2,.slice (spt bm) 1 1,.agg ((S).map U8).toArray].toArray w' (λr w''=>r=.returned (I 0)/\Grow w' w''))(hF': ∀(d:Nat) (bm:Nat) (w':World),Gt w'->KsAt w' d 48 2 (k2 A B)->BytesAt w' (spt bm) [109#8]->CLS 25 [.slice (spt d) 1 2,.slice (spt bm) 1 1,.agg ((S).map U8).toArray].toArray w' (λr w''=>r=.returned (I 162)/\Grow w' w''))(hV: ∀(bm:Nat) (w':World),Gt w'->BytesAt w' (spt bm) [109#8]->CLS 26 [.agg ((E).map U8).toArray,.slice (spt bm) 1 1,.agg ((S).map U8).toArray].toArray w' (λr w''=>r=.returned (I 0)/\Grow w' w''))(hK:PUR 14 [.agg ((Z).map U8).toArray] (.tuple #[J1.PtV J1.gInf,I 160]))(hN: ∀w',Gt w'->CLS 27 [.slice none 0 0].toArray w' (λr w''=>r=.returned (.tuple #[.agg ((List.replicate 48 (0#8)).map U8).toArray,I 161])/\Grow w' w'')):PUR 5 [] (.bool true):=by
 intro w hw;refine Hf func5 O hw<|λhGF=>ae (E:=EE [1000022])<|Asg O<|aa<|ae (E:=EE [1000022])<|Ca O (hA)<|Ca O (hB)<|Al 1 hGF zv27<|λb1=>Al 2 hGF zv27<|λb2=>Sa 1 hGF O O O ir<|Sa 2 hGF O O O ir<|aa<|ae (E:=EE [1000022])<|dU 16 [109#8] hGF O O O dc dc underlying22 sizeOf5 zeroValue5 O O<|λb16=>lR 16 O hGF O O underlying22 underlying5 O O<|Asg O<|aa<|ae (E:=EE [1000022])<|La 1 O O ir<|La 2 O O ir<|Ca O (sJ a b)<|Mv O<|Cc O ent8 (λw' hC hG=>hS b16 w' hG (BytesAt.range (aJ (n:=16) O w' hC)))<|Mv O<|Ext O O<|Ext O O<|Al 4 hGF zv33<|λb4=>aA 4 hGF O O O sizeOf33 (by simp[*]) sm (bZ _) O<|Asg O<|aa<|Xd [1000022]<|La 1 O O ir<|Ca O (hpA)<|La 2 O O ir<|Ca O (hpB)<|eV (s:=48) 30 (k2 A B) (List.replicate 48 (0#8)) hGF O O O (λi _=>yA lA lB i) dc dc underlying65 sizeOf30 sm zv30 O O<|λb30=>Asg O<|aa<|ae (E:=EE [1000022])<|Mv O<|?_
 refine Mv O<|bV 4 O O isAgg33 sizeOf33 (by simp[*]) O O<|Cc O ent25 (λw' hC hG=>hF b30 b16 w' hG (Nn (aJ (n:=30) O w' hC) (yA lA lB)) (BytesAt.range (aJ (n:=16) O w' hC)))<|Asg O<|aa<|Xd [1000022]<|Mv O<|go (l:=0) (h':=1) O underlying65 sizeOf30 O O om O O<|Mv O<|bV 4 O O isAgg33 sizeOf33 (by simp[*]) O O<|Cc O ent25 (λw' hC hG=>hF' b30 b16 w' hG (Nn (aJ (n:=30) O w' hC) (yA lA lB)) (BytesAt.range (aJ (n:=16) O w' hC)))<|Asg O<|aa<|Xd [1000022]<|Ca O (hE)<|Ca O (hpE)<|Mv O<|bV 4 O O isAgg33 sizeOf33 (by simp[*]) O O<|Cc O ent26 (λw' hC hG=>hV b16 w' hG (BytesAt.range (aJ (n:=16) O w' hC)))<|Asg O<|aa<|ae (E:=EE [1000022])<|ew zv27 underlying27 (ma sizeOf25) O O<|Ca O (hpZ)<|Ca O (hK)<|Mv O<|Ext O O<|Ext O O<|Al 10 hGF J1.zv54<|λb10=>Sa 10 hGF O O O ck<|Asg O<|aa<|ae (E:=EE [1000022])<|Cc O ent27 (λw' hC hG=>hN w' hG)<|Mv O<|Ext O O<|Ext O O<|Al 12 hGF zv30<|λb12=>aA 12 hGF O O O sizeOf30 (by simp[*]) sm (bZ _) O<|Asg O<|?_
 refine aa<|ae (E:=EE [1000022])<|Mv O<|Mv O<|Bnr (v:=I 0) O O (λ_=>au _ _ _ oi)<|Mv O<|Bnr (v:=I 0) O O (λ_=>au _ _ _ oi)<|Bnb true O O (λ_=>dO _ _ _) (rfl)<|Mv O<|Mv O<|Bnb true O O (λ_=>dO _ _ _) (rfl)<|Pk O O O<|Mv O<|Mv O<|Bnb true O O (λ_=>dO _ _ _) (rfl)<|Pk O O O<|Mv O<|Mv O<|Bnb true O O (λ_=>dO _ _ _) (rfl)<|Pk O O O<|Asg O<|aa<|am<|Rr<|?_;exact aF O O (λw hw=>⟨rfl,ac hw⟩)
theorem F8(n:Nat)(h0:0<n)(hn:n<=512)(K:Nat->L8)(f:Nat->Nat)(hK: ∀i,i<n->K i=EN1 (Kx (f i))/\¬Kx (f i)=none): ∃P:J1.GP,P.P=Kx ((List.range n).map f).sum/\∀(b cap:Nat) (w:World),Gt w->KsAt w b 48 n K->CLS 61 [.slice (spt b) n cap,.func (.func 14) #[] #[]].toArray w (λr w'=>r=.returned (.tuple #[J1.PtV P,I 0])/\Grow w w'):=by
 let p:Nat->J1.GP:=λi=>cA1 (Kx (f i)) (nW (pI (sS _) (sp _)))
 refine ⟨J1.gSm p n,YZ λi _=>rfl,λb cap w hw hk=> ?_⟩;have k:=J1.Sy n h0 hn K p (λ_=>0) (λi hi=>⟨by rw[(hK i hi).1];exact eG _,by rw[(hK i hi).1];exact xr (hK i hi).2⟩) n (Nat.le_refl _) (λ_ _=>rfl) (λh=>absurd h (Nat.lt_irrefl _)) b cap w hw hk
 rw[if_pos O,if_pos O]at k;exact k
namespace Q6
theorem Pm(n:Nat)(f:Nat->J1.GP×J2.GP)(b cap:Nat)(hn:n<=1000)(h0: ¬WSf f n=[])(hz:okR D63 (WSf f n,K12.one)=true)(w:World)(hw:Gt w)(h:w.rangeAt b 0 ((RW 54 (λi=>PRv (f i)) n).map U64)):CLS 163 [.slice (spt b) n cap].toArray w (λr w'=>r=.returned (cB (LPv f n))/\Grow w w'):=by
 have hl:=Nat.le_trans (uN f n) hn;have hb:=λw' hw' hr=>KM n f b cap hn w' hw' hr;rw[LPv];revert h hb;generalize (RW 54 (λi=>PRv (f i)) n).map U64=cs;intro h hb;refine TE (WSf f n) n b cap cs hl (λk hk hd w hw=> ?_) (λw' hw' hr=>(hb w' hw' hr).mono λr w'' h=> ?_) w hw h
 ·obtain ⟨v,hv,rfl⟩:=List.mem_map.1 hw
  exact HM _ _ hz k (by rw[tt hk,hd]) v hv
 rcases h with ⟨bW,cW,capW,h1,h2,h3,h4,h5,_⟩|⟨e,_⟩
 ·refine ⟨bW,cW.drop (wcl (WSf f n)).length,capW,h1,h2,h3, ?_⟩
  have e:wcl (WSf f n)++cW.drop (wcl (WSf f n)).length=cW:=by
   conv=>lhs;arg 1;rw[<-h5]
   exact List.take_append_drop _ _
  rw[e];exact h4
 ·exact absurd e h0
theorem Yg:D63=di 63 (UG-2^63) []:=by decide+kernel
theorem nc{α:Type}{x:Option α}{a:α}(h:x=some a): ¬x=none:=λe=>by rw[h]at e;cases e
theorem Jh{p q:Zp×Zp}{P Q:W2×W2}{a b:J1.GP×J2.GP}(h1:a.1.P=some p)(h2:a.2.P=some P)(h3:b.1.P=some q)(h4:b.2.P=some Q){c:Bool}(h:nS p q P Q c=true)(d:Nat)(w:World)(hw:Gt w)(hr:w.rangeAt d 0 ((RW 54 (λi=>PRv (v2p a b i)) 2).map U64)):CLS 111 [.slice (spt d) 2 2].toArray w (λr w'=>r=.returned (.bool c)/\Grow w w'):=by
 have hW:WSf (v2p a b) 2=[wkB p P,wkB q Q]:=by
  rw[Ff (f:=v2p a b) (i:=1) (nc h3) (nc h4),Ff (f:=v2p a b) (i:=0) (nc h1) (nc h2)];show [wkB (J1.PX a.1.P,J1.PY a.1.P) (J2.PX a.2.P,J2.PY a.2.P),wkB (J1.PX b.1.P,J1.PY b.1.P) (J2.PX b.2.P,J2.PY b.2.P)]=_;rw[h1,h2,h3,h4];rfl
 obtain ⟨k1,k2⟩:=IA h;rw[<-Yg,<-hW]at k1 k2;have e:LPv (v2p a b) 2=da (rdK D63 (WSf (v2p a b) 2,K12.one)).2:=by rw[LPv,SK,List.take_of_length_le (by rw[tJ];exact Nat.le_refl _)]
 have k:=Ji 2 2 (spt d) (LPv (v2p a b) 2) w hw λw' hG hg=>Pm 2 (v2p a b) d 2 dc (by rw[hW];exact λe=>by cases e) k1 w' hG (jH hr hg)
 rw[e,k2]at k;exact k
end Q6
theorem AU(K:J1.GP){g:Zp×Zp}(hK:K.P=some g)(msg:L8)(H:J2.GP)(hH:H.P=some mmH)(hM:Ms msg H 0)(hD:D2 (EN2 (some mmS)) 0 (some mmS))(c:Bool)(e:Int)(he:(c=true/\e=0)\/(c=false/\e=162))(hq:nS g (G1p.1,-G1p.2) mmH mmS c=true)(a:Option Addr)(cap:Nat)(hl:msg.length<=65600)(hc:msg.length<=cap)(w:World)(hw:Gt w)(hb:BytesAt w a msg):CLS 62 [J1.PtV K,.slice a msg.length cap,.agg ((EN2 (some mmS)).map U8).toArray].toArray w (λr w'=>r=.returned (I e)/\Grow w w'):=by
 have hk:=λ(d:Nat) (w':World) (hG:Gt w') hr=>Q6.Jh (a:=(K,H)) (b:=(J1.ku J1.y7,cA2 (some mmS) (n4 hD))) hK hH O O hq d w' hG hr;rcases he with ⟨rfl,rfl⟩|⟨rfl,rfl⟩
 ·exact W9 K _ (fg _) _ hD msg H hM a cap hl hc hk w hw hb
 ·exact WZ K _ (fg _) _ hD msg H hM a cap hl hc hk w hw hb
theorem JO(x:Nat){g:Zp×Zp}(hg:Kx x=some g)(msg:L8)(H:J2.GP)(hH:H.P=some mmH)(hM:Ms msg H 0)(hD:D2 (EN2 (some mmS)) 0 (some mmS))(hq:nS g (G1p.1,-G1p.2) mmH mmS true=true)(a:Option Addr)(cap:Nat)(hl:msg.length<=65600)(hc:msg.length<=cap)(w:World)(hw:Gt w)(hb:BytesAt w a msg):CLS 26 [.agg ((EN1 (Kx x)).map U8).toArray,.slice a msg.length cap,.agg ((EN2 (some mmS)).map U8).toArray].toArray w (λr w'=>r=.returned (I 0)/\Grow w w'):=
 Vm w (cA1 (Kx x) (nW (pI (sS x) (sp x)))) (EN1 (Kx x)) (eG _) (xr (Q6.nc hg)) a msg.length cap _ (fg _) 0 (λw' hG hg'=>AU _ hg msg H hH hM hD true 0 (.inl ⟨rfl,rfl⟩) hq a cap hl hc w' hG (hb.grow hg')) hw
theorem CV(w:World)(hw:Gt w):CLS 27 [.slice none 0 0].toArray w (λr w'=>r=.returned (.tuple #[.agg ((List.replicate 48 (0#8)).map U8).toArray,I 161])/\Grow w w'):=FD w J1.gInf 161 dc none 0 0 (λw' hG _=>J1.Gh 0 O _ none 0 w' hG) hw
theorem Ai:PUR 14 [.agg ((EN1 none).map U8).toArray] (.tuple #[J1.PtV J1.gInf,I 160]):=KR _ (eG _) none O (pI (P:=none) True.intro FE)
def fz:Nat->Nat
 |0=>3
 |_=>5
theorem ti:PUR 5 [] (.bool true):=by
 obtain ⟨H,hM,hH⟩:=YH;have e8:(zr (3#64).toNat+zr (5#64).toNat:Zr).val=8:=by decide+kernel
 have h3:(zr (3#64).toNat).val=3:=by decide+kernel
 have h5:(zr (5#64).toNat).val=5:=by decide+kernel
 have h8:(zr (8#64).toNat).val=8:=by decide+kernel
 have lt: ∀{k:Nat},k<100->k<ORD:=λh=>Nat.lt_trans h (by decide+kernel)
 have pb: ∀(x:Zr) (k:Nat),x.val=k->PUR 7 [RV x] (.agg ((EN1 (Kx k)).map U8).toArray):=λx k h=>by subst h;exact QD x
 have hK: ∀i,i<2->k2 (EN1 (Kx 3)) (EN1 (Kx 5)) i=EN1 (Kx (fz i))/\¬Kx (fz i)=none:=λi hi=>by
  match i,hi with
  |0,_=>rw[show fz 0=3 from O];exact ⟨k2_0 _ _,It dc (lt dc)⟩
  |1,_=>rw[show fz 1=5 from O];exact ⟨k2_1 _ _,It dc (lt dc)⟩
 have e0:E2w.times H.P 8=some mmS:=by rw[hH];exact PC
 have oS:E2w.onP (some mmS):=e0▸E2w.times_on H.on 8;have hD:=Wb oS (Qs oS);have fst: ∀(n:Nat) (h0:0<n) (hn:n<=2) (g:Zp×Zp) (_:Kx ((List.range n).map fz).sum=some g) (c:Bool) (e:Int) (_:(c=true/\e=0)\/(c=false/\e=162)) (_:nS g (G1p.1,-G1p.2) mmH mmS c=true) (d bm:Nat) (w':World),Gt w'->KsAt w' d 48 2 (k2 (EN1 (Kx 3)) (EN1 (Kx 5)))->BytesAt w' (spt bm) [109#8]->CLS 25 [.slice (spt d) n 2,.slice (spt bm) 1 1,.agg ((EN2 (some mmS)).map U8).toArray].toArray w' (λr w''=>r=.returned (I e)/\Grow w' w''):=by
  intro n h0 hn g hg c e he hq d bm w' hG hk hb;obtain ⟨P,hP,hs⟩:=F8 n h0 om (k2 (EN1 (Kx 3)) (EN1 (Kx 5))) fz (λi hi=>hK i om);exact Y6 w' P (spt d) n 2 (λw' hG hg=>hs d 2 w' hG ((hk.less hn).up hg)) _ 1 1 (EN2 (some mmS)) (fg _) e (λw' hG hg'=>AU P (hP.trans hg) [109#8] H hH hM hD c e he hq _ 1 dc dc w' hG (hb.grow hg')) hG
 refine FH _ _ _ (EN1 (Kx 3)) (EN1 (Kx 5)) (EN1 (Kx 8)) (EN1 none) (EN2 (some mmS)) (eG _) (eG _) (fg _) (qB 3#64) (qB 5#64) (qB 8#64) (pb _ 3 h3) (pb _ 5 h5) (pb _ 8 h8) ?_ ?_ ?_ ?_ ?_ Ai CV
 ·have k:=QD 0
  rw[RV,PU]at k;exact k
 ·intro bm w' hG hb
  have k:=wR (zr (3#64).toNat+zr (5#64).toNat) [109#8] H hM (spt bm) 1 w' dc dc hG hb;rw[show (J2.sX H (zr (3#64).toNat+zr (5#64).toNat)).P=E2w.times H.P 8 from by rw[<-e8];rfl,e0]at k
  exact k
 ·exact fst 2 dc dc _ ND true 0 (.inl ⟨rfl,rfl⟩) UF
 ·exact fst 1 dc dc _ YB false 162 (.inr ⟨rfl,rfl⟩) chk3
 ·intro bm w' hG hb
  exact JO 8 ND [109#8] H hH hM hD UF _ 1 dc dc w' hG hb
end
section
open Go.RowKit
attribute [local simp] a6 bj aH aB aP aZ aQ aI aM be bz a5 bv J1.bB J2.bB ce fk
theorem Xv(x y z:W2)(hz: ¬z=on2):PUR 47 [EV6 (x,y,z)] (.tuple #[EV2 (ml2 x (ml2 (iv2 z) (iv2 z))),EV2 (ml2 (ml2 y (ml2 (iv2 z) (iv2 z))) (iv2 z))]):=by
 intro w hw;refine Hf func47 O hw<|λhGF=>Xp<|Bx 1 hGF O<|λb1=>Al 2 hGF zv41<|λb2=>Al 3 hGF zv41<|λb3=>aa<|ah<|Xd []<|Fa 24 O underlying43 O sizeOf41<|ay 1 _ O O isAgg41 sizeOf41 sm (fX (m:=12) (n:=12) sm sm O) O O<|Ca O (n8)<|tY false O O (λ_=>LU _ _ _ _ _ _) (λw=>MD _ _ sm sm w) ((K1 z on2).trans (decide_eq_false hz)) O O<|aa<|aD O<|aq<|Xp<|Fa 24 O underlying43 O sizeOf41<|ay 1 _ O O isAgg41 sizeOf41 sm (fX (m:=12) (n:=12) sm sm O) O O<|Ca O (lI _)<|Al 4 hGF zv41<|λb4=>Sa 4 hGF O O O bL<|aa<|Xp<|La 4 O O bL<|La 4 O O bL<|Ca O (eD _ _)<|Al 5 hGF zv41<|λb5=>Sa 5 hGF O O O bL<|aa<|gi (E:=EE []) (λX=>X=Hp (pl w) []) (mkB [2]) (rkB []) [0,1,2,3,4,5,6,7,8,9,10,11] cT O kr kr kr<|dC O O<|Fa 0 O underlying43 O sizeOf41<|aa<|dC O O<|ay 1 _ O O isAgg41 sizeOf41 sm el O O<|aa<|dC O O<|La 5 O O bL<|aa<|dC O O<|?_;refine Ca O (eD _ _)<|aa<|dC O O<|Fa 12 O underlying43 O sizeOf41<|aa<|dC O O<|ay 1 _ O O isAgg41 sizeOf41 sm (kt sm) O O<|aa<|dC O O<|La 5 O O bL<|aa<|dC O O<|Ca O (eD _ _)<|aa<|dC O O<|La 4 O O bL<|aa<|dC O O<|Ca O (eD _ _)<|aa<|fD O<|Sa 2 hGF O O O bL<|aa<|?_;refine ⟨λ_ X hX _=>by subst hX;exact cL ao trivial, ?_⟩
 refine fD O<|Sa 3 hGF O O O bL<|aa<|?_;refine ⟨λh=>(by cases h), ?_⟩
 refine fJ<|am<|Rr<|?_;exact im 2 3 O O O O O isAgg41 sizeOf41 sm sm (λw hw=>⟨rfl,ac hw⟩)
theorem Ng(J:W6)(a b:W2)(h:E2w.jr J (some (a,b))):PUR 47 [EV6 J] (.tuple #[EV2 a,EV2 b]):=by
 obtain ⟨x,y,z⟩:=J;by_cases hz:z=on2
 ·subst hz
  have e:=E2w.jr_xy (E2w.jr_at (a,b) Fg);have e1:x=a:=(h.2.1).trans (by show ml2 a (ml2 on2 on2)=a;rw[show ml2 on2 on2=on2 from R2.mul_one _];exact R2.mul_one _)
  have e2:y=b:=(h.2.2).trans (by show ml2 b (ml2 (ml2 on2 on2) on2)=b;rw[show ml2 on2 on2=on2 from R2.mul_one _,show ml2 on2 on2=on2 from R2.mul_one _];exact R2.mul_one _)
  subst e1 e2;exact r9xy _ _
 ·have e:=E2w.jr_xy h
  have k:=Xv x y z hz;rw[show ml2 x (ml2 (iv2 z) (iv2 z))=a from e.1,show ml2 (ml2 y (ml2 (iv2 z) (iv2 z))) (iv2 z)=b from (R2.mul_assoc _ _ _).trans e.2]at k;exact k
theorem KZ(J:W6)(P:Pt Zp)(h:E1w.jr J (em1.p P))(w:World)(hw:Gt w):CLS 16 [EV6 J,.bool false].toArray w (λe w'=> ∃bm,e=.returned (.slice (spt bm) 48 48)/\Grow w w'/\w.heap.size<=bm/\OwnB w' bm ((EN1 P).map U8) 5):=by
 refine Hf func16 O hw<|λhGF=>Xp<|Bx 2 hGF O<|λb2=>Asg O<|aa<|Xp<|Asg O<|aa<|ah<|Xp<|Mv O<|aa<|aD O<|aq<|Xp<|Mv O<|oQ 6 hGF O O underlying22 ti5.choose_spec.1 ti5.choose_spec.2.1 (hmk 48 dc) (hmc 48 ti5.choose_spec mc48) O O<|λb6=>Asg O<|aa<|ah<|Xp<|La 2 O O jY<|?_;rcases P with _|⟨a0,b0⟩
 ·refine Cbl true O ent22 (pK _) (decide_eq_true h)<|aa<|aT O<|Xp<|Mv O<|h9 0 O O underlying22 sizeOf5 dc dc O O<|aY 6 U8 hGF O O O sizeOf5 O sm O<|aa<|Xp<|Mv O<|Asg O<|aa<|am<|Rr<|?_
  exact aF O O (λw hw=>⟨b6,rfl,ac hw,(hw.own 6 b6 _ _ O).2.elim id False.elim,(hw.own 6 b6 _ _ O).1⟩)
 ·obtain ⟨a,ea⟩: ∃a:W2,(a0,(0:Zp))=a:=⟨_,rfl⟩
  obtain ⟨b,eb⟩: ∃b:W2,(b0,(0:Zp))=b:=⟨_,rfl⟩;replace h:E2w.jr J (some (a,b)):=by rw[<-ea,<-eb];exact h
  refine Cbl false O ent22 (pK _) (decide_eq_false h.1)<|aa<|aD O<|aq<|Xp<|La 2 O O jY<|Ca O (Ng J a b h)<|Mv O<|Ext O O<|Ext O O<|Al 7 hGF zv41<|λb7=>Al 8 hGF zv41<|λb8=>Sa 7 hGF O O O bL<|Sa 8 hGF O O O bL<|aa<|fH (E:=EE [2999999]) [0,1,2,3,4,5,6,7] [⟨8,9,29,(List.replicate 48 (0#8)).map U8⟩,⟨9,10,29,(List.replicate 48 (0#8)).map U8⟩] [10,11] cT O kr kr kr kr kr kr dc (by intro x hx;simp only[List.mem_cons,List.not_mem_nil,or_false]at hx;rcases hx with rfl|rfl<;>exact bE O zv29 O)<|Fa 0 O underlying41 O sizeOf39<|ay 7 _ O O isAgg39 sizeOf39 sm el O O<|Ca O (mu _)<|Ca O (o1 _)<|Fa 6 O underlying41 O sizeOf39<|ay 7 _ O O isAgg39 sizeOf39 sm (jf sm) O O<|Ca O (mu _)<|Ca O (o1 _)<|aa<|?_
  refine ⟨_,_,rfl,hGF,by intro x hx;simp only[List.mem_cons,List.not_mem_nil,or_false]at hx;rcases hx with rfl|rfl<;>rfl,by intro x hx;simp only[List.mem_cons,List.not_mem_nil,or_false]at hx;rcases hx with rfl|rfl<;>rfl,λadr=> ?_⟩
  refine aA 9 hGF O O O sizeOf29 sm sm (bZ _) O<|aA 10 hGF O O O sizeOf29 sm sm (bZ _) O<|aa<|ah<|Xp<|Mv O<|aa<|aD O<|aq<|Xd []<|Mv O<|Mv O<|Bnr (v:=I 0) O O (λ_=>aW _ _ _ oi)<|go (l:=0) (h':=48) O underlying22 sizeOf5 O O dc O O<|bQ (l:=0) (h':=48) O underlying29 sizeOf5 O O om om O O<|gL 6 (o:=0) (cs:=cH a.1) hGF O O O underlying22 sz5 sm (λw' h=>BytesAt.range (aJ (n:=9) O w' h)) sm O O<|?_;rw[WS];refine aa<|Xp<|Mv O<|h9 0 O O underlying22 sizeOf5 dc dc O O<|Lm 6 U8 0 O O isAgg5 sm<|Bnr (v:=U8 ((cH a.1).getD 0 0|||128#8)) O O (λ_=>gC _ _ 128#8)<|h9 0 O O underlying22 sizeOf5 dc dc O O<|aY 6 U8 hGF O O O sizeOf5 O sm O<|aa<|ah<|Xp<|La 8 O O bL<|?_;rcases Bool.eq_false_or_eq_true (LG2 b)with hl|hl
  ·refine Cbl true O ent49 (mr _) (hl)<|aa<|aT O<|Xq<|Mv O<|h9 0 O O underlying22 sizeOf5 dc dc O O<|Lm 6 U8 0 O O isAgg5 sm<|Bnr (v:=U8 ((OR0 (cH a.1) 128#8).getD 0 0|||32#8)) O O (λ_=>gC _ _ 32#8)<|h9 0 O O underlying22 sizeOf5 dc dc O O<|aY 6 U8 hGF O O O sizeOf5 O sm O<|aa<|Xp<|Mv O<|Asg O<|aa<|am<|Rr<|?_
   exact aF O O (λw hw=>⟨b6,rfl,ac hw,(hw.own 6 b6 _ _ O).2.elim id False.elim,by subst ea eb;rw[show EN1 (some (a0,b0))=OR0 (OR0 (cH a0) 128#8) 32#8 from by rw[Nk,hl];rfl];exact (hw.own 6 b6 _ _ O).1⟩)
  ·refine Cbl false O ent49 (mr _) (hl)<|aa<|aD O<|aq<|Xp<|Mv O<|Asg O<|aa<|am<|Rr<|?_
   exact aF O O (λw hw=>⟨b6,rfl,ac hw,(hw.own 6 b6 _ _ O).2.elim id False.elim,by subst ea eb;rw[show EN1 (some (a0,b0))=OR0 (cH a0) 128#8 from by rw[Nk,hl];rfl];exact (hw.own 6 b6 _ _ O).1⟩)
theorem Kq(J:W6)(P:Pt W2)(h:E2w.jr J P)(w:World)(hw:Gt w):CLS 16 [EV6 J,.bool true].toArray w (λe w'=> ∃bm,e=.returned (.slice (spt bm) 96 96)/\Grow w w'/\w.heap.size<=bm/\OwnB w' bm ((EN2 P).map U8) 5):=by
 refine Hf func16 O hw<|λhGF=>Xp<|Bx 2 hGF O<|λb2=>Asg O<|aa<|Xp<|Asg O<|aa<|ah<|Xp<|Mv O<|aa<|aT O<|Xq<|Asg O<|aa<|Xp<|Mv O<|oQ 6 hGF O O underlying22 ti5.choose_spec.1 ti5.choose_spec.2.1 (hmk 96 dc) (hmc 96 ti5.choose_spec mc96) O O<|λb6=>Asg O<|aa<|ah<|Xp<|La 2 O O jY<|?_;rcases P with _|⟨a,b⟩
 ·refine Cbl true O ent22 (pK _) (decide_eq_true h)<|aa<|aT O<|Xp<|Mv O<|h9 0 O O underlying22 sizeOf5 dc dc O O<|aY 6 U8 hGF O O O sizeOf5 O sm O<|aa<|Xp<|Mv O<|Asg O<|aa<|am<|Rr<|?_
  exact aF O O (λw hw=>⟨b6,rfl,ac hw,(hw.own 6 b6 _ _ O).2.elim id False.elim,(hw.own 6 b6 _ _ O).1⟩)
 ·refine Cbl false O ent22 (pK _) (decide_eq_false h.1)<|aa<|aD O<|aq<|Xp<|La 2 O O jY<|Ca O (Ng J a b h)<|Mv O<|Ext O O<|Ext O O<|Al 7 hGF zv41<|λb7=>Al 8 hGF zv41<|λb8=>Sa 7 hGF O O O bL<|Sa 8 hGF O O O bL<|aa<|fH (E:=EE [2999999]) [0,1,2,3,4,5,6,7] [⟨8,9,29,(List.replicate 48 (0#8)).map U8⟩,⟨9,10,29,(List.replicate 48 (0#8)).map U8⟩] [10,11] cT O kr kr kr kr kr kr dc (by intro x hx;simp only[List.mem_cons,List.not_mem_nil,or_false]at hx;rcases hx with rfl|rfl<;>exact bE O zv29 O)<|Fa 0 O underlying41 O sizeOf39<|ay 7 _ O O isAgg39 sizeOf39 sm el O O<|Ca O (mu _)<|Ca O (o1 _)<|Fa 6 O underlying41 O sizeOf39<|ay 7 _ O O isAgg39 sizeOf39 sm (jf sm) O O<|Ca O (mu _)<|Ca O (o1 _)<|aa<|?_
  refine ⟨_,_,rfl,hGF,by intro x hx;simp only[List.mem_cons,List.not_mem_nil,or_false]at hx;rcases hx with rfl|rfl<;>rfl,by intro x hx;simp only[List.mem_cons,List.not_mem_nil,or_false]at hx;rcases hx with rfl|rfl<;>rfl,λadr=> ?_⟩
  refine aA 9 hGF O O O sizeOf29 sm sm (bZ _) O<|aA 10 hGF O O O sizeOf29 sm sm (bZ _) O<|aa<|ah<|Xp<|Mv O<|aa<|aT O<|Xq<|Mv O<|bQ (l:=0) (h':=48) O underlying29 sizeOf5 O O om om O O<|gL 6 (o:=0) (cs:=cH a.2) hGF O O O underlying22 sz5 sm (λw' h=>BytesAt.range (aJ (n:=10) O w' h)) sm O O<|?_;rw[ED];refine aa<|Xd []<|Mv O<|Mv O<|Bnr (v:=I 48) O O (λ_=>aW _ _ _ oi)<|go (l:=48) (h':=96) O underlying22 sizeOf5 O O dc O O<|bQ (l:=0) (h':=48) O underlying29 sizeOf5 O O om om O O<|gL 6 (o:=48) (cs:=cH a.1) hGF O O O underlying22 sz5 sm (λw' h=>BytesAt.range (aJ (n:=9) O w' h)) sm O O<|?_;rw[DM];refine aa<|Xp<|Mv O<|h9 0 O O underlying22 sizeOf5 dc dc O O<|Lm 6 U8 0 O O isAgg5 sm<|Bnr (v:=U8 ((cH a.2++cH a.1).getD 0 0|||128#8)) O O (λ_=>gC _ _ 128#8)<|h9 0 O O underlying22 sizeOf5 dc dc O O<|aY 6 U8 hGF O O O sizeOf5 O sm O<|aa<|ah<|Xp<|La 8 O O bL<|?_;rcases Bool.eq_false_or_eq_true (LG2 b)with hl|hl
  ·refine Cbl true O ent49 (mr _) (hl)<|aa<|aT O<|Xq<|Mv O<|h9 0 O O underlying22 sizeOf5 dc dc O O<|Lm 6 U8 0 O O isAgg5 sm<|Bnr (v:=U8 ((OR0 (cH a.2++cH a.1) 128#8).getD 0 0|||32#8)) O O (λ_=>gC _ _ 32#8)<|h9 0 O O underlying22 sizeOf5 dc dc O O<|aY 6 U8 hGF O O O sizeOf5 O sm O<|aa<|Xp<|Mv O<|Asg O<|aa<|am<|Rr<|?_
   exact aF O O (λw hw=>⟨b6,rfl,ac hw,(hw.own 6 b6 _ _ O).2.elim id False.elim,by rw[show EN2 (some (a,b))=OR0 (OR0 (cH a.2++cH a.1) 128#8) 32#8 from by rw[Mr,hl];rfl];exact (hw.own 6 b6 _ _ O).1⟩)
  ·refine Cbl false O ent49 (mr _) (hl)<|aa<|aD O<|aq<|Xp<|Mv O<|Asg O<|aa<|am<|Rr<|?_
   exact aF O O (λw hw=>⟨b6,rfl,ac hw,(hw.own 6 b6 _ _ O).2.elim id False.elim,by rw[show EN2 (some (a,b))=OR0 (cH a.2++cH a.1) 128#8 from by rw[Mr,hl];rfl];exact (hw.own 6 b6 _ _ O).1⟩)
end
section
open Go.RowKit
attribute [local simp] a6 bj aH aB aP aZ aQ aI aM be bz a5 bv J1.bB J2.bB ce fk eG fg
attribute [local simp] fP
attribute [local simp] jn
theorem ent12:ak prog 12:=λ_ _=>kr
theorem ent11:ak prog 11:=λ_ _=>kr
theorem Rn(x:Zr)(b:Nat)(t:TypeId)(w:World)(hw:Gt w)(ho:OwnB w b ((qj x).map U8) t):CLS 44 [.slice (spt b) 32 32].toArray w (λr w'=>r=.returned (.tuple #[NV (nr x),.bool true])/\Grow w w'):=by
 have h:=nR (spt b) 32 (qj x) w hw (BytesAt.range ho.range);rw[jn,if_neg dc,E7]at h;exact h
theorem NA(x:Zr):PUR 13 [RV x] (NV (nr x)):=by
 intro w hw;refine Hf func13 O hw<|λhGF=>Xp<|Bx 1 hGF O<|λb1=>Al 2 hGF zv37<|λb2=>aa<|Xp<|La 1 O O ir<|Ca O (vL x)<|Al 3 hGF zv98<|λb3=>aA 3 hGF O O O sizeOf98 sm sm (bZ _) O<|aa<|Xp<|bQ (l:=0) (h':=32) O underlying98 sizeOf5 O O dc dc O O<|Cc O ent44 (λw' hC hG=>Rn x _ _ w' hG (hC.own 3 _ _ _ O).1)<|Mv O<|Ext O O<|Ext O O<|Al 4 hGF zv37<|λb4=>Sa 4 hGF O O O cf<|Asg O<|aa<|Xp<|La 4 O O cf<|Sa 2 hGF O O O cf<|aa<|am<|Rr<|?_;exact av 2 O O O isAgg37 sizeOf37 sm (λw hw=>⟨rfl,ac hw⟩)
theorem CJ(a:L6)(ha:a.length=6)(w:World)(hw:Gt w):CLS 12 [aL (a)].toArray w (λe w'=> ∃bm i,i<=47/\(∀j,j<i->(BYs a 48).getD j 0#8=0#8)/\e=.returned (.slice (some ⟨bm,i,none⟩) (48-i) (48-i))/\Grow w w'/\w.heap.size<=bm/\OwnB w' bm ((BYs a 48).map U8) 29):=by
 refine Hf func12 O hw<|λhGF=>Xp<|Bx 1 hGF O<|λb1=>Asg O<|aa<|Xp<|bV 1 O O isAgg37 sizeOf37 (by simp[ha]) O O<|Ca O (fE a ha)<|Al 3 hGF zv29<|λb3=>aA 3 hGF O O O sizeOf29 (by simp[aI]) sm (bZ _) O<|aa<|Xp<|Asg O<|aa<|ah<|ai<|bH (ι:={i:Nat // i<=47/\∀j,j<i->(BYs a 48).getD j 0#8=0#8}) (λx=>[(1,pnt b1),(3,pnt b3),(4,I (x.1:Int))]) (λx=>[(1,b1,a.map U64,37),(3,b3,(BYs a 48).map U8,29)]) (λx=>47-x.1) ⟨0,om,λj hj=>absurd hj (Nat.not_lt_zero j)⟩ hGF trv trv<|?_
 rintro ⟨i,hi,hz⟩;dsimp only;refine ah<|Xp<|Mv O<|?_;rcases Bool.eq_false_or_eq_true (decide ((i:Int)<47))with h1|h1
 ·refine Bnb true O O (λ_=>aw _ (i:Int) 47) (h1)<|Mv O<|Mv O<|Ey i O O underlying29 sizeOf5 O (by simp at h1;omega) O O<|?_
  refine bO (v:=U8 (BYs a 48)[i]!) O isAgg5 (λw' hw'=>by have:=(aJ (n:=3) O w' hw') i (U8 (BYs a 48)[i]!) (by rw[List.getElem?_map,List.getElem?_eq_getElem (by rw[aI];simp at h1;omega),getElem!_pos (BYs a 48) i (by rw[aI];simp at h1;omega)];rfl);simpa using this) O O ?_
  rcases Bool.eq_false_or_eq_true ((BYs a 48)[i]! ==0#8)with h2|h2
  ·refine Bnb true O O (λ_=>cM _ (BYs a 48)[i]! 0#8) (h2)<|Pk O O O<|aa<|aT O<|aq<|ai<|Xq<|Mv O<|Bnr (v:=I (((i+1:Nat):Int))) O O (λ_=>(au _ _ _ oi).trans rr)<|Asg O<|aa<|?_
   repeat (refine aO ?_)
   refine aC ?_;have hlt:i<47:=by simp at h1;omega
   exact ⟨rfl,⟨i+1,om,λj hj=>(Nat.lt_or_ge j i).elim (hz j) (λh=>by have e:j=i:=om;subst e;have h3:=beq_iff_eq.1 h2;rw[getElem!_pos (BYs a 48) j (by rw[aI];omega)]at h3;rw[List.getD_eq_getElem?_getD,List.getElem?_eq_getElem (by rw[aI];omega)];exact h3)⟩,_,by show 47-(i+1)<47-i;omega,rfl,trv,trv⟩
  ·refine Bnb false O O (λ_=>cM _ (BYs a 48)[i]! 0#8) (h2)<|Pk O O O<|aa<|aD O<|aV<|Xp<|Mv O<|bQ (l:=i) (h':=48) O underlying29 sizeOf5 O O om om O O<|Asg O<|aa<|am<|Rr<|?_
   exact aF O O (λw hw=>⟨b3,i,hi,hz,rfl,ac hw,(hw.own 3 b3 _ _ O).2.elim id False.elim,(hw.own 3 b3 _ _ O).1⟩)
 ·refine Bnb false O O (λ_=>aw _ (i:Int) 47) (h1)<|Mv O<|Sk<|Sk<|Sk<|Sk<|Pk O O O<|aa<|aD O<|aV<|Xp<|Mv O<|bQ (l:=i) (h':=48) O underlying29 sizeOf5 O O om om O O<|Asg O<|aa<|am<|Rr<|?_
  exact aF O O (λw hw=>⟨b3,i,hi,hz,rfl,ac hw,(hw.own 3 b3 _ _ O).2.elim id False.elim,(hw.own 3 b3 _ _ O).1⟩)
theorem wQ(ys:L8): ∀i,(∀j,j<i->ys.getD j 0#8=0#8)->BN ys i=0
 |0,_=>rfl
 |i+1,h=>by
  rw[BN,wQ ys i (λj hj=>h j om),show ys.getD i 0=0#8 from h i om];rfl
theorem M2(x:Zr)(w:World)(hw:Gt w):CLS 12 [NV (nr x)].toArray w (λe w'=> ∃bm i ys,i<=47/\ys.length=48-i/\BN ys ys.length=x.val/\(BYs (nr x) 48).drop i=ys/\e=.returned (.slice (some ⟨bm,i,none⟩) (48-i) (48-i))/\Grow w w'/\w.heap.size<=bm/\OwnB w' bm ((BYs (nr x) 48).map U8) 29):=by
 refine (CJ (nr x) (fP x) w hw).mono λe w' h=> ?_;obtain ⟨bm,i,hi,hz,he,hg,hb,ho⟩:=h;have hl:((BYs (nr x) 48).drop i).length=48-i:=by rw[List.length_drop,aI]
 refine ⟨bm,i,_,hi,hl, ?_,rfl,he,hg,hb,ho⟩;have k:=pr (BYs (nr x) 48) i (48-i);rw[show i+(48-i)=48 from by omega,mg _ (fP x) 48 O,wi,wQ _ i hz,Nat.zero_mul,Nat.zero_add]at k
 rw[hl];exact k.symm
theorem DB{w:World}{b i:Nat}{ys NB:L8}(hy:NB.drop i=ys)(h:w.rangeAt b 0 (NB.map U8)):BytesAt w (some ⟨b,i,none⟩) ys:=by
 subst hy;refine BytesAt.range λj v hv=> ?_;rw[List.map_drop,List.getElem?_drop]at hv;have k:=h (i+j) v hv
 rwa [Nat.zero_add]at k
theorem Vq(w:World)(hw:Gt w):CLS 11 [].toArray w (λe w'=> ∃b,e=.returned (.slice (spt b) 43 43)/\Grow w w'/\w.heap.size<=b/\OwnB w' b (SUs.map U8) 5):=by
 refine Hf func11 O hw<|λhGF=>ae (E:=EE [1000022])<|Asg O<|aa<|ae (E:=EE [1000022])<|dU 1 SUs hGF O O O dc dc underlying22 sizeOf5 zeroValue5 O O<|λb1=>lR 1 O hGF O O underlying22 underlying5 O O<|Asg O<|aa<|am<|Rr<|?_;exact aF O O (λw hw=>⟨b1,rfl,ac hw,(hw.own 1 b1 _ _ O).2.elim id False.elim,(hw.own 1 b1 _ _ O).1⟩)
end
section
open Go.RowKit
attribute [local simp] a6 bj aH aB aP aZ aQ aI aM be bz a5 bv J1.bB J2.bB ce fk eG fg
attribute [local simp] fP
theorem Sj{msg dst:L8}{A B:W2×W2}(h:Sw2 msg dst A B){Q:Pt W2}(hQ:Q=E2w.times (E2w.ad (some A) (some B)) HEF):E2w.jr (RHf A B) Q:=by
 rw[RHf];exact YD (QC h) (E2w.jr_a (J2.fY (tG h.s0)) (J2.fY (tG h.s1)) (kD A) (kD B)) hQ.symm
theorem vz(e0:Option Addr)(cap0:Nat)(bs0:L8)(e1:Option Addr)(cap1:Nat)(bs1:L8)(h0: ¬bs0.length<=100)(w:World)(hw:Gt w):CLS 3 [.slice e0 bs0.length cap0,.slice e1 bs1.length cap1].toArray w (λr w'=>r=.returned (.bool true)/\Grow w w'):=by
 refine Hf func3 O hw<|λhGF=>ae (E:=EE [10,2000010,11,2000011,12,2000012,16,2000016])<|Asg O<|aa<|ah<|ae (E:=EE [10,2000010,11,2000011,12,2000012,16,2000016])<|Ca O (ti)<|bp O (λ_=>a8 _) O O<|aa<|aD O<|aq<|ah<|ae (E:=EE [10,2000010,11,2000011,12,2000012,16,2000016])<|Mv O<|bf O (λ_=>aG underlying22 _ _ _ _) O O<|Bnb true O O (λ_=>ba _ _ _) (decide_eq_true om)<|Mv O<|Sk<|Sk<|Sk<|Pk O O O<|aa<|aT O<|ae (E:=EE [10,2000010,11,2000011,12,2000012,16,2000016])<|Asg O<|aa<|am<|Rr<|?_;exact aF O O (λw hw=>⟨rfl,ac hw⟩)
theorem wx(e0:Option Addr)(cap0:Nat)(bs0:L8)(e1:Option Addr)(cap1:Nat)(bs1:L8)(h0:bs0.length<=100)(h1: ¬bs1.length<=300)(w:World)(hw:Gt w):CLS 3 [.slice e0 bs0.length cap0,.slice e1 bs1.length cap1].toArray w (λr w'=>r=.returned (.bool true)/\Grow w w'):=by
 refine Hf func3 O hw<|λhGF=>ae (E:=EE [10,2000010,11,2000011,12,2000012,16,2000016])<|Asg O<|aa<|ah<|ae (E:=EE [10,2000010,11,2000011,12,2000012,16,2000016])<|Ca O (ti)<|bp O (λ_=>a8 _) O O<|aa<|aD O<|aq<|ah<|ae (E:=EE [10,2000010,11,2000011,12,2000012,16,2000016])<|Mv O<|bf O (λ_=>aG underlying22 _ _ _ _) O O<|Bnb false O O (λ_=>ba _ _ _) (decide_eq_false om)<|Mv O<|Mv O<|bf O (λ_=>aG underlying22 _ _ _ _) O O<|Bnb true O O (λ_=>ba _ _ _) (decide_eq_true om)<|Pk O O O<|aa<|aT O<|ae (E:=EE [10,2000010,11,2000011,12,2000012,16,2000016])<|Asg O<|aa<|am<|Rr<|?_;exact aF O O (λw hw=>⟨rfl,ac hw⟩)
theorem sy(e0:Option Addr)(cap0:Nat)(bs0:L8)(e1:Option Addr)(cap1:Nat)(bs1:L8)(h0:bs0.length<=100)(h1:bs1.length<=300)(w:World)(hw:Gt w)(hb0:BytesAt w e0 bs0)(hb1:BytesAt w e1 bs1)(x:Zr)(KB SB:L8)(lK:KB.length=48)(lS:SB.length=96)(J:W6)(G:W6)(K:J1.GP)(f:Int)(z:Bool)(N6:L6)(NB:L8)(hZ:PUR 19 [RV x] (.bool z))(q1:(f==160)=z)(q2:(f==0)= !z)
 (hW: ∀w',Gt w'->BytesAt w' e0 bs0->CLS 6 [.slice e0 bs0.length cap0].toArray w' (λr w''=>r=.returned (RV x)/\Grow w' w'')) (hP:PUR 7 [RV x] (.agg ((KB).map U8).toArray))
 (hS: ∀w',Gt w'->BytesAt w' e1 bs1->CLS 8 [RV x,.slice e1 bs1.length cap1].toArray w' (λr w''=>r=.returned (.tuple #[.agg ((SB).map U8).toArray,I 0])/\Grow w' w''))
 (hH: ∀(bm bq:Nat) (w':World),Gt w'->OwnB w' bm (Sh.MK.map U32) 94->BytesAt w' e1 bs1->BytesAt w' (spt bq) SUs->CLS 9 [pnt bm,.slice e1 bs1.length cap1,.slice (spt bq) 43 43].toArray w' (λr w''=>r=.returned (.tuple #[EV6 J,I 0])/\Grow w' w''))
 (hV:PUR 14 [.agg ((KB).map U8).toArray] (.tuple #[J1.PtV K,I f])) (hI:PUR 20 [J1.PtV K] (.bool z))
 (hGn:PUR 17 [.bool false] (EV6 G)) (hN:PUR 13 [RV x] (NV N6)) (hSc: ∀w',Gt w'->CLS 12 [NV N6].toArray w' (λe w''=> ∃bm i ys,i<=47/\ys.length=48-i/\BN ys ys.length=x.val/\NB.drop i=ys/\e=.returned (.slice (some ⟨bm,i,none⟩) (48-i) (48-i))/\Grow w' w''/\w'.heap.size<=bm/\OwnB w'' bm (NB.map U8) 29))
 (hE: ∀(ys:L8) (Y:W6),BN ys ys.length=x.val->RMJ G ys (8*ys.length)=Y->∀w',Gt w'->CLS 16 [EV6 Y,.bool false].toArray w' (λe w''=> ∃bm,e=.returned (.slice (spt bm) 48 48)/\Grow w' w''/\w'.heap.size<=bm/\OwnB w'' bm (KB.map U8) 5))
 (hE': ∀(ys:L8) (Y:W6),BN ys ys.length=x.val->RMJ J ys (8*ys.length)=Y->∀w',Gt w'->CLS 16 [EV6 Y,.bool true].toArray w' (λe w''=> ∃bm,e=.returned (.slice (spt bm) 96 96)/\Grow w' w''/\w'.heap.size<=bm/\OwnB w'' bm (SB.map U8) 5)):CLS 3 [.slice e0 bs0.length cap0,.slice e1 bs1.length cap1].toArray w (λr w'=>r=.returned (.bool true)/\Grow w w'):=by
 refine Hf func3 O hw<|λhGF=>ae (E:=EE [10,2000010,11,2000011,12,2000012,16,2000016])<|Asg O<|aa<|ah<|ae (E:=EE [10,2000010,11,2000011,12,2000012,16,2000016])<|Ca O (ti)<|bp O (λ_=>a8 _) O O<|aa<|aD O<|aq<|ah<|ae (E:=EE [10,2000010,11,2000011,12,2000012,16,2000016])<|Mv O<|bf O (λ_=>aG underlying22 _ _ _ _) O O<|Bnb false O O (λ_=>ba _ _ _) (decide_eq_false om)<|Mv O<|Mv O<|bf O (λ_=>aG underlying22 _ _ _ _) O O<|Bnb false O O (λ_=>ba _ _ _) (decide_eq_false om)<|Pk O O O<|aa<|aD O<|aq<|ae (E:=EE [10,2000010,11,2000011,12,2000012,16,2000016])<|Mv O<|Cc O ent6 (λw' hC hG=>hW w' hG (hb0.grow (ac hC)))<|Al 5 hGF zv27<|λb5=>Sa 5 hGF O O O ir<|aa<|ae (E:=EE [10,2000010,11,2000011,12,2000012,16,2000016])<|La 5 O O ir<|Ca O (hP)<|Al 6 hGF zv30<|λb6=>aA 6 hGF O O O sizeOf30 (by simp[*]) sm (bZ _) O<|aa<|ae (E:=EE [10,2000010,11,2000011,12,2000012,16,2000016])<|La 5 O O ir<|Mv O<|Cc O ent8 (λw' hC hG=>hS w' hG (hb1.grow (ac hC)))<|?_
 refine Mv O<|Ext O O<|Ext O O<|Al 7 hGF zv33<|λb7=>aA 7 hGF O O O sizeOf33 (by simp[*]) sm (bZ _) O<|Asg O<|aa<|ae (E:=EE [10,2000010,11,2000011,12,2000012,16,2000016])<|?_
 refine bI O O ent10 O O (λw' hw'=>(Sh.C8 w' (hGF.g _ _ _ hw')).mono λe' w'' h=> ?_);obtain ⟨bm,rfl,hg,h1,ho⟩:=h;refine ⟨_,_,rfl,az hGF,hw'.news ao hg [(934,bm,Sh.MK.map U32,94)] ?_ bR,bP ao O, ?_⟩
 ·intro n' b' c' t' hl
  rcases aK hl with ⟨_,e⟩|⟨_,hl⟩
  ·cases e;exact ⟨h1,ho⟩
  ·cases hl
 clear hw' hg h1 ho;refine Mv O ?_;refine bI O O ent11 O O (λw' hw'=>(Vq w' (hGF.g _ _ _ hw')).mono λe' w'' h=> ?_);obtain ⟨bq,rfl,hg,h1,ho⟩:=h;refine ⟨_,_,rfl,az hGF,hw'.news ao hg [(935,bq,SUs.map U8,5)] ?_ bR,bP ao O, ?_⟩
 ·intro n' b' c' t' hl
  rcases aK hl with ⟨_,e⟩|⟨_,hl⟩
  ·cases e;exact ⟨h1,ho⟩
  ·cases hl
 clear hw' hg h1 ho;refine Cc O ent9 (λw' hC hG=>hH bm bq w' hG (hC.own 934 _ _ _ O).1 (hb1.grow (ac hC)) (BytesAt.range (aJ (n:=935) O w' hC)))<|Mv O<|Ext O O<|Ext O O<|Al 9 hGF zv43<|λb9=>Sa 9 hGF O O O jY<|Asg O<|aa<|ae (E:=EE [10,2000010,11,2000011,12,2000012,16,2000016])<|La 5 O O ir<|Ca O (hN)<|?_;refine bI O O ent12 O O (λw' hw'=>(hSc w' (hGF.g _ _ _ hw')).mono λe' w'' h=> ?_);obtain ⟨bt,i,ys,hi,hl,hn,hd,rfl,hg,h2,ho⟩:=h;refine ⟨_,_,rfl,az hGF,hw'.news ao hg [(936,bt,NB.map U8,29)] ?_ bR,bP ao O, ?_⟩
 ·intro n' b' c' t' hl
  rcases aK hl with ⟨_,e⟩|⟨_,hl⟩
  ·cases e;exact ⟨h2,ho⟩
  ·cases hl
 clear hw' hg h2 ho;obtain ⟨Y1,hY1⟩: ∃Y,RMJ G ys (8*ys.length)=Y:=⟨_,rfl⟩;obtain ⟨Y2,hY2⟩: ∃Y,RMJ J ys (8*ys.length)=Y:=⟨_,rfl⟩;refine Asg O<|aa<|ae (E:=EE [10,2000010,11,2000011,12,2000012,16,2000016])<|bV 6 O O isAgg30 sizeOf30 (by simp[*]) O O<|Ca O (hV)<|Mv O<|Ext O O<|Ext O O<|Al 12 hGF J1.zv54<|λb12=>Sa 12 hGF O O O ck<|Asg O<|aa<|Xd [10,2000010,11,2000011,12,2000012,16,2000016]<|Mv O<|Bnb true O O (λ_=>dO _ _ _) (rfl)<|Mv O<|bQ (l:=0) (h':=48) O underlying30 sizeOf5 O O dc dc O O<|Ca O (hGn)<|Mv O<|Cc O ent18 (λw' hC hG=>yI _ _ _ ys (48-i) hl om _ hY1 w' hG (DB hd (aJ (n:=936) O w' hC)))<|?_
 refine bI O O ent16 O O (λw' hw'=>(hE ys Y1 hn hY1 w' (hGF.g _ _ _ hw')).mono λe' w'' h=> ?_);obtain ⟨bk,rfl,hg,h1,ho⟩:=h;refine ⟨_,_,rfl,az hGF,hw'.news ao hg [(937,bk,KB.map U8,5)] ?_ bR,bP ao O, ?_⟩
 ·intro n' b' c' t' hl
  rcases aK hl with ⟨_,e⟩|⟨_,hl⟩
  ·cases e;exact ⟨h1,ho⟩
  ·cases hl
 clear hw' hg h1 ho;refine Cc O ent15 (λw' hC hG=>qs KB _ _ _ _ _ _ lK lK w' hG (BytesAt.range (aJ (n:=6) O w' hC)) (BytesAt.range (aJ (n:=937) O w' hC)))<|Pk O O O<|Mv O<|bQ (l:=0) (h':=96) O underlying33 sizeOf5 O O dc dc O O<|La 9 O O jY<|Mv O<|Cc O ent18 (λw' hC hG=>yI _ _ _ ys (48-i) hl om _ hY2 w' hG (DB hd (aJ (n:=936) O w' hC)))<|?_;refine bI O O ent16 O O (λw' hw'=>(hE' ys Y2 hn hY2 w' (hGF.g _ _ _ hw')).mono λe' w'' h=> ?_);obtain ⟨bg,rfl,hg,h1,ho⟩:=h;refine ⟨_,_,rfl,az hGF,hw'.news ao hg [(938,bg,SB.map U8,5)] ?_ bR,bP ao O, ?_⟩
 ·intro n' b' c' t' hl
  rcases aK hl with ⟨_,e⟩|⟨_,hl⟩
  ·cases e;exact ⟨h1,ho⟩
  ·cases hl
 clear hw' hg h1 ho;refine Cc O ent15 (λw' hC hG=>qs SB _ _ _ _ _ _ lS lS w' hG (BytesAt.range (aJ (n:=7) O w' hC)) (BytesAt.range (aJ (n:=938) O w' hC)))<|Pk O O O<|Mv O<|Mv O<|Bnr (v:=.bool z) O O (λ_=>(dO _ _ _).trans (by rw[q1]))<|La 5 O O ir<|Ca O (hZ)<|Bnr (v:=.bool true) O O (λw'=>(iy _ underlying4 z z w').trans (by rw[beq_self_eq_true]))<|Pk O O O<|Mv O<|Mv O<|Bnr (v:=.bool (!z)) O O (λ_=>(dO _ _ _).trans (by rw[q2]))<|La 5 O O ir<|Ca O (hZ)<|bp (v:=.bool !z) O (λ_=>a8 z) O O<|Bnr (v:=.bool true) O O (λw'=>(iy _ underlying4 (!z) (!z) w').trans (by rw[beq_self_eq_true]))<|Pk O O O<|Mv O<|La 12 O O ck<|Ca O (hI)<|La 5 O O ir<|Ca O (hZ)<|Bnr (v:=.bool true) O O (λw'=>(iy _ underlying4 z z w').trans (by rw[beq_self_eq_true]))<|Pk O O O<|Asg O<|aa<|am<|Rr<|?_
 exact aF O O (λw hw=>⟨rfl,ac hw⟩)
theorem Ea{msg:L8}(h:msg.length<=65536): ¬Xm.FBad msg SUs 2:=by
 rintro (h'|h'|h'|h')
 ·revert h';decide
 ·revert h';decide
 ·revert h';decide
 ·omega
theorem Tk(e0:Option Addr)(cap0:Nat)(bs0:L8)(e1:Option Addr)(cap1:Nat)(bs1:L8)(hc0:bs0.length<=cap0)(hc1:bs1.length<=cap1)(w:World)(hw:Gt w)(hb0:BytesAt w e0 bs0)(hb1:BytesAt w e1 bs1):CLS 3 [.slice e0 bs0.length cap0,.slice e1 bs1.length cap1].toArray w (λr w'=>r=.returned (.bool true)/\Grow w w'):=by
 by_cases h0:bs0.length<=100
 case neg=>exact vz e0 cap0 bs0 e1 cap1 bs1 h0 w hw
 by_cases h1:bs1.length<=300
 case neg=>exact wx e0 cap0 bs0 e1 cap1 bs1 h0 h1 w hw
 have hm:bs1.length<=65536:=om;have hn0:bs0.length<=1000000:=om;have hn1:bs1.length<=65600:=om;obtain ⟨A,B,hs⟩:=Dx bs1 SUs;obtain ⟨H,hH,hc⟩:=phs.ok _ _ _ _ (Ea hm) hs;have hM:Ms bs1 H 0:=⟨hc⟩;have hJ:E2w.jr (RHf A B) H.P:=Sj hs hH;have hR:=λ(bm bq:Nat) (w':World) (hG:Gt w') ho hb hq=>Io bm e1 cap1 bs1 (spt bq) 43 SUs w' hG ho hb hq (Ea hm) hs;have hW:=λw' hG hb=>wh e0 cap0 bs0 hn0 hc0 w' hG hb;revert hW hJ hR;generalize QB bs0=x;generalize RHf A B=J;intro hJ hR hW;have sg:=λw' hG hb=>wR x bs1 H hM e1 cap1 w' hn1 hc1 hG hb;have hE: ∀(ys:L8) (Y:W6),BN ys ys.length=x.val->RMJ (RJ (some G1p)) ys (8*ys.length)=Y->∀w',Gt w'->CLS 16 [EV6 Y,.bool false].toArray w' (λe w''=> ∃bm,e=.returned (.slice (spt bm) 48 48)/\Grow w' w''/\w'.heap.size<=bm/\OwnB w'' bm ((EN1 (Kx x.val)).map U8) 5):=λys Y hn hY w' hG=>by
  have k:=J1.Ox pd ys ys.length;rw[hY,hn]at k;exact KZ Y (Kx x.val) k w' hG
 have hE': ∀(ys:L8) (Y:W6),BN ys ys.length=x.val->RMJ J ys (8*ys.length)=Y->∀w',Gt w'->CLS 16 [EV6 Y,.bool true].toArray w' (λe w''=> ∃bm,e=.returned (.slice (spt bm) 96 96)/\Grow w' w''/\w'.heap.size<=bm/\OwnB w'' bm ((EN2 (E2w.times H.P x.val)).map U8) 5):=λys Y hn hY w' hG=>
  Kq Y _ (Oi H.on hJ ys x.val hn Y hY.symm O) w' hG
 have kZ:=uI x;by_cases hx:x=0
 ·rw[decide_eq_true hx]at kZ
  exact sy e0 cap0 bs0 e1 cap1 bs1 h0 h1 w hw hb0 hb1 x (EN1 (Kx x.val)) (EN2 (E2w.times H.P x.val)) (eG _) (fg _) J (RJ (some G1p)) J1.gInf 160 true (nr x) (BYs (nr x) 48) kZ O O hW (EI x) sg hR (by rw[hx];exact Ai) (by have k:=J1.o2 J1.gInf;rw[show decide (J1.gInf.P=none)=true from O]at k;exact k) DP (NA x) (M2 x) hE hE'
 ·rw[decide_eq_false hx]at kZ
  have hK: ¬Kx x.val=none:=It (Nat.pos_of_ne_zero λe=>hx (Fin.ext e)) (Yh x);exact sy e0 cap0 bs0 e1 cap1 bs1 h0 h1 w hw hb0 hb1 x (EN1 (Kx x.val)) (EN2 (E2w.times H.P x.val)) (eG _) (fg _) J (RJ (some G1p)) _ 0 false (nr x) (BYs (nr x) 48) kZ O O hW (EI x) sg hR (xr hK) (by have k:=J1.o2 (cA1 (Kx x.val) (nW (pI (sS x.val) (sp x.val))));rw[show decide ((cA1 (Kx x.val) (nW (pI (sS x.val) (sp x.val)))).P=none)=false from decide_eq_false hK]at k;exact k) DP (NA x) (M2 x) hE hE'
end
end Go.Proofs.YtjookodjbjabbaaGreatDoor
