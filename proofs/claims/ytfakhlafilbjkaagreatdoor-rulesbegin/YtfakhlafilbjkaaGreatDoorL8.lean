/- L8 -/
import Derived.Test.YtfakhlafilbjkaaGreatDoorL7
import Derived.Test.YtfakhlafilbjkaaGreatDoorL5
set_option maxRecDepth 100000
set_option maxHeartbeats 1000000
namespace Go.Proofs.YtfakhlafilbjkaaGreatDoor
open Go.Proofs.Tryz
section
open Go.RowKit
attribute [local simp] dZ fJ bR bz dw cG cH ce ef PLl mE mB N1l mw mF mo eQ gt jp i7 jR J1.rD gg
theorem ent130:aL prog 130:=λ_ _=>kr
theorem ent158:aL prog 158:=λ_ _=>kr
theorem ent188:aL prog 188:=λ_ _=>kr
theorem EI{w w':World}{b o:Nat}{c:List Value}(h:w.rangeAt b o c)(hg:Grow w w'):w'.rangeAt b o c:=λj v hv=>(hg.cell (block_lt_of_cell (h j v hv))).trans (h j v hv)
theorem oe{n m x y:Nat}{c d:List Value}{s t:TypeId}(hx:x≠y): ∀n' m' b c1 t1 c2 t2,lkB [(n,x,c,s),(m,y,d,t)] n'=some (b,c1,t1)->lkB [(n,x,c,s),(m,y,d,t)] m'=some (b,c2,t2)->n'=m':=by
 intro n' m' b c1 t1 c2 t2 h1 h2;rcases bx h1 with ⟨e1,k1⟩|⟨_,h1⟩
 ·rcases bx h2 with ⟨e2,_⟩|⟨_,h2⟩
  ·exact e1.trans e2.symm
  ·rcases bx h2 with ⟨_,k2⟩|⟨_,h2⟩
   ·cases k1;cases k2;exact absurd O hx
   ·cases h2
 ·rcases bx h1 with ⟨e1,k1⟩|⟨_,h1⟩
  ·rcases bx h2 with ⟨_,k2⟩|⟨_,h2⟩
   ·cases k1;cases k2;exact absurd O hx
   ·rcases bx h2 with ⟨e2,_⟩|⟨_,h2⟩
    ·exact e1.trans e2.symm
    ·cases h2
  ·cases h1
def KsAt(w:World)(b s n:Nat)(K:Nat->L8):Prop:= ∀i,i<n->w.rangeAt b (0+s*i) ((K i).map U8)
theorem KsAt.up{w w':World}{b s n:Nat}{K:Nat->L8}(h:KsAt w b s n K)(hg:Grow w w'):KsAt w' b s n K:=λi hi=>EI (h i hi) hg
namespace J1
def gSm(p:Nat->GP):Nat->GP
 |0=>gK
 |i+1=>Jj (gSm p i) (p i)
def PEs(p:Nat->GP)(e:Nat->Int)(n:Nat):List (List Value):=(List.range n).map λ(k:Nat)=>[PtV (p k),I (e k)]
theorem sL(p:Nat->GP)(e:Nat->Int)(n:Nat):(PEs p e n).length=n:=by rw[PEs,List.length_map,List.length_range]
theorem xg(p:Nat->GP)(e:Nat->Int){n k:Nat}(h:k<n):(PEs p e n)[k]? =some [PtV (p k),I (e k)]:=by
 rw[PEs,List.getElem?_map,List.getElem?_range h];rfl
theorem Iv(p:Nat->GP)(e:Nat->Int){n k:Nat}{v:List Value}(h:(PEs p e n)[k]? =some v):k<n/\v=[PtV (p k),I (e k)]:=by
 have hk:k<n:=by
  rcases Nat.lt_or_ge k n with hk|hk
  ·exact hk
  ·rw[List.getElem?_eq_none (by rw[sL];exact hk)]at h;cases h
 exact ⟨hk,(Option.some.inj ((xg p e hk).symm.trans h)).symm⟩
structure RdK(b1 b2 b cap n:Nat)(K:Nat->L8)(w:World):Prop where
 l:w.cell? ⟨b1,0,none⟩=some (.slice (spt b) n cap)
 f:w.cell? ⟨b2,0,none⟩=some (.func (.func 131) #[] #[])
 k:KsAt w b 48 n K
def Vd(K:Nat->L8)(p:Nat->GP)(e:Nat->Int)(n:Nat):Prop:= ∀i,i<n->(K i).length=48/\PUR 131 [.agg ((K i).map U8).toArray] (.tuple #[PtV (p i),I (e i)])
theorem Io(a:Option Addr)(l c f:Nat)(w:World)(hw:Gt w):CLS 158 [.slice a l c,.func (.func f) #[] #[]].toArray w (λe w'=> ∃b1 b2,e=.returned (.func (.func 188) #[] #[pnt b1,pnt b2])/\Grow w w'/\w.heap.size<=b1/\w.heap.size<=b2/\b1≠b2/\OwnB w' b1 [.slice a l c] 31/\OwnB w' b2 [.func (.func f) #[] #[]] 194):=by
 refine Hf func158 O hw<|λhGF=>Xp<|gH 2 hGF O O O<|λb2=>gH 3 hGF O O O<|λb3=>Asg O<|aa<|Xp<|dV O O O O<|Asg O<|aa<|ao<|Rr<|?_;exact ar O O (λw hw=>⟨b2,b3,rfl,ae hw,(hw.own 2 b2 _ _ O).2.elim id False.elim,(hw.own 3 b3 _ _ O).2.elim id False.elim,λe=>(by subst e;exact absurd (hw.inj 2 3 _ _ _ _ _ O O) aC),(hw.own 2 b2 _ _ O).1,(hw.own 3 b3 _ _ O).1⟩)
theorem BY(b1 b2 b cap n:Nat)(hn:n<=1000)(K:Nat->L8)(p:Nat->GP)(e:Nat->Int)(hP:Vd K p e n):jH prog Gt 188 [pnt b1,pnt b2] (PEs p e n) (RdK b1 b2 b cap n K):=by
 intro l J Jx hJ hJx hRd hGx hY w hj;have okJ: ∀k,BOk Gt (Bi w (λY=>J Y k)):=λk=>⟨λ_ _ _ h=>(hRd _ _ _ h.rid).1,hJ k⟩;have okX: ∀k,BOk Gt (Bi w (λY=>Jx Y k)):=λk=>⟨λ_ _ _ h=>hGx _ _ _ h.rid,hJx k⟩;have c1: ∀k L w',Hp (Bi w (λY=>J Y k)) L w'->RdK b1 b2 b cap n K w':=λk L w' h=>(hRd _ _ _ h.rid).2;refine eM (G:=Gt) func188 O O (Hp (Bi w (λY=>J Y 0)) []) (cO (Bi w _) hj (hJ 0)) (aU (okJ 0))<|Xp<|aT O isAgg31 (λw h=>(c1 _ _ w h).l) O O<|bB O (λ_=>aO underlying31 _ _ _ _) O O<|Mv O<|aa<|au<|j0 (ι:={i:Nat // i<=n}) (λy=>[(0,.func (.yield l) #[] #[]),(1,pnt b1),(2,pnt b2),(6,.slice (spt b) n cap),(7,I (n:Int)),(8,I (y.1:Int))]) (λy=>Bi w (λY=>J Y y.1)) (λy=>[]) (λy=>n-y.1) ⟨0,Nat.zero_le _⟩ (λ_=>okJ _) O trv trivial<|?_;rintro ⟨i,hi⟩;dsimp only;refine Xp<|Bnr O O (λ_=>aI _ _ _)<|aa<|ah<|?_;refine cx O (λhc=> ?_) (λhc=> ?_)
 ·have hi2:i<n:=by simp at hc;omega
  refine aw<|ah<|au<|Xp<|gG (s:=48) i O O underlying31 sizeOf33 om om O O<|?_;have hKi:=(hP i hi2).1;refine az (cs:=(K i).map U8) O isAgg33 sizeOf33 (by rw[List.length_map];exact hKi) (λw h=>(c1 _ _ w h).k i hi2) O O<|Al 5 (okJ _) zv33<|λb5=>ai 5 (okJ _) O O O sizeOf33 (by rw[List.length_map];exact hKi) aB (bg _) O<|aa<|Xp<|Mv O<|aT O isAgg194 (λw h=>(c1 _ _ w h).f) O O<|aq 5 O O isAgg33 sizeOf33 (by rw[List.length_map];exact hKi) O O<|Cq O O ent131 (hP i hi2).2 (okJ _) O O O<|Exq O O<|Exq O O<|?_
  refine e5 (hY.b (k:=i) (xg p e hi2) w) (okJ _) (okX _) O O O O O ?_ ?_
  ·refine bV O (λ_=>bP _) O O<|aa<|aH O<|aw<|Xq<|Bnr O O (λ_=>ay _ _ _ aG)<|Mv O<|aa<|?_
   repeat (refine bh ?_)
   exact aY<|⟨rfl,⟨i+1,om⟩,_,by show n-(i+1)<n-i;omega,rfl,trv,trivial⟩
  ·refine bV O (λ_=>bP _) O O<|aa<|aQ O<|ao<|Rr<|?_
   repeat (first|refine iT ?_|refine iq ?_|refine ip O ?_|refine da ?_|refine db ?_)
   exact em O (λw hw=>⟨⟨_,rfl⟩,.inr ⟨_,di (hJx _) hw.rid⟩⟩)
 ·obtain rfl:i=n:=by simp at hc;omega
  refine bv ?_
  repeat (first|refine iT ?_|refine iq ?_|refine ip O ?_|refine da ?_|refine db ?_)
  refine ec O (λw hw=>⟨⟨_,rfl⟩,.inl ?_⟩);have:=di (hJ _) hw.rid;rw[sL];exact this
theorem yN:qX prog 191 "Add" 375:=λ_ _=>kr
theorem Bp(n:Nat)(h0:0<n)(hn:n<=512)(K:Nat->L8)(p:Nat->GP)(e:Nat->Int)(hP:Vd K p e n)(j:Nat)(hjn:j<=n)(he0: ∀i,i<j->e i=0)(heb:j<n->¬e j=0)(b cap:Nat)(w:World)(hw:Gt w)(hK:KsAt w b 48 n K):CLS 130 [.slice (spt b) n cap,.func (.func 131) #[] #[]].toArray w (λr w'=>r=.returned (.tuple #[PtV (if j=n then gSm p n else gK),I (if j=n then 0 else e j)])/\Grow w w'):=by
 have hGF:BOk Gt (pl w):=gt_low.plain hw;refine fc (G:=Gt) func130 O O (Hp (pl w) []) (cO (pl w) trivial aJ) (aU hGF)<|am (E:=EE [158])<|Al 4 hGF J1.zv191<|λb4=>Asg O<|aa<|jO<|am (E:=EE [158])<|Al 6 hGF J1.zv191<|λb6=>Al 7 hGF J1.zv191<|λb7=>aa<|ah<|am (E:=EE [158])<|Mv O<|bB O (λ_=>aO underlying31 _ _ _ _) O O<|Bnb false O O (λ_=>bK _ _ _) (beq_eq_false_iff_ne.2 om)<|Mv O<|Mv O<|bB O (λ_=>aO underlying31 _ _ _ _) O O<|Bnb false O O (λ_=>dE _ _ _) (decide_eq_false om)<|Pk O O O<|aa<|aH O<|aw<|am (E:=EE [158])<|oX 8 hGF zeroValue56 O O<|λb8=>cC 8 hGF O O O sizeOf56 O aC O<|aa<|ah<|mg<|ah<|am (E:=EE [158])<|Mv O<|Mv O<|?_;refine cn O O ent158 O O (λw' hw'=>(Io _ _ _ _ w' (hGF.g _ _ _ hw')).mono λe' w'' h=> ?_);obtain ⟨b1,b2,rfl,hg,h1,h2,h3,ho1,ho2⟩:=h;refine ⟨_,_,rfl,aU hGF,hw'.news aJ hg [(33,b1,[.slice (spt b) n cap],31),(34,b2,[.func (.func 131) #[] #[]],194)] ?_ (oe h3), ?_⟩
 ·intro n' b' c' t' hl
  rcases bx hl with ⟨_,e⟩|⟨_,hl⟩
  ·cases e;exact ⟨h1,ho1⟩
  rcases bx hl with ⟨_,e⟩|⟨_,hl⟩
  ·cases e;exact ⟨h2,ho2⟩
  ·cases hl
 clear hw' hg h1 h2 h3 ho1 ho2;refine aa<|au<|?_;refine A5 (λk=>k<=j) (λ_=>pl w) (λ_ _=>pl w) (λ_=>hGF) (λ_ _=>hGF) (λ_=>rfl) (λ_ _=>rfl) O O ent188 (BY b1 b2 b cap n om K p e hP) (λv hv=>by obtain ⟨k,hk,rfl⟩:=List.mem_map.1 hv;rfl) O (λk=>[(4,b4,(GL (gK)).map U64,191),(6,b6,(GL (gSm p k)).map U64,191),(7,b7,(GL (gK)).map U64,191),(8,b8,[I (0)],56),(33,b1,[.slice (spt b) n cap],31),(34,b2,[.func (.func 131) #[] #[]],194)]) (λcd _ L'=>cd=.exit 0/\j<n/\lB L' ([(4,b4,(GL (gK)).map U64,191),(6,b6,(GL (gK)).map U64,191),(7,b7,(GL (gK)).map U64,191),(8,b8,[I (e j)],56),(33,b1,[.slice (spt b) n cap],31),(34,b2,[.func (.func 131) #[] #[]],194)])) (Nat.zero_le _) trv (λk _ w' h=>⟨dC (n:=33) O O w' h,dC (n:=34) O O w' h,hK.up (h.below (λ_ h=>h))⟩) ?_ ?_ ?_ ?_
 ·intro k v hx hQ R hR
  obtain ⟨hk,rfl⟩:=Iv p e hx;rcases Nat.lt_or_ge k j with hkj|hkj
  ·have he:=he0 k hkj
   refine am (E:=EE [158])<|iM 9 (hR (pl w) O hGF).1 J1.zv191 O O<|λb9=>ai 9 (hR (pl w) O hGF).1 O O O sizeOf191 aB aB (be _) O<|aa<|cv (E:=EE [158])<|Asg O<|aa<|?_;refine ⟨rfl,_,rfl, ?_⟩;refine au<|am (E:=EE [158])<|Mv O<|aa<|au<|am (E:=EE [158])<|Bnb true O O (λ_=>bK _ _ _) ((by rw[he];rfl))<|Asg O<|aa<|aQ O<|cv (E:=EE [158])<|La 6 O O bJ<|lQ O underlying191 O O<|La 9 O O bJ<|uR O O yN O ent375 (Jg _ _) O O<|ai 6 (hR (pl w) O hGF).2.1 O O O sizeOf191 aB aB (be _) O<|aa<|?_
   repeat (refine bh ?_)
   exact ⟨_,rfl,L9 (Q:=λk=>k<=j) om ⟨rfl,rfl,rfl,rfl,rfl,rfl,trivial⟩⟩
  ·obtain rfl:k=j:=Nat.le_antisymm hQ hkj
   have he:=heb hk;refine am (E:=EE [158])<|iM 9 (hR (pl w) O hGF).1 J1.zv191 O O<|λb9=>ai 9 (hR (pl w) O hGF).1 O O O sizeOf191 aB aB (be _) O<|aa<|cv (E:=EE [158])<|Asg O<|aa<|?_;refine ⟨rfl,_,rfl, ?_⟩;refine au<|am (E:=EE [158])<|Mv O<|aa<|au<|am (E:=EE [158])<|Bnb false O O (λ_=>bK _ _ _) (beq_eq_false_iff_ne.2 he)<|Asg O<|aa<|aH O<|am (E:=EE [158])<|La 7 O O bJ<|Mv O<|ai 6 (hR (pl w) O hGF).2.1 O O O sizeOf191 aB aB (be _) O<|cC 8 (hR (pl w) O hGF).2.1 O O O sizeOf56 O aC O<|aa<|bv<|?_
   repeat (first|refine iq ?_|refine ip O ?_)
   exact ⟨_,rfl,rfl,hk,trv⟩
 ·intro hQ D hD
  rw[sL]at*;obtain rfl:j=n:=Nat.le_antisymm hjn hQ;refine ii (E:=EE [158]) (λX=>X=Hp (B2 (pl w) D) [(8,b8,[I (0)],56)]) (mkB [4]) (rkB [35]) [0,1,2,3] de O kr kr kr<|cw O O<|La 6 O O bJ<|aa<|mC (X:=Hp (B2 (pl w) D) [(8,b8,[I (0)],56)]) O (fN hD.r trv) (λ_=>rfl)<|aV 8 O O O isAgg56 O O<|aa<|gD O<|Sa 4 hD O O O bJ<|aa<|?_;refine ⟨λ_ X hX _=>by subst hX;exact fN hD.r trv, ?_⟩
  refine cw O O<|Asg O<|aa<|iH<|ao<|?_
  repeat (first|refine da ?_|refine db ?_|refine gr ?_)
  exact iD (.inl O) aJ (co 4 O O O O isAgg191 sizeOf191 aB (λw hw=>⟨by rw[if_pos O,if_pos O],ae hw⟩))
 ·intro D hb
  repeat (first|refine bh ?_|refine aY ?_|refine zz ?_)
  exact ub hb
 ·rintro D cd k L' hD ⟨rfl,hlt,hsub⟩
  refine I0 (fN hD.r hsub) (aU hD)<|ii (E:=EE [158]) (λX=>X=Hp (B2 (pl w) D) [(8,b8,[I (e j)],56)]) (mkB [4]) (rkB [35]) [0,1,2,3] de O kr kr kr<|cw O O<|La 6 O O bJ<|aa<|mC (X:=Hp (B2 (pl w) D) [(8,b8,[I (e j)],56)]) O (fN hD.r trv) (λ_=>rfl)<|aV 8 O O O isAgg56 O O<|aa<|gD O<|Sa 4 hD O O O bJ<|aa<|?_;refine ⟨λ_ X hX _=>by subst hX;exact fN hD.r trv, ?_⟩
  refine cw O O<|Asg O<|aa<|iH<|ao<|?_
  repeat (first|refine da ?_|refine db ?_|refine gr ?_)
  exact iD (.inl O) aJ (co 4 O O O O isAgg191 sizeOf191 aB (λw hw=>⟨by rw[if_neg om,if_neg om],ae hw⟩))
theorem Bz(n:Nat)(hn:n=0)(v:Value)(a:Option Addr)(cap:Nat)(w:World)(hw:Gt w):CLS 130 [.slice a n cap,v].toArray w (λr w'=>r=.returned (.tuple #[PtV gK,I 161])/\Grow w w'):=by
 refine Hf func130 O hw<|λhGF=>am (E:=EE [158])<|Al 4 hGF J1.zv191<|λb4=>Asg O<|aa<|jO<|am (E:=EE [158])<|Al 6 hGF J1.zv191<|λb6=>Al 7 hGF J1.zv191<|λb7=>aa<|ah<|am (E:=EE [158])<|Mv O<|bB O (λ_=>aO underlying31 _ _ _ _) O O<|Bnb true O O (λ_=>bK _ _ _) (beq_iff_eq.2 om)<|Mv O<|Sk<|Sk<|Sk<|Pk O O O<|aa<|aQ O<|am (E:=EE [158])<|La 7 O O bJ<|Sa 4 hGF O O O bJ<|Asg O<|aa<|ao<|?_
 repeat (first|refine da ?_|refine db ?_|refine gr ?_)
 exact co 4 O O O O isAgg191 sizeOf191 aB (λw hw=>⟨rfl,ae hw⟩)
theorem Ab(n:Nat)(hn:512<n)(v:Value)(a:Option Addr)(cap:Nat)(w:World)(hw:Gt w):CLS 130 [.slice a n cap,v].toArray w (λr w'=>r=.returned (.tuple #[PtV gK,I 161])/\Grow w w'):=by
 refine Hf func130 O hw<|λhGF=>am (E:=EE [158])<|Al 4 hGF J1.zv191<|λb4=>Asg O<|aa<|jO<|am (E:=EE [158])<|Al 6 hGF J1.zv191<|λb6=>Al 7 hGF J1.zv191<|λb7=>aa<|ah<|am (E:=EE [158])<|Mv O<|bB O (λ_=>aO underlying31 _ _ _ _) O O<|Bnb false O O (λ_=>bK _ _ _) (beq_eq_false_iff_ne.2 om)<|Mv O<|Mv O<|bB O (λ_=>aO underlying31 _ _ _ _) O O<|Bnb true O O (λ_=>dE _ _ _) (decide_eq_true om)<|Pk O O O<|aa<|aQ O<|am (E:=EE [158])<|La 7 O O bJ<|Sa 4 hGF O O O bJ<|Asg O<|aa<|ao<|?_
 repeat (first|refine da ?_|refine db ?_|refine gr ?_)
 exact co 4 O O O O isAgg191 sizeOf191 aB (λw hw=>⟨rfl,ae hw⟩)
end J1
theorem zv222(w:World):(zeroValue 222).run prog w=.ok (bj (List.replicate 36 0#64)) w:=(zeroValue222 w).trans aE
theorem KJ(w:World):(Instr.build 222 #[]).run prog w=.ok (bj (List.replicate 36 0#64)) w:=cY (c:=(List.replicate 36 0#64).map U64) zv222 underlying222 (ps:= #[(0,12),(12,12),(24,12)]) (λw=>by simp[sizeOf220]) [] O w
theorem IL:PUR 215 [] (bj (List.replicate 36 0#64)):=by
 intro w hw;refine Hf func215 O hw<|λhGF=>Xp<|Al 0 hGF zv222<|λb0=>aa<|Xp<|cj (ps:=[]) (vs:=[]) (v:=bj (List.replicate 36 0#64)) O (λw=>KJ w) O O<|Sa 0 hGF O O O v6<|aa<|ao<|Rr<|?_;exact aF 0 O O O isAgg222 sizeOf222 aB (λw' hw'=>⟨rfl,ae hw'⟩)
theorem rdv0:RdV (List.replicate 96 0#8) 96 0#8 101:=.inr ⟨rfl,.inr ⟨aC,.inr ⟨aC,.inr ⟨aC,rfl,rfl⟩⟩⟩⟩
theorem Gu(e:Option Addr)(cap:Nat)(hc:96<=cap)(w:World)(hw:Gt w)(hby:BytesAt w e (List.replicate 96 0#8)):CLS 195 [.slice e 96 cap].toArray w (λr w'=>r=.returned (.tuple #[bj (List.replicate 36 0#64),I 101])/\Grow w w'):=by
 refine Hf func195 O hw<|λhGF=>Xp<|Al 2 hGF zv222<|λb2=>Asg O<|aa<|Xp<|Mv O<|Cc O ent189 (λw' hC hG=>sH e cap 96 (List.replicate 96 0#8) aC aC hc 0#8 101 rdv0 w' hG (hby.grow (ae hC)))<|Mv O<|Exq O O<|Exq O O<|Asg O<|Asg O<|aa<|ah<|Xp<|Mv O<|Bnb true O O (λ_=>cJ _ _ _) (rfl)<|Mv O<|Sk<|Sk<|Sk<|Pk O O O<|aa<|aQ O<|Xp<|Ca O (IL)<|Mv O<|Sa 2 hGF O O O v6<|Asg O<|aa<|ao<|Rr<|?_;exact co 2 O O O O isAgg222 sizeOf222 aB (λw' hw'=>⟨rfl,ae hw'⟩)
theorem JW  :PUR 162 [.agg (((List.replicate 96 0#8)).map U8).toArray] (.tuple #[bj (List.replicate 36 0#64),I 101]):=by
 intro w hw;refine Hf func162 O hw<|λhGF=>Xp<|Bx 1 hGF O<|λb1=>Al 2 hGF zv222<|λb2=>Asg O<|aa<|Xp<|d9 (n:=96) O underlying67 sizeOf5 aC O O<|Cc O ent195 (λw' hC hG=>Gu _ 96 (Nat.le_refl _) w' hG (BytesAt.range (av (n:=1) O w' hC)))<|Exq O O<|Exq O O<|Sa 2 hGF O O O v6<|Asg O<|aa<|ao<|Rr<|?_;exact co 2 O O O O isAgg222 sizeOf222 aB (λw' hw'=>⟨rfl,ae hw'⟩)
theorem KB(t:J1.GP)(a:Option Addr)(l c:Nat):PUR 132 [J1.PtV t,.slice a l c,.agg (((List.replicate 96 0#8)).map U8).toArray] (I 101):=by
 intro w hw;refine Hf func132 O hw<|λhGF=>Xp<|Bx 3 hGF O<|λb3=>Bx 5 hGF O<|λb5=>Asg O<|aa<|Xp<|La 5 O O Lf<|Ca O (JW)<|Mv O<|Exq O O<|Exq O O<|Al 7 hGF zv222<|λb7=>Sa 7 hGF O O O v6<|Asg O<|aa<|ah<|Xp<|Mv O<|Bnb true O O (λ_=>cJ _ _ _) (rfl)<|aa<|aQ O<|Xp<|Mv O<|Asg O<|aa<|ao<|Rr<|?_;exact ar O O (λw' hw'=>⟨rfl,ae hw'⟩)
theorem rW(n:Nat)(a:Option Addr)(cap:Nat)(ma:Option Addr)(ml mc:Nat)(t:J1.GP)(c:Int)(h0: ¬c=0)(w:World)(hw:Gt w)(hS: ∀w',Gt w'->Grow w w'->CLS 130 [.slice a n cap,.func (.func 131) #[] #[]].toArray w' (λr w2=>r=.returned (.tuple #[J1.PtV t,I c])/\Grow w' w2)):CLS 95 [.slice a n cap,.slice ma ml mc,.agg (((List.replicate 96 0#8)).map U8).toArray].toArray w (λr w'=>r=.returned (I c)/\Grow w w'):=by
 refine Hf func95 O hw<|λhGF=>Xp<|Bx 5 hGF O<|λb5=>Asg O<|aa<|Xp<|Mv O<|Cc O ent130 (λw' hC hG=>hS w' hG (ae hC))<|Mv O<|Exq O O<|Exq O O<|Al 7 hGF J1.zv191<|λb7=>Sa 7 hGF O O O bJ<|Asg O<|aa<|ah<|Xp<|Mv O<|Bnb true O O (λ_=>cJ _ _ _) (bne_iff_ne.2 h0)<|aa<|aQ O<|Xp<|Mv O<|Asg O<|aa<|ao<|Rr<|?_;exact ar O O (λw' hw'=>⟨rfl,ae hw'⟩)
theorem HE(n:Nat)(a:Option Addr)(cap:Nat)(ma:Option Addr)(ml mc:Nat)(t:J1.GP)(w:World)(hw:Gt w)(hS: ∀w',Gt w'->Grow w w'->CLS 130 [.slice a n cap,.func (.func 131) #[] #[]].toArray w' (λr w2=>r=.returned (.tuple #[J1.PtV t,I 0])/\Grow w' w2)):CLS 95 [.slice a n cap,.slice ma ml mc,.agg (((List.replicate 96 0#8)).map U8).toArray].toArray w (λr w'=>r=.returned (I 101)/\Grow w w'):=by
 refine Hf func95 O hw<|λhGF=>Xp<|Bx 5 hGF O<|λb5=>Asg O<|aa<|Xp<|Mv O<|Cc O ent130 (λw' hC hG=>hS w' hG (ae hC))<|Mv O<|Exq O O<|Exq O O<|Al 7 hGF J1.zv191<|λb7=>Sa 7 hGF O O O bJ<|Asg O<|aa<|ah<|Xp<|Mv O<|Bnb false O O (λ_=>cJ _ _ _) (rfl)<|aa<|aH O<|aw<|Xp<|La 7 O O bJ<|Mv O<|La 5 O O Lf<|Ca O (KB t _ _ _)<|Asg O<|aa<|ao<|Rr<|?_;exact ar O O (λw' hw'=>⟨rfl,ae hw'⟩)
theorem q9(e:Nat->Int): ∀n,∃j,j<=n/\(∀i,i<j->e i=0)/\(j<n->¬e j=0)
 |0=>⟨0,Nat.le_refl _,λi h=>absurd h (Nat.not_lt_zero _),λh=>absurd h (Nat.not_lt_zero _)⟩
 |n+1=>by
  obtain ⟨j,h1,h2,h3⟩:=q9 e n;by_cases hj:j<n
  ·exact ⟨j,om,h2,λ_=>h3 hj⟩
  ·obtain rfl:j=n:=om
   by_cases h0:e j=0
   ·exact ⟨j+1,Nat.le_refl _,λi hi=>by
     rcases Nat.lt_or_ge i j with h|h
     ·exact h2 i h
     ·obtain rfl:i=j:=om
      exact h0,λh=>absurd h (Nat.lt_irrefl _)⟩
   ·exact ⟨j,om,h2,λ_=>h0⟩
theorem Kd(n:Nat)(K:Nat->L8)(hK: ∀i,i<n->(K i).length=48): ∃c:Int,¬c=0/\∀(a:Option Addr) (cap:Nat) (ma:Option Addr) (ml mc:Nat) (w:World),Gt w->(0<n->n<=512->∃b,a=some ⟨b,0,none⟩/\KsAt w b 48 n K)->
 CLS 95 [.slice a n cap,.slice ma ml mc,.agg (((List.replicate 96 0#8)).map U8).toArray].toArray w (λr w'=>r=.returned (I c)/\Grow w w'):=by
 rcases Nat.eq_zero_or_pos n with h0|h0
 ·exact ⟨161,aC,λa cap ma ml mc w hw _=>rW n a cap ma ml mc J1.gK 161 aC w hw (λw' hw' _=>J1.Bz n h0 _ a cap w' hw')⟩
 rcases Nat.lt_or_ge 512 n with h5|h5
 ·exact ⟨161,aC,λa cap ma ml mc w hw _=>rW n a cap ma ml mc J1.gK 161 aC w hw (λw' hw' _=>J1.Ab n h5 _ a cap w' hw')⟩
 have hx: ∀i,∃t c,i<n->PUR 131 [.agg ((K i).map U8).toArray] (.tuple #[J1.PtV t,I c]):=λi=>by
  by_cases h:i<n
  ·obtain ⟨t,c,k⟩:=JQ (K i) (hK i h)
   exact ⟨t,c,λ_=>k⟩
  ·exact ⟨J1.gK,0,λh'=>absurd h' h⟩
 obtain ⟨p,hp⟩: ∃p:Nat->J1.GP,∀i,∃c:Int,i<n->PUR 131 [.agg ((K i).map U8).toArray] (.tuple #[J1.PtV (p i),I c]):=⟨λi=>Classical.choose (hx i),λi=>Classical.choose_spec (hx i)⟩;obtain ⟨e,he⟩: ∃e:Nat->Int,∀i,i<n->PUR 131 [.agg ((K i).map U8).toArray] (.tuple #[J1.PtV (p i),I (e i)]):=⟨λi=>Classical.choose (hp i),λi=>Classical.choose_spec (hp i)⟩;have hP:J1.Vd K p e n:=λi hi=>⟨hK i hi,he i hi⟩;obtain ⟨j,h1,h2,h3⟩:=q9 e n;by_cases hj:j=n
 ·subst hj
  refine ⟨101,aC,λa cap ma ml mc w hw hm=> ?_⟩;obtain ⟨b,rfl,hk⟩:=hm h0 h5;refine HE j _ cap ma ml mc (J1.gSm p j) w hw (λw' hw' hg=> ?_);have:=J1.Bp j h0 h5 K p e hP j (Nat.le_refl _) h2 (λh=>absurd h (Nat.lt_irrefl _)) b cap w' hw' (hk.up hg);rw[if_pos O,if_pos O]at this;exact this
 ·refine ⟨e j,h3 om,λa cap ma ml mc w hw hm=> ?_⟩
  obtain ⟨b,rfl,hk⟩:=hm h0 h5;refine rW n _ cap ma ml mc J1.gK (e j) (h3 om) w hw (λw' hw' hg=> ?_);have:=J1.Bp n h0 h5 K p e hP j h1 h2 h3 b cap w' hw' (hk.up hg);rw[if_neg hj,if_neg hj]at this;exact this
end
section
open Go.RowKit
open Sh
theorem ent55:aL prog 55:=λ_ _=>kr
theorem ent56:aL prog 56:=λ_ _=>kr
theorem ent57:aL prog 57:=λ_ _=>kr
theorem ent58:aL prog 58:=λ_ _=>kr
theorem ent59:aL prog 59:=λ_ _=>kr
theorem ent60:aL prog 60:=λ_ _=>kr
theorem ent61:aL prog 61:=λ_ _=>kr
theorem ent62:aL prog 62:=λ_ _=>kr
theorem ent90:aL prog 90:=λ_ _=>kr
theorem ent92:aL prog 92:=λ_ _=>kr
theorem ent96:aL prog 96:=λ_ _=>kr
def ClC(c:Cf)(s:St)(u:Up)(n:BitVec 64):List Value:=c.cs++(s.cs++(u.cs++[U64 n]))
theorem Cl.l0{c:Cf}{s:St}{u:Up}{n:BitVec 64}: ∀j v,c.cs[j]? =some v->(ClC c s u n)[0+j]? =some v:=eI (pre:=[]) O
theorem Cl.l1{c:Cf}{s:St}{u:Up}{n:BitVec 64}(k:c.Ok): ∀j v,s.cs[j]? =some v->(ClC c s u n)[39+j]? =some v:=eI (Cf.len k)
theorem Cl.r2{c:Cf}{s:St}{u:Up}{n:BitVec 64}(k:c.Ok)(h:s.Ok): ∀j v,(u.cs++[U64 n])[j]? =some v->(ClC c s u n)[336+j]? =some v:=bu (o:=39) (p:=297) (eZ (Cf.len k)) (eZ (St.len h))
theorem Cl.l2{c:Cf}{s:St}{u:Up}{n:BitVec 64}(k:c.Ok)(h:s.Ok): ∀j v,u.cs[j]? =some v->(ClC c s u n)[336+j]? =some v:=bu (o:=336) (p:=0) (Cl.r2 k h) (eI (pre:=[]) O)
theorem Cl.l3{c:Cf}{s:St}{u:Up}{n:BitVec 64}(k:c.Ok)(h:s.Ok)(i:u.Ok): ∀j v,[U64 n][j]? =some v->(ClC c s u n)[1031+j]? =some v:=bu (o:=336) (p:=695) (Cl.r2 k h) (eZ (Up.len i))
theorem Ld(op:BinOp)(x y:Operand)(xs ys:Array Value)(w:World):(eqGuard op 30 x y (.agg xs) (.agg ys)).run prog w=.ok () w:=run_eqGuard_agg w op 30 x y xs ys kr
theorem Ge(w:World):(binOp .eql 30 (.agg Hdz.cs.toArray) (.agg Hdz.cs.toArray)).run prog w=.ok (.bool true) w:=kr
theorem wX(c:Cf)(hc_:c.Ok)(s:St)(_hs:s.Ok)(u:Up)(_hu:u.Ok)(n:BitVec 64) (p:Nat)(w:World)(hw:Gt w)(hr:w.rangeAt p 0 (ClC c s u n)):CLS 55 [pnt p].toArray w (λe w'=>e=.returned (I c.chk)/\Grow w w'):=by
 refine Hf func55 O hw<|λhGF=>Xp<|Asg O<|aa<|Xp<|Mv O<|aR O O O<|Fa 0 O underlying109 O sizeOf50<|aP (cs:=c.cs) O isAgg50 sizeOf50 (Cf.len hc_) (λw' h=>e8 hr (ae h) ((Cl.l0))) O O<|Cc O ent37 (λw' hw' hG=>rA c hc_ w' hG)<|Asg O<|aa<|ao<|Rr<|?_;exact ar O O (λw' hw'=>⟨rfl,ae hw'⟩)
theorem B4(c:Cf)(hc_:c.Ok)(s:St)(hs:s.Ok)(u:Up)(hu:u.Ok)(n:BitVec 64)(hln:u.sy.bs.length<=1000)(p:Nat)(w:World)(hw:Gt w)(hr:w.rangeAt p 0 (ClC c s u n))(hca:CellsAt w u.sy.ba (u.sy.bs.map .bool)):CLS 56 [pnt p].toArray w (λe w'=>e=.returned (I (bif decide ((onN u.sy.bs:Int)>0)then 0 else 232))/\Grow w w'):=by
 refine Hf func56 O hw<|λhGF=>Xp<|Asg O<|aa<|Xp<|Mv O<|aR O O O<|Fa 336 O underlying109 O sizeOf71<|Fa 933 O underlying71 O sizeOf69<|Fa 933 O underlying69 O sizeOf65<|aT (v:=.slice u.sy.ba u.sy.bs.length u.sy.bc) O isAgg65 (λw' h=>iB hr (ae h) ((bu (o:=933) (p:=0) (bu (o:=336) (p:=597) ((Cl.l2 hc_ hs)) (Up.l6 hu)) (Ag.a0)) 0 (.slice u.sy.ba u.sy.bs.length u.sy.bc) O)) O O<|Cc O ent89 (λw' hw' hG=>na u.sy.bs om _ _ w' hG (hca.grow (ae hw')))<|Bnr (v:=.bool (decide ((onN u.sy.bs:Int)>0))) O O (λ_=>dE _ (onN u.sy.bs:Int) 0)<|Cc O ent39 (λw' hw' hG=>mP (decide ((onN u.sy.bs:Int)>0)) 232 w' hG)<|Asg O<|aa<|ao<|Rr<|?_;exact ar O O (λw' hw'=>⟨rfl,ae hw'⟩)
theorem Mb(c:Cf)(hc_:c.Ok)(s:St)(hs:s.Ok)(u:Up)(hu:u.Ok)(n:BitVec 64)(h1:n<u.sl)(p:Nat)(w:World)(hw:Gt w)(hr:w.rangeAt p 0 (ClC c s u n)):CLS 57 [pnt p].toArray w (λe w'=>e=.returned (I 233)/\Grow w w'):=by
 refine Hf func57 O hw<|λhGF=>Xp<|Asg O<|aa<|Xp<|Mv O<|aR O O O<|Fa 336 O underlying109 O sizeOf71<|Asg O<|aa<|Xd []<|Mv O<|aR O O O<|Fa 1031 O underlying109 O sizeOf22<|aT (v:=U64 n) O isAgg22 (λw' h=>iB hr (ae h) (((Cl.l3 hc_ hs hu)) 0 (U64 n) O)) O O<|Mv O<|aR O O O<|Fa 1030 O underlying71 O sizeOf22<|aT (v:=U64 u.sl) O isAgg22 (λw' h=>iB hr (ae h) ((bu (o:=336) (p:=694) ((Cl.l2 hc_ hs)) (Up.l7 hu)) 0 (U64 u.sl) O)) O O<|Bnb false O O (λ_=>bS _ n u.sl) (decide_eq_false (by rw[BitVec.not_le];exact h1))<|Mv O<|Sk<|Sk<|Sk<|Sk<|Sk<|Sk<|Sk<|Sk<|Sk<|Sk<|Pk O O O<|Mv O<|Sk<|Sk<|Sk<|Sk<|Sk<|Sk<|Sk<|?_
 refine Sk<|Sk<|Sk<|Sk<|Pk O O O<|Cc O ent39 (λw' hw' hG=>mP (false) 233 w' hG)<|Asg O<|aa<|ao<|Rr<|?_;exact ar O O (λw' hw'=>⟨rfl,ae hw'⟩)
theorem JP(c:Cf)(hc_:c.Ok)(s:St)(hs:s.Ok)(u:Up)(hu:u.Ok)(n:BitVec 64)(h1: ¬n<u.sl)(h2:u.at_.s<u.sl)(h3: ¬u.at_.s<u.fi.s)(p:Nat)(w:World)(hw:Gt w)(hr:w.rangeAt p 0 (ClC c s u n)):CLS 57 [pnt p].toArray w (λe w'=>e=.returned (I 0)/\Grow w w'):=by
 refine Hf func57 O hw<|λhGF=>Xp<|Asg O<|aa<|Xp<|Mv O<|aR O O O<|Fa 336 O underlying109 O sizeOf71<|Asg O<|aa<|Xd []<|Mv O<|aR O O O<|Fa 1031 O underlying109 O sizeOf22<|aT (v:=U64 n) O isAgg22 (λw' h=>iB hr (ae h) (((Cl.l3 hc_ hs hu)) 0 (U64 n) O)) O O<|Mv O<|aR O O O<|Fa 1030 O underlying71 O sizeOf22<|aT (v:=U64 u.sl) O isAgg22 (λw' h=>iB hr (ae h) ((bu (o:=336) (p:=694) ((Cl.l2 hc_ hs)) (Up.l7 hu)) 0 (U64 u.sl) O)) O O<|Bnb true O O (λ_=>bS _ n u.sl) (decide_eq_true (BitVec.not_lt.1 h1))<|Mv O<|Mv O<|aR O O O<|Fa 1030 O underlying71 O sizeOf22<|aT (v:=U64 u.sl) O isAgg22 (λw' h=>iB hr (ae h) ((bu (o:=336) (p:=694) ((Cl.l2 hc_ hs)) (Up.l7 hu)) 0 (U64 u.sl) O)) O O<|Mv O<|aR O O O<|Fa 336 O underlying71 O sizeOf30<|Fa 336 O underlying30 O sizeOf22<|aT (v:=U64 u.at_.s) O isAgg22 (λw' h=>iB hr (ae h) ((bu (o:=336) (p:=0) (bu (o:=336) (p:=0) ((Cl.l2 hc_ hs)) (Up.l1)) (Hd.a_s)) 0 (U64 u.at_.s) O)) O O<|Bnb true O O (λ_=>eX _ u.sl u.at_.s) (decide_eq_true h2)<|Pk O O O<|Mv O<|Mv O<|aR O O O<|Fa 336 O underlying71 O sizeOf30<|Fa 336 O underlying30 O sizeOf22<|aT (v:=U64 u.at_.s) O isAgg22 (λw' h=>iB hr (ae h) ((bu (o:=336) (p:=0) (bu (o:=336) (p:=0) ((Cl.l2 hc_ hs)) (Up.l1)) (Hd.a_s)) 0 (U64 u.at_.s) O)) O O<|Mv O<|aR O O O<|?_;refine Fa 643 O underlying71 O sizeOf30<|Fa 643 O underlying30 O sizeOf22<|aT (v:=U64 u.fi.s) O isAgg22 (λw' h=>iB hr (ae h) ((bu (o:=643) (p:=0) (bu (o:=336) (p:=307) ((Cl.l2 hc_ hs)) (Up.l4 hu)) (Hd.a_s)) 0 (U64 u.fi.s) O)) O O<|Bnb true O O (λ_=>bS _ u.at_.s u.fi.s) (decide_eq_true (BitVec.not_lt.1 h3))<|Pk O O O<|Cc O ent39 (λw' hw' hG=>mP (true) 233 w' hG)<|Asg O<|aa<|ao<|Rr<|?_;exact ar O O (λw' hw'=>⟨rfl,ae hw'⟩)
theorem wW(c:Cf)(hc_:c.Ok)(s:St)(_hs:s.Ok)(u:Up)(_hu:u.Ok)(n:BitVec 64)(x:BitVec 64)(p:Nat)(w:World)(hw:Gt w)(hr:w.rangeAt p 0 (ClC c s u n)):CLS 90 [pnt p,U64 x].toArray w (λe w'=>e=.returned (U64 (c.pe x))/\Grow w w'):=by
 refine Hf func90 O hw<|λhGF=>Xp<|Asg O<|aa<|Xp<|Mv O<|aR O O O<|Fa 0 O underlying109 O sizeOf50<|aP (cs:=c.cs) O isAgg50 sizeOf50 (Cf.len hc_) (λw' h=>e8 hr (ae h) ((Cl.l0))) O O<|Mv O<|Cc O ent122 (λw' hw' hG=>mQ c hc_ x w' hG)<|Asg O<|aa<|ao<|Rr<|?_;exact ar O O (λw' hw'=>⟨rfl,ae hw'⟩)
theorem Kp(c:Cf)(hc_:c.Ok)(s:St)(hs:s.Ok)(u:Up)(hu:u.Ok)(n:BitVec 64)(x:BitVec 64)(p:Nat)(w:World)(hw:Gt w)(hr:w.rangeAt p 0 (ClC c s u n)):CLS 92 [pnt p,U64 x].toArray w (λe w'=>e=.returned (.bool (decide (c.pe x=c.pe s.f.s)))/\Grow w w'):=by
 refine Hf func92 O hw<|λhGF=>Xp<|Asg O<|aa<|Xd []<|Mv O<|Mv O<|Cc O ent90 (λw' hw' hG=>wW c hc_ s hs u hu n (x) p w' hG (cM hr (ae hw')))<|Mv O<|Mv O<|aR O O O<|Fa 39 O underlying109 O sizeOf53<|Fa 39 O underlying53 O sizeOf30<|Fa 39 O underlying30 O sizeOf22<|aT (v:=U64 s.f.s) O isAgg22 (λw' h=>iB hr (ae h) ((bu (o:=39) (p:=0) (bu (o:=39) (p:=0) ((Cl.l1 hc_)) (St.at_f)) (Hd.a_s)) 0 (U64 s.f.s) O)) O O<|Cc O ent90 (λw' hw' hG=>wW c hc_ s hs u hu n (s.f.s) p w' hG (cM hr (ae hw')))<|Bnr (v:=.bool (decide (c.pe x=c.pe s.f.s))) O O (λ_=>(bA _ (c.pe x) (c.pe s.f.s)).trans (by rw[m3]))<|Asg O<|aa<|ao<|Rr<|?_
 exact ar O O (λw' hw'=>⟨rfl,ae hw'⟩)
theorem Lo(c:Cf)(hc_:c.Ok)(s:St)(hs:s.Ok)(u:Up)(hu:u.Ok)(n:BitVec 64)(h4:c.pe u.sl=c.pe s.f.s)(p:Nat)(w:World)(hw:Gt w)(hr:w.rangeAt p 0 (ClC c s u n)):CLS 58 [pnt p].toArray w (λe w'=>e=.returned (I 0)/\Grow w w'):=by
 refine Hf func58 O hw<|λhGF=>Xp<|Asg O<|aa<|Xd []<|Mv O<|Mv O<|aR O O O<|Fa 39 O underlying109 O sizeOf53<|Fa 39 O underlying53 O sizeOf30<|Fa 39 O underlying30 O sizeOf22<|aT (v:=U64 s.f.s) O isAgg22 (λw' h=>iB hr (ae h) ((bu (o:=39) (p:=0) (bu (o:=39) (p:=0) ((Cl.l1 hc_)) (St.at_f)) (Hd.a_s)) 0 (U64 s.f.s) O)) O O<|Cc O ent90 (λw' hw' hG=>wW c hc_ s hs u hu n (s.f.s) p w' hG (cM hr (ae hw')))<|Mv O<|Mv O<|aR O O O<|Fa 336 O underlying109 O sizeOf71<|Fa 1030 O underlying71 O sizeOf22<|aT (v:=U64 u.sl) O isAgg22 (λw' h=>iB hr (ae h) ((bu (o:=336) (p:=694) ((Cl.l2 hc_ hs)) (Up.l7 hu)) 0 (U64 u.sl) O)) O O<|Cc O ent90 (λw' hw' hG=>wW c hc_ s hs u hu n (u.sl) p w' hG (cM hr (ae hw')))<|Asg O<|Asg O<|aa<|Xp<|Mv O<|Mv O<|Bnb true O O (λ_=>(bA _ (c.pe u.sl) (c.pe s.f.s)).trans (by rw[m3])) (decide_eq_true h4)<|Mv O<|Sk<|Sk<|Sk<|Sk<|Sk<|Sk<|Sk<|Sk<|Sk<|Sk<|Sk<|Sk<|?_
 refine Sk<|Sk<|Sk<|Sk<|Pk O O O<|Cc O ent39 (λw' hw' hG=>mP (true) 234 w' hG)<|Asg O<|aa<|ao<|Rr<|?_;exact ar O O (λw' hw'=>⟨rfl,ae hw'⟩)
theorem I4(c:Cf)(hc_:c.Ok)(s:St)(hs:s.Ok)(u:Up)(_hu:u.Ok)(n:BitVec 64)(h5:s.f.s<u.at_.s)(p:Nat)(w:World)(hw:Gt w)(hr:w.rangeAt p 0 (ClC c s u n)):CLS 59 [pnt p].toArray w (λe w'=>e=.returned (I 0)/\Grow w w'):=by
 refine Hf func59 O hw<|λhGF=>Xp<|Asg O<|aa<|Xd []<|Mv O<|aR O O O<|Fa 336 O underlying109 O sizeOf71<|Fa 336 O underlying71 O sizeOf30<|Fa 336 O underlying30 O sizeOf22<|aT (v:=U64 u.at_.s) O isAgg22 (λw' h=>iB hr (ae h) ((bu (o:=336) (p:=0) (bu (o:=336) (p:=0) ((Cl.l2 hc_ hs)) (Up.l1)) (Hd.a_s)) 0 (U64 u.at_.s) O)) O O<|Mv O<|aR O O O<|Fa 39 O underlying109 O sizeOf53<|Fa 39 O underlying53 O sizeOf30<|Fa 39 O underlying30 O sizeOf22<|aT (v:=U64 s.f.s) O isAgg22 (λw' h=>iB hr (ae h) ((bu (o:=39) (p:=0) (bu (o:=39) (p:=0) ((Cl.l1 hc_)) (St.at_f)) (Hd.a_s)) 0 (U64 s.f.s) O)) O O<|Bnb true O O (λ_=>eX _ u.at_.s s.f.s) (decide_eq_true h5)<|Mv O<|Sk<|Sk<|Pk O O O<|Cc O ent39 (λw' hw' hG=>mP (true) 235 w' hG)<|Asg O<|aa<|ao<|Rr<|?_;exact ar O O (λw' hw'=>⟨rfl,ae hw'⟩)
theorem Mm(c:Cf)(hc_:c.Ok)(s:St)(hs:s.Ok)(u:Up)(hu:u.Ok)(n:BitVec 64)(hisf:u.isf=false)(hfi:u.fi=Hdz)(p:Nat)(w:World)(hw:Gt w)(hr:w.rangeAt p 0 (ClC c s u n)):CLS 60 [pnt p].toArray w (λe w'=>e=.returned (I 0)/\Grow w w'):=by
 refine Hf func60 O hw<|λhGF=>Xp<|Asg O<|aa<|Xp<|Mv O<|aR O O O<|Fa 336 O underlying109 O sizeOf71<|Asg O<|aa<|Xp<|Mv O<|aR O O O<|Fa 643 O underlying71 O sizeOf30<|aP (cs:=u.fi.cs) O isAgg30 sizeOf30 (Hd.len hu.fi) (λw' h=>e8 hr (ae h) ((bu (o:=336) (p:=307) ((Cl.l2 hc_ hs)) (Up.l4 hu)))) O O<|?_;rw[hfi];refine cj (ps:=[]) (vs:=[]) (v:=.agg Hdz.cs.toArray) O (λw=>zH w) O O<|gW true O O (λw'=>Ld _ _ _ _ _ w') (λ_=>Ge _) (rfl) O O<|Asg O<|aa<|ah<|au<|Xp<|Mv O<|bV O (λ_=>bP _) O O<|Mv O<|Sk<|Sk<|Sk<|Sk<|Sk<|Sk<|Sk<|Sk<|Sk<|Sk<|Sk<|Sk<|Sk<|Pk O O O<|Asg O<|aa<|aH O<|Xp<|Mv O<|aR O O O<|aP (cs:=u.cs) O isAgg71 sizeOf71 (Up.len hu) (λw' h=>e8 hr (ae h) (((Cl.l2 hc_ hs)))) O O<|Cc O ent21 (λw' hw' hG=>jA u hu w' hG)<|?_;rw[hisf];refine bV O (λ_=>bP _) O O<|Asg O<|aa<|aQ O<|Xp<|Asg O<|aa<|ao<|Rr<|?_;exact ar O O (λw' hw'=>⟨rfl,ae hw'⟩)
theorem Lq(c:Cf)(hc_:c.Ok)(s:St)(hs:s.Ok)(u:Up)(hu:u.Ok)(n:BitVec 64)(hln:u.nx.ks.length<=1000)(hisn:u.isn=false)(hem:p8 u.nx=true)(p:Nat)(w:World)(hw:Gt w)(hr:w.rangeAt p 0 (ClC c s u n))(hun:RwsAt 48 w u.nx.ka u.nx.ks):CLS 61 [pnt p].toArray w (λe w'=>e=.returned (I 0)/\Grow w w'):=by
 refine Hf func61 O hw<|λhGF=>Xp<|Asg O<|aa<|Xp<|Mv O<|aR O O O<|Fa 336 O underlying109 O sizeOf71<|Asg O<|aa<|ah<|au<|Xp<|Mv O<|aR O O O<|aP (cs:=u.cs) O isAgg71 sizeOf71 (Up.len hu) (λw' h=>e8 hr (ae h) (((Cl.l2 hc_ hs)))) O O<|Cc O ent19 (λw' hw' hG=>nn u hu w' hG)<|?_;rw[hisn];refine bV O (λ_=>bP _) O O<|Asg O<|aa<|aQ O<|Xp<|Mv O<|aR O O O<|Fa 434 O underlying71 O sizeOf35<|aP (cs:=u.nx.cs) O isAgg35 sizeOf35 (Co.len hu.nx) (λw' h=>e8 hr (ae h) ((bu (o:=336) (p:=98) ((Cl.l2 hc_ hs)) (Up.l2 hu)))) O O<|Cc O ent53 (λw' hw' hG=>BV u.nx hu.nx om w' hG (hun.grow (ae hw')))<|?_;rw[hem];refine Cc O ent39 (λw' hw' hG=>mP (true) 236 w' hG)<|Asg O<|aa<|ao<|Rr<|?_;exact ar O O (λw' hw'=>⟨rfl,ae hw'⟩)
end
section
open Go.RowKit
open Sh
theorem tiKY:TI prog 33 (.agg ((Zs 48).map U8).toArray) 48 48:=lN kr
structure ApK(w0 w:World)(a:Option Addr)(cap:Nat)(L:List By):Prop where
 g:Gt w
 m:Grow w0 w
 s:SlW 33 48 w a cap L.length (L.flatten.map U8)
 o:New w0 a
 l: ∀x∈L,x.length=48
theorem ApK.low{w0 w:World}{a:Option Addr}{cap:Nat}{L:List By}(h:ApK w0 w a cap L)(hw:Gt w0): ∀k,Of a k->6<=k:=λk ⟨ad,e,hk⟩=>by
 subst hk;exact Nat.le_trans (gt_low.size w0 hw) (h.o ad e)
theorem ApK.next{w0 w w1 w2:World}{a a1:Option Addr}{cap cap1:Nat}{L:List By}{x:By}(h:ApK w0 w a cap L)(hx:x.length=48)(hg:Grow w w1)(g2:Gt w2)(hm:MM (Of a) w1 w2)(hs:SlW 33 48 w2 a1 cap1 (L.length+1) (L.flatten.map U8++x.map U8))(ho: ∀k,Of a1 k->Of a k\/w1.heap.size<=k):ApK w0 w2 a1 cap1 (L++[x]) where
 g:=g2
 m:=hm.grow0 (h.m.trans hg) λk ⟨ad,e,hk⟩=>by subst hk;exact h.o ad e
 s:=by rw[List.length_append,List.flatten_append,List.map_append];simpa using hs
 o:=λad e=>by
  rcases ho ad.block ⟨ad,e,rfl⟩with ⟨ad2,e2,e3⟩|h1
  ·rw[e3];exact h.o ad2 e2
  ·exact Nat.le_trans h.m.size (Nat.le_trans hg.size h1)
 l:=λy hy=>(List.mem_append.1 hy).elim (h.l y) λh=>by rw[List.mem_singleton.1 h];exact hx
theorem ApK.nil{w:World}(h:Gt w):ApK w w none 0 []:=⟨h,Grow.refl w,.inl ⟨rfl,rfl,rfl,rfl⟩,λ_ h=>(nomatch h),λ_ h=>(nomatch h)⟩
theorem qT: ∀(L:List By),(∀x∈L,x.length=48)->∀(i:Nat) (x:By),L[i]? =some x->(L.flatten.drop (48*i)).take 48=x
 |[],_,i,x,h=>by cases h
 |y::L,hL,0,x,h=>by
  cases h
  rw[Nat.mul_zero,List.drop_zero,List.flatten_cons,List.take_left' (hL _ aB)]
 |y::L,hL,i+1,x,h=>by
  rw[List.flatten_cons,show 48*(i+1)=y.length+48*i from by rw[hL y aB];omega,<-List.drop_drop,List.drop_left]
  exact qT L (λz hz=>hL z (List.mem_cons_of_mem _ hz)) i x h
theorem ApK.keys{w0 w:World}{a:Option Addr}{cap:Nat}{L:List By}(h:ApK w0 w a cap L)(h0:0<L.length): ∃b,a=some ⟨b,0,none⟩/\KsAt w b 48 L.length (λi=>L.getD i []):=by
 rcases h.s with ⟨_,_,h1,_⟩|⟨b,c,rfl,ho,_,_,hl,ht⟩
 ·omega
 ·refine ⟨b,rfl,λi hi j v hv=> ?_⟩
  have hx:L[i]? =some (L.getD i []):=by rw[List.getD_eq_getElem?_getD,List.getElem?_eq_getElem hi];rfl
  have h1:=qT L h.l i _ hx;have h48:=h.l _ (List.mem_of_getElem? hx);have hj:j<48:=by have:=(List.getElem?_eq_some_iff.1 hv).1;rw[List.length_map,h48]at this;exact this
  have hf:(L.flatten.map U8)[48*i+j]? =some v:=by
   rw[List.getElem?_map]at hv⊢;rw[show L.flatten[48*i+j]? =(L.getD i [])[j]? from by rw[<-h1,List.getElem?_take,if_pos hj,List.getElem?_drop]]
   exact hv
  have hlt:48*i+j<(L.flatten.map U8).length:=(List.getElem?_eq_some_iff.1 hf).1;rw[<-ht,List.getElem?_take]at hf;rw[ho.cell,Nat.zero_add];revert hf;rw[if_pos hlt];exact id
theorem ApK.grow{w0 w w2:World}{a:Option Addr}{cap:Nat}{L:List By}(h:ApK w0 w a cap L)(hg:Grow w w2)(g2:Gt w2):ApK w0 w2 a cap L:=⟨g2,h.m.trans hg,h.s.grow hg,h.o,h.l⟩
theorem LD(ks:List By)(hks: ∀k∈ks,k.length=48)(hkl:ks.length<=1000)(bs:List Bool)(_hbl:bs.length<=1000)(ka ba:Option Addr)(kc bc:Nat)(w:World)(hw:Gt w)(hrw:RwsAt 48 w ka ks)(hca:CellsAt w ba (bs.map .bool)):CLS 96 [.slice ka ks.length kc,.slice ba bs.length bc].toArray w (λe w'=> ∃a cap L,e=.returned (.slice a (L:List By).length cap)/\ApK w w' a cap L):=by
 refine Hf func96 O hw<|λhGF=>Xp<|Asg O<|aa<|Xp<|Asg O<|aa<|ah<|Xp<|Mv O<|bB O (λ_=>aO underlying31 _ _ _ _) O O<|Mv O<|aa<|au<|j8 gt_low (ι:={x:(Nat×World×Option Addr×Nat)×List By // x.1.1<=ks.length/\x.2.length<=x.1.1/\ApK w x.1.2.1 x.1.2.2.1 x.1.2.2.2 x.2}) (λx=>[(1,.slice ba bs.length bc),(5,.slice x.1.1.2.2.1 x.1.2.length x.1.1.2.2.2),(8,.slice ka ks.length kc),(9,I (ks.length:Int)),(10,I (x.1.1.1:Int))]) (λx=>x.1.1.2.1) (λx=>ks.length-x.1.1.1) ⟨((0,w,none,0),[]),Nat.zero_le _,Nat.le_refl _,ApK.nil hw⟩ (λx=>x.2.2.2.g) O trv<|?_;rintro ⟨⟨⟨k,wk,ak,ck'⟩,L⟩,hk0,hLk,hA⟩;dsimp only at hk0 hLk hA⊢;have hGF:BOk Gt (pl wk):=gt_low.plain hA.g;refine Xp<|Bnr O O (λ_=>aI _ _ _)<|aa<|ah<|?_;refine cx O (λhc=> ?_) (λhc=> ?_)
 ·have hlt:k<ks.length:=(by simp at hc;omega)
  clear hc;obtain ⟨x,hx⟩: ∃x,ks[k]? =some x:=⟨_,List.getElem?_eq_getElem hlt⟩;have hxl:=hks x (List.mem_of_getElem? hx);refine aw<|ah<|au<|Xp<|Mv O<|?_;obtain ⟨ad,hae,hcell⟩:=(hrw.grow hA.m) k x hx;refine dJ (ad:=ad) k 48 (by rw[<-hae];rfl) O underlying31 sizeOf33 O hlt O O<|aP (cs:=x.map U8) O isAgg33 sizeOf33 (by rw[List.length_map];exact hxl) (λw' h j v hv=>((ae h).cell (block_lt_of_cell (hcell j v hv))).trans (hcell j v hv)) O O<|Al 7 hGF BC<|λb7=>Asg O<|ai 7 hGF O O O sizeOf33 (by rw[List.length_map];exact hxl) (by rw[List.length_map];rfl) (bg _) O<|aa<|Xp<|Mv O<|Mv O<|bB O (λ_=>aO underlying65 _ _ _ _) O O<|?_
  rcases Bool.eq_false_or_eq_true (decide ((k:Int)<(bs.length:Int)))with hlq|hlq
  ·have hlk:k<bs.length:=by have:=of_decide_eq_true hlq;omega
   obtain ⟨y,hy⟩: ∃y,bs[k]? =some y:=⟨_,List.getElem?_eq_getElem hlk⟩;refine Bnb true O O (λ_=>aI _ (k:Int) (bs.length:Int)) (hlq)<|Mv O<|Mv O<|Mv O<|?_;obtain ⟨ad2,hae2,hcell2⟩:=(hca.grow hA.m) k (.bool y) (by rw[List.getElem?_map,hy];rfl)
   refine dJ (ad:=ad2) k 1 (by rw[<-hae2];rfl) O underlying65 sizeOf4 O hlk O O ?_
   rcases Bool.eq_false_or_eq_true y with hq|hq
   ·refine aT (v:=.bool true) O isAgg4 (λw' h=>by rw[Nat.mul_one];have h9:=((ae h).cell (block_lt_of_cell hcell2)).trans hcell2;rw[hq]at h9;exact h9) O O<|Pk O O O<|aa<|aQ O<|Xq<|Mv O<|aq 7 O O isAgg33 sizeOf33 (by rw[List.length_map];exact hxl) O O<|ig 27 (x.map U8) hGF O (by rw[List.length_map];exact hxl) aC aC underlying31 sizeOf33 BC O O<|?_
    intro b27;refine j2 (ys:=x.map U8) gt_low (λw' h=>hGF.g _ _ _ h) O O underlying31 underlying31 tiKY (by simp[Value.cells,Zs]) (λw' h=>hA.s.grow (ae h)) (hA.low hw) (by rw[List.length_map];exact hxl) (av (n:=27) O) (bg _) (λw' h hof=>absurd (hA.s.lt _ hof) (Nat.not_lt.2 ((h.own 27 _ _ _ O).2.elim id False.elim))) om om O O (λw1 w2 a1 cap1 hC g2 hm hs1 ho=> ?_)
    have hA2:=hA.next hxl (ae hC) g2 hm hs1 ho
    have hGF:BOk Gt (pl w2):=gt_low.plain g2;refine Asg O<|aa<|Xq<|Bnr (v:=I (((k+1:Nat):Int))) O O (λ_=>(ay _ _ _ aG).trans aE)<|Mv O<|aa<|?_
    repeat (refine bh ?_)
    exact aY<|⟨rfl,⟨((k+1,w2,a1,cap1),L++[x]),hlt,by rw[List.length_append];exact Nat.succ_le_succ hLk,hA2⟩,by show ks.length-(k+1)<ks.length-k;omega,rfl,⟨rfl,by show some (Value.slice a1 (L.length+1) cap1)=some (Value.slice a1 (L++[x]).length cap1);rw[List.length_append];rfl,rfl,rfl,rfl,trivial⟩⟩
   ·refine aT (v:=.bool false) O isAgg4 (λw' h=>by rw[Nat.mul_one];have h9:=((ae h).cell (block_lt_of_cell hcell2)).trans hcell2;rw[hq]at h9;exact h9) O O<|Pk O O O<|aa<|aH O<|aw<|?_
    refine eR gt_low (λw4 hC4 g4=> ?_);refine Xq<|Bnr (v:=I (((k+1:Nat):Int))) O O (λ_=>(ay _ _ _ aG).trans aE)<|Mv O<|aa<|?_
    repeat (refine bh ?_)
    exact aY<|⟨rfl,⟨((k+1,w4,ak,ck'),L),hlt,Nat.le_succ_of_le hLk,hA.grow (ae hC4) g4⟩,by show ks.length-(k+1)<ks.length-k;omega,rfl,trv⟩
  ·refine Bnb false O O (λ_=>aI _ (k:Int) (bs.length:Int)) (hlq)<|Mv O<|Sk<|Sk<|Sk<|Sk<|Pk O O O<|aa<|aH O<|aw<|?_
   refine eR gt_low (λw4 hC4 g4=> ?_);refine Xq<|Bnr (v:=I (((k+1:Nat):Int))) O O (λ_=>(ay _ _ _ aG).trans aE)<|Mv O<|aa<|?_
   repeat (refine bh ?_)
   exact aY<|⟨rfl,⟨((k+1,w4,ak,ck'),L),hlt,Nat.le_succ_of_le hLk,hA.grow (ae hC4) g4⟩,by show ks.length-(k+1)<ks.length-k;omega,rfl,trv⟩
 ·have hke:k=ks.length:=(by simp at hc;omega)
  clear hc;refine bv<|Xp<|Mv O<|Asg O<|aa<|ao<|Rr<|?_;exact ar O O (λw' hw'=>⟨ak,ck',L,rfl,hA.grow (ae hw') (hGF.g _ _ _ hw')⟩)
end
section
open Go.RowKit
open Sh
theorem MC(c:Cf)(hc_:c.Ok)(s:St)(hs:s.Ok)(u:Up)(hu:u.Ok)(n:BitVec 64)(hln:s.nw.ks.length<=1000)(hlb:u.sy.bs.length<=1000)(h4:c.pe u.sl=c.pe s.f.s)(hsg:u.sy.sig=Zs 96)(p:Nat)(w:World)(hw:Gt w)(hr:w.rangeAt p 0 (ClC c s u n))(hnw:RwsAt 48 w s.nw.ka s.nw.ks)(hca:CellsAt w u.sy.ba (u.sy.bs.map .bool)):CLS 62 [pnt p].toArray w (λe w'=>e=.returned (I 238)/\Grow w w'):=by
 have h4d:decide (c.pe u.sl=c.pe s.f.s)=true:=decide_eq_true h4;refine Hf func62 O hw<|λhGF=>am (E:=EE [94,2000094,96,2000096])<|Asg O<|aa<|am (E:=EE [94,2000094,96,2000096])<|Mv O<|aR O O O<|Fa 336 O underlying109 O sizeOf71<|Asg O<|aa<|am (E:=EE [94,2000094,96,2000096])<|Mv O<|aR O O O<|Fa 39 O underlying109 O sizeOf53<|Fa 284 O underlying53 O sizeOf35<|aP (cs:=s.nx.cs) O isAgg35 sizeOf35 (Co.len hs.nx) (λw' h=>e8 hr (ae h) ((bu (o:=39) (p:=245) ((Cl.l1 hc_)) (St.at_nx hs)))) O O<|Al 4 hGF zv35<|λb4=>ai 4 hGF O O O sizeOf35 (Co.len hs.nx) (Co.len kt) (Co.one _) O<|aa<|ah<|am (E:=EE [94,2000094,96,2000096])<|Mv O<|Mv O<|aR O O O<|Fa 1030 O underlying71 O sizeOf22<|aT (v:=U64 u.sl) O isAgg22 (λw' h=>iB hr (ae h) ((bu (o:=336) (p:=694) ((Cl.l2 hc_ hs)) (Up.l7 hu)) 0 (U64 u.sl) O)) O O<|Cc O ent92 (λw' hw' hG=>Kp c hc_ s hs u hu n u.sl p w' hG (cM hr (ae hw')))<|?_;rw[h4d];refine aa<|aQ O<|cv (E:=EE [94,2000094,96,2000096])<|Mv O<|aR O O O<|Fa 39 O underlying109 O sizeOf53<|Fa 235 O underlying53 O sizeOf35<|aP (cs:=s.nw.cs) O isAgg35 sizeOf35 (Co.len hs.nw) (λw' h=>e8 hr (ae h) ((bu (o:=39) (p:=196) ((Cl.l1 hc_)) (St.at_nw hs)))) O O<|ai 4 hGF O O O sizeOf35 (Co.len hs.nw) (Co.len hs.nx) (Co.one _) O<|aa<|Xd [94,2000094,96,2000096]<|Mv O<|aR O O O<|Fa 0 O underlying109 O sizeOf50<|aP (cs:=c.cs) O isAgg50 sizeOf50 (Cf.len hc_) (λw' h=>e8 hr (ae h) ((Cl.l0))) O O<|Mv O<|aR O O O<|Fa 336 O underlying71 O sizeOf30<|aP (cs:=u.at_.cs) O isAgg30 sizeOf30 (Hd.len hu.at_) (λw' h=>e8 hr (ae h) ((bu (o:=336) (p:=0) ((Cl.l2 hc_ hs)) (Up.l1)))) O O<|?_;refine er O O ent94 O O (λw' hw'=>(y0 c u.at_ hc_ hu.at_ w' (hGF.g _ _ _ hw')).mono λe1 w2 h=> ?_);obtain ⟨bm_,cm_,km_,rfl,hgm,hnm,_⟩:=h;refine ⟨_,_,rfl,aU hGF,hw'.news aJ hgm [] (λ_ _ _ _ h=>by cases h) (λ_ _ _ _ _ _ _ h=>by cases h),λ_ h=>h, ?_⟩
 clear hw' hgm hnm;refine Asg O<|aa<|lO (E:=EE [94,2000094,96,2000096]) [0,1,2,3,4,5,6,8,9,10,11,12,13,7,14,15,16,17] de O kr kr kr<|Fa 0 O underlying35 O sizeOf31<|aV 4 O O (show s.nw.cs[0]? =some (.slice s.nw.ka s.nw.ks.length s.nw.kc)from O) isAgg31 O O<|Mv O<|aR O O O<|Fa 933 O underlying71 O sizeOf69<|Fa 933 O underlying69 O sizeOf65<|aT (v:=.slice u.sy.ba u.sy.bs.length u.sy.bc) O isAgg65 (λw' h=>iB hr (ae h) ((bu (o:=933) (p:=0) (bu (o:=336) (p:=597) ((Cl.l2 hc_ hs)) (Up.l6 hu)) (Ag.a0)) 0 (.slice u.sy.ba u.sy.bs.length u.sy.bc) O)) O O<|Mv O<|Mv O<|aR O O O<|Fa 933 O underlying71 O sizeOf69<|Fa 934 O underlying69 O sizeOf67<|aP (cs:=u.sy.sig.map U8) O isAgg67 sizeOf67 (by rw[List.length_map];exact hu.sy.sig) (λw' h=>e8 hr (ae h) ((bu (o:=933) (p:=1) (bu (o:=336) (p:=597) ((Cl.l2 hc_ hs)) (Up.l6 hu)) (Ag.a_sig)))) O O<|?_
 rw[hsg];refine er O O ent96 O O (λw' hw'=>(LD s.nw.ks hs.nw.ks hln u.sy.bs hlb _ _ _ _ w' (hGF.g _ _ _ hw') (hnw.grow (ae hw')) (hca.grow (ae hw'))).mono λe1 w2 h=> ?_);obtain ⟨a7,k7,L7,rfl,hA⟩:=h;obtain ⟨cc,hc0,hcall⟩:=Kd L7.length (λi=>L7.getD i []) (λi hi=>hA.l _ (kZ hi));refine ⟨_,λw1=>Hp (pl w) _ w1/\Grow w2 w1,rfl,bQ (aU hGF) (λ_ _ x g=>x.trans g),⟨hw'.grow hGF.r hA.m,Grow.refl _⟩,λ_ h=>h.1, ?_⟩;clear hw';refine Cc O ent95 (λw' hw' hG=>hcall _ _ _ _ _ w' hG (λh0 _=>by obtain ⟨b7,e7,y7⟩:=hA.keys h0;exact ⟨b7,e7,y7.up hw'.2⟩))<|Bnb false O O (λ_=>bK _ cc 0) (decide_eq_false hc0)<|Cc O ent39 (λw' hw' hG=>mP (false) 238 w' hG)<|Asg O<|aa<|ao<|Rr<|?_
 exact ar O O (λw' hw'=>⟨rfl,ae hw'.1⟩)
theorem LP(c:Cf)(hc_:c.Ok)(s:St)(hs:s.Ok)(u:Up)(hu:u.Ok)(n:BitVec 64)(w:World):(Instr.build 109 #[(0,.agg c.cs.toArray),(1,.agg s.cs.toArray),(2,.agg u.cs.toArray),(3,U64 n)]).run prog w=.ok (.agg (ClC c s u n).toArray) w:=
 cY (c:=[]++(((Zs 36).map U8++[U64 0#64,U64 0#64,I 0])++(St0.cs++(Up0.cs++([U64 0#64]++[]))))) (ps:= #[(0,39),(39,297),(336,695),(1031,1)]) (λw=>(zeroValue109 w).trans aE) underlying109 (λw=>by simp[sizeOf50,sizeOf53,sizeOf71,sizeOf22]) [(0,.agg c.cs.toArray),(1,.agg s.cs.toArray),(2,.agg u.cs.toArray),(3,U64 n)] (by
  rw[dy (pre:=[]) (old:=((Zs 36).map U8++[U64 0#64,U64 0#64,I 0])) (vs:=c.cs) O O (by rw[Cf.len hc_];rfl),dy (pre:=[]++c.cs) (old:=St0.cs) (vs:=s.cs) (by rw[List.nil_append,Cf.len hc_];rfl) O (by rw[St.len hs];rfl),
   dy (pre:=[]++c.cs++s.cs) (old:=Up0.cs) (vs:=u.cs) (by rw[List.nil_append,List.length_append,Cf.len hc_,St.len hs];rfl) O (by rw[Up.len hu];rfl),
   dy (pre:=[]++c.cs++s.cs++u.cs) (old:=[U64 0#64]) (vs:=[U64 n]) (by rw[List.nil_append,List.length_append,List.length_append,Cf.len hc_,St.len hs,Up.len hu];rfl) O O]
  simp[Instr.fill,ClC]) w
theorem rE(c:Cf)(s:St)(u:Up)(n:BitVec 64)(hc_:c.Ok)(hs:s.Ok)(hu:u.Ok)(r:Int)(w:World)(hw:Gt w)(hF: ∀p w',Grow w w'->w'.rangeAt p 0 (ClC c s u n)->Fst w' [.func (.func 55) #[pnt p] #[],.func (.func 56) #[pnt p] #[],.func (.func 57) #[pnt p] #[],.func (.func 58) #[pnt p] #[],.func (.func 59) #[pnt p] #[],.func (.func 60) #[pnt p] #[],.func (.func 61) #[pnt p] #[],.func (.func 62) #[pnt p] #[]] r):CLS 25 [.agg c.cs.toArray,.agg s.cs.toArray,.agg u.cs.toArray,U64 n].toArray w (λe w'=>e=.returned (I r)/\Grow w w'):=by
 refine Hf func25 O hw<|λhGF=>Xp<|Bx 4 hGF O<|λb4=>Bx 5 hGF O<|λb5=>Bx 6 hGF O<|λb6=>Asg O<|aa<|Xp<|az (cs:=c.cs) O isAgg50 sizeOf50 (Cf.len hc_) (λw' hw' j v hv=>by have:=(av (n:=4) O w' hw') _ v (Cf.all j v hv);rwa [Nat.zero_add]at this) O O<|az (cs:=s.cs) O isAgg53 sizeOf53 (St.len hs) (λw' hw' j v hv=>by have:=(av (n:=5) O w' hw') _ v (d6 j v hv);rwa [Nat.zero_add]at this) O O<|az (cs:=u.cs) O isAgg71 sizeOf71 (Up.len hu) (λw' hw' j v hv=>by have:=(av (n:=6) O w' hw') _ v (d6 j v hv);rwa [Nat.zero_add]at this) O O<|Mv O<|cj (ps:=[(0,.tmp 10),(1,.tmp 11),(2,.tmp 12),(3,.tmp 13)]) (vs:=[.agg c.cs.toArray,.agg s.cs.toArray,.agg u.cs.toArray,U64 n]) (v:=.agg (ClC c s u n).toArray) O (λw=>LP c hc_ s hs u hu n w) O O<|Bx 15 hGF O<|λb15=>Asg O<|aa<|Xp<|Mv O<|dV O O O O<|Mv O<|dV O O O O<|Mv O<|dV O O O O<|Mv O<|dV O O O O<|Mv O<|dV O O O O<|Mv O<|dV O O O O<|Mv O<|dV O O O O<|Mv O<|dV O O O O<|iF 32 [.func (.func 55) #[pnt b15] #[],.func (.func 56) #[pnt b15] #[],.func (.func 57) #[pnt b15] #[],.func (.func 58) #[pnt b15] #[],.func (.func 59) #[pnt b15] #[],.func (.func 60) #[pnt b15] #[],.func (.func 61) #[pnt b15] #[],.func (.func 62) #[pnt b15] #[]] hGF O O O aC aC underlying142 sizeOf92 zeroValue92 O O O<|λb32=>Cc O ent44 (λw' hw' hG=>E8 [.func (.func 55) #[pnt b15] #[],.func (.func 56) #[pnt b15] #[],.func (.func 57) #[pnt b15] #[],.func (.func 58) #[pnt b15] #[],.func (.func 59) #[pnt b15] #[],.func (.func 60) #[pnt b15] #[],.func (.func 61) #[pnt b15] #[],.func (.func 62) #[pnt b15] #[]] (by show 8<=1000;decide) _ 8 r w' hG (CellsAt.range (av (n:=32) O w' hw')) (hF b15 w' (ae hw') (av (n:=15) O w' hw')))<|Asg O<|aa<|ao<|Rr<|?_
 exact ar O O (λw' hw'=>⟨rfl,ae hw'⟩)
theorem fa{w:World}{f:Nat}{p:Nat}{a:Int}(he:aL prog f)(h: ∀w1,Grow w w1->Gt w1->CLS f [pnt p].toArray w1 (λe w2=>e=.returned (I a)/\Grow w1 w2)):FnA w (.func (.func f) #[pnt p] #[]) a:=⟨f,[pnt p],[],rfl,he,h⟩
theorem pvS(c:Cf)(s:St)(u:Up)(n:BitVec 64)(hc_:c.Ok)(hs:s.Ok)(hu:u.Ok)(_hV:VB s u)(hrt:c.rt=false)(w:World)(hw:Gt w)(_hM:VM w s u):CLS 25 [.agg c.cs.toArray,.agg s.cs.toArray,.agg u.cs.toArray,U64 n].toArray w (λe w'=>e=.returned (I 210)/\Grow w w'):=
 rE c s u n hc_ hs hu 210 w hw λp w' hgw hr=>by
  have h1:FnA w' _ c.chk:=fa ent55 λw1 hg hG=>wX c hc_ s hs u hu n p w1 hG (cM hr hg);rw[show c.chk=210 from by rw[Cf.chk,hrt];rfl]at h1
  exact h1.no aC
theorem pvF(c:Cf)(s:St)(u:Up)(n:BitVec 64)(hc_:c.Ok)(hs:s.Ok)(hu:u.Ok)(hV:VB s u)(hrt:c.rt=true)(hon:onN u.sy.bs=0)(w:World)(hw:Gt w)(hM:VM w s u):CLS 25 [.agg c.cs.toArray,.agg s.cs.toArray,.agg u.cs.toArray,U64 n].toArray w (λe w'=>e=.returned (I 232)/\Grow w w'):=
 rE c s u n hc_ hs hu 232 w hw λp w' hgw hr=>by
  have h1:FnA w' _ c.chk:=fa ent55 λw1 hg hG=>wX c hc_ s hs u hu n p w1 hG (cM hr hg);rw[show c.chk=0 from by rw[Cf.chk,hrt];rfl]at h1
  have h2:FnA w' _ (bif decide ((onN u.sy.bs:Int)>0)then 0 else 232):=fa ent56 λw1 hg hG=>B4 c hc_ s hs u hu n hV.2.2.2 p w1 hG (cM hr hg) (hM.2.2.2.grow (hgw.trans hg))
  rw[hon]at h2;exact h1.ok (FnA.no h2 aC)
theorem pvE(c:Cf)(s:St)(u:Up)(n:BitVec 64)(hc_:c.Ok)(hs:s.Ok)(hu:u.Ok)(hV:VB s u)(hrt:c.rt=true)(hon:onN u.sy.bs≠0)(hns:n<u.sl)(w:World)(hw:Gt w)(hM:VM w s u):CLS 25 [.agg c.cs.toArray,.agg s.cs.toArray,.agg u.cs.toArray,U64 n].toArray w (λe w'=>e=.returned (I 233)/\Grow w w'):=
 rE c s u n hc_ hs hu 233 w hw λp w' hgw hr=>by
  have h1:FnA w' _ c.chk:=fa ent55 λw1 hg hG=>wX c hc_ s hs u hu n p w1 hG (cM hr hg);rw[show c.chk=0 from by rw[Cf.chk,hrt];rfl]at h1
  have h2:FnA w' _ (bif decide ((onN u.sy.bs:Int)>0)then 0 else 232):=fa ent56 λw1 hg hG=>B4 c hc_ s hs u hu n hV.2.2.2 p w1 hG (cM hr hg) (hM.2.2.2.grow (hgw.trans hg))
  rw[decide_eq_true (show (onN u.sy.bs:Int)>0 by omega)]at h2
  have h3:FnA w' _ 233:=fa ent57 λw1 hg hG=>Mb c hc_ s hs u hu n hns p w1 hG (cM hr hg);exact h1.ok (FnA.ok h2 (h3.no aC))
theorem pvW(c:Cf)(s:St)(u:Up)(n:BitVec 64)(hc_:c.Ok)(hs:s.Ok)(hu:u.Ok)(hV:VB s u)(hrt:c.rt=true)(hon:onN u.sy.bs≠0)(h1_: ¬n<u.sl)(h2_:u.at_.s<u.sl)(h3_: ¬u.at_.s<u.fi.s)(h4_:c.pe u.sl=c.pe s.f.s)(h5_:s.f.s<u.at_.s)(hisf:u.isf=false)(hfi:u.fi=Hdz)(hisn:u.isn=false)(hem:p8 u.nx=true)(hsg:u.sy.sig=Zs 96)(w:World)(hw:Gt w)(hM:VM w s u):CLS 25 [.agg c.cs.toArray,.agg s.cs.toArray,.agg u.cs.toArray,U64 n].toArray w (λe w'=>e=.returned (I 238)/\Grow w w'):=
 rE c s u n hc_ hs hu 238 w hw λp w' hgw hr=>by
  have h1:FnA w' _ c.chk:=fa ent55 λw1 hg hG=>wX c hc_ s hs u hu n p w1 hG (cM hr hg);rw[show c.chk=0 from by rw[Cf.chk,hrt];rfl]at h1
  have h2:FnA w' _ (bif decide ((onN u.sy.bs:Int)>0)then 0 else 232):=fa ent56 λw1 hg hG=>B4 c hc_ s hs u hu n hV.2.2.2 p w1 hG (cM hr hg) (hM.2.2.2.grow (hgw.trans hg))
  rw[decide_eq_true (show (onN u.sy.bs:Int)>0 by omega)]at h2
  have h3:FnA w' _ 0:=fa ent57 λw1 hg hG=>JP c hc_ s hs u hu n h1_ h2_ h3_ p w1 hG (cM hr hg);have h4:FnA w' _ 0:=fa ent58 λw1 hg hG=>Lo c hc_ s hs u hu n h4_ p w1 hG (cM hr hg);have h5:FnA w' _ 0:=fa ent59 λw1 hg hG=>I4 c hc_ s hs u hu n h5_ p w1 hG (cM hr hg);have h6:FnA w' _ 0:=fa ent60 λw1 hg hG=>Mm c hc_ s hs u hu n hisf hfi p w1 hG (cM hr hg);have h7:FnA w' _ 0:=fa ent61 λw1 hg hG=>Lq c hc_ s hs u hu n hV.2.2.1 hisn hem p w1 hG (cM hr hg) (hM.2.2.1.grow (hgw.trans hg));have h8:FnA w' _ 238:=fa ent62 λw1 hg hG=>MC c hc_ s hs u hu n hV.1 hV.2.2.2 h4_ hsg p w1 hG (cM hr hg) (hM.1.grow (hgw.trans hg)) (hM.2.2.2.grow (hgw.trans hg));exact h1.ok (FnA.ok h2 (h3.ok (h4.ok (h5.ok (h6.ok (h7.ok (h8.no aC)))))))
theorem rp:RulesP where
 isn:=λu hu w hw=>nn u hu w hw
 isf:=λu hu w hw=>jA u hu w hw
 kno:=λs hs hl w hw hr=>It s hs om w hw hr
 bet:=λc a b hc ha hb hla hlb w hw hca hcb=>GZ c a b hc ha hb hla hlb w hw hca hcb
 beg:=λc t b hc ht hb hl w hw hr=>Hv c t b hc ht hb hl w hw hr
 vS:=λc s u n hc hs hu hV hrt w hw hM=>pvS c s u n hc hs hu hV hrt w hw hM
 vF:=λc s u n hc hs hu hV hrt hon w hw hM=>pvF c s u n hc hs hu hV hrt hon w hw hM
 vE:=λc s u n hc hs hu hV hrt hon hns w hw hM=>pvE c s u n hc hs hu hV hrt hon hns w hw hM
 vW:=λc s u n hc hs hu hV hrt hon h1 h2 h3 h4 h5 hisf hfi hisn hem hsg w hw hM=>pvW c s u n hc hs hu hV hrt hon h1 h2 h3 h4 h5 hisf hfi hisn hem hsg w hw hM
end
end Go.Proofs.YtfakhlafilbjkaaGreatDoor
