/- L3 -/
import Derived.Test.YtjookodjbjabbaaGreatDoorL2
set_option maxRecDepth 100000
set_option maxHeartbeats 1000000
namespace Go.Proofs.YtjookodjbjabbaaGreatDoor
open Go.Proofs.Tryz
def EN1:Pt Zp->L8
 |none=>(List.replicate 48 0#8).set 0 192#8
 |some p=>ENF (cG p.1) (LG2 (p.2,0))
def EN2:Pt W2->L8
 |none=>(List.replicate 96 0#8).set 0 192#8
 |some p=>ENF (cG p.1.2++cG p.1.1) (LG2 p.2)
theorem Lf(x y:Zp):EN1 (some (x,y))=ENF (cG x) (LG2 (y,0)):=rfl
theorem Ml(x y:W2):EN2 (some (x,y))=ENF (cG x.2++cG x.1) (LG2 y):=rfl
theorem TL(y:Zp):ng2 (y,0)=(-y,0):=bU O (by show-(0:Zp)=0;exact z_n0')
theorem Ks{y:Zp}(h:y≠0):LG2 (-y,0)= !LG2 (y,0):=by
 rw[<-TL];exact ow (λe=>h (yz1.1 e))
/-! ### Roots -/
theorem Mx{x y:Zp}(h:y*y=J1.RS4 x):J1.LQ x:=by
 show SQr (J1.RS4 x)*SQr (J1.RS4 x)=J1.RS4 x;rw[<-h];exact yf y
theorem XK{x y:Zp}(h:y*y=J1.RS4 x):J1.LY x (LG2 (y,0))=y:=by
 have hq:=Mx h;have s:=WH y;have sm:LG2 (SQ (J1.RS4 x),0)=false:=MQ (kv hq);rw[h]at s
 cases hl:LG2 (y,0)with
 |false=>
  rw[J1.Wb hq];generalize SQ (J1.RS4 x)=t at*;rcases s with e|e
  ·exact e
  ·by_cases h0:y=0
   ·rw[e,h0];exact z_n0'
   ·rw[e,Ks h0,hl]at sm;cases sm
 |true=>
  rw[J1.Xc hq];generalize SQ (J1.RS4 x)=t at*;rcases s with e|e
  ·rw[e,hl]at sm;cases sm
  ·rw[e];exact J1.Db y
theorem TM{x y:W2}(h:ml2 y y=J2.RS4 x): ∃r,ml2 r r=J2.RS4 x/\LG2 r=false/\J2.sgY r (LG2 y)=y:=by
 cases hl:LG2 y with
 |false=>exact ⟨y,h,hl,rfl⟩
 |true=>
  have h0:y≠ze2:=λe=>by rw[e,s7]at hl;cases hl
  exact ⟨ng2 y,(J2.Lt y).trans h,by rw[ow h0,hl];rfl,R2.neg_neg y⟩
/-! ### Written and read -/
theorem Jq{bs:L8}(h:bs.length=48):LO bs 0=MK bs:=by
 rw[LO,List.drop_zero];exact List.take_of_length_le (by rw[ca];omega)
theorem P4{x y:Zp}(on:E1.on (x,y)){c:Int}{Q:Pt Zp}(h:NY 0 (λQ=>IG1 Q) (LG2 (y,0)) x y c Q):D1 (EN1 (some (x,y))) c Q:=by
 have hy:=J1.nA.1 on;obtain ⟨m,f,s,l⟩:=z9 (vA x) (LG2 (y,0));have hlen:(EN1 (some (x,y))).length=48:=(ox _ _).trans (aM x);have lo:LO (EN1 (some (x,y))) 0=cG x:=(Jq hlen).trans m;have ex:X1 (EN1 (some (x,y)))=x:=by rw[X1,lo,tC]
 refine .inr ⟨hlen,.inr ⟨f,.inr ⟨s,.inr ⟨by rw[lo];exact oQ x,.inr ?_⟩⟩⟩⟩
 rw[ex,show LB (EN1 (some (x,y)))=LG2 (y,0)from l,XK hy];exact ⟨Mx hy,h⟩
theorem LO_2{a b:L8}{bs:L8}(ha:a.length=48)(hb:b.length=48)(h:MK bs=a++b):LO bs 0=a/\LO bs 48=b:=by
 rw[LO,LO,h,List.drop_zero];exact ⟨List.take_left' ha,by rw[List.drop_left' ha];exact List.take_of_length_le om⟩
theorem JN{a b:L8}(h:Top a):Top (a++b):=by
 cases a with
 |nil=>exact absurd h.ne dc
 |cons x r=>exact ⟨sm,h.lt⟩
theorem Sz{x y:W2}(on:E2w.on (x,y)){c:Int}{Q:Pt W2}(h:NY ze2 (λQ=>IG2 Q) (LG2 y) x y c Q):D2 (EN2 (some (x,y))) c Q:=by
 have hy:=J2.nA.1 on;obtain ⟨m,f,s,l⟩:=z9 (JN (b:=cG x.1) (vA x.2)) (LG2 y);have hlen:(EN2 (some (x,y))).length=96:=(ox _ _).trans (by rw[List.length_append,aM,aM])
 obtain ⟨l0,l48⟩:=LO_2 (bs:=EN2 (some (x,y))) (aM x.2) (aM x.1) m;have ex:X2 (EN2 (some (x,y)))=x:=by rw[X2,l0,l48,tC,tC]
 obtain ⟨r,hr,hs,e⟩:=TM hy;refine .inr ⟨hlen,.inr ⟨f,.inr ⟨s,.inr ⟨by rw[l0,l48];exact ⟨oQ _,oQ _⟩,.inr ⟨r, ?_⟩⟩⟩⟩⟩
 rw[ex,show LB (EN2 (some (x,y)))=LG2 y from l,e];exact ⟨hr,hs,h⟩
theorem Jt:D1 (EN1 none) 0 none:=.inr ⟨dc,.inr ⟨dc,.inl ⟨dc,by decide+kernel,rfl⟩⟩⟩
theorem Kc:D2 (EN2 none) 0 none:=.inr ⟨dc,.inr ⟨dc,.inl ⟨dc,by decide+kernel,rfl⟩⟩⟩
theorem LK{α:Type}{z:α}{inG:Option (α×α)->Prop}{l:Bool}{x y:α}(h: ¬(l=true/\y=z))(g:inG (some (x,y))):NY z inG l x y 0 (some (x,y)):=.inr ⟨h,.inr ⟨g,rfl,rfl⟩⟩
theorem QG{y:Zp}: ¬(LG2 (y,0)=true/\y=0):=λ⟨h,e⟩=>by
 rw[e,show ((0,0):W2)=ze2 from O,s7]at h;cases h
theorem Rb{y:W2}: ¬(LG2 y=true/\y=ze2):=λ⟨h,e⟩=>by
 rw[e,s7]at h;cases h
theorem o0{P:Pt Zp}(on:E1.onP P)(g:IG1 P):D1 (EN1 P) 0 P:=by
 cases P with
 |none=>exact Jt
 |some p=>exact P4 (x:=p.1) (y:=p.2) on (LK QG g)
theorem VP{P:Pt W2}(on:E2w.onP P)(g:IG2 P):D2 (EN2 P) 0 P:=by
 cases P with
 |none=>exact Kc
 |some p=>exact Sz (x:=p.1) (y:=p.2) on (LK Rb g)
section
open Go.RowKit
attribute [local simp] a6 bv aH aA aQ aY aR aK aM PLl cJ cH N1l cI cL cK bf bB a7 bu J1.bx J2.bx ca ft
theorem qL(xs:L8)(a1:Option Addr)(len1 cap1:Nat)(a2:Option Addr)(len2 cap2:Nat)(hl1:xs.length=len1)(hl2:xs.length=len2)(w:World)(hw:Gt w)(h1:BytesAt w a1 xs)(h2:BytesAt w a2 xs):
 CLS 15 [.slice a1 len1 cap1,.slice a2 len2 cap2].toArray w (λe w'=>e=.returned (.bool true)/\Grow w w'):=by
 refine Hf func15 O hw<|λhGF=>Xp<|Asg O<|aa<|Xp<|Mv O<|vM O O (λw' hw'=>uW underlying22 underlying5 underlying9 (h1.grow (ab hw')) _ _ hl1) O O<|Mv O<|vM O O (λw' hw'=>uW underlying22 underlying5 underlying9 (h2.grow (ab hw')) _ _ hl2) O O<|Bnr (v:=.bool true) O O (λw=>w9 _ _ w)<|Asg O<|aa<|ak<|Rr<|?_;exact aE O O (λw hw=>⟨rfl,ab hw⟩)
end
section
open Go.RowKit
attribute [local simp] a6 bv aH aA aQ aY aR aK aM PLl cJ cH N1l cI cL cK bf bB a7 bu J1.bx J2.bx ca ft
theorem ent93:ai prog 93:=λ_ _=>kr
theorem ent150:ai prog 150:=λ_ _=>kr
theorem ent92:ai prog 92:=λ_ _=>kr
theorem ent45:ai prog 45:=λ_ _=>kr
theorem ent161:ai prog 161:=λ_ _=>kr
theorem Lg(h:Bool):PUR 72 [.bool false,.bool h] (U8 192#8):=by
 intro w hw;refine Hf func72 O hw<|λhGF=>Xp<|Asg O<|aa<|ae<|ah<|Xp<|Mv O<|bi O (λ_=>a5 _) O O<|Asg O<|aa<|aP O<|Xp<|Asg O<|aa<|ak<|Rr<|?_;exact aE O O (λw hw=>⟨rfl,ab hw⟩)
theorem Nf  :PUR 72 [.bool true,.bool true] (U8 160#8):=by
 intro w hw;refine Hf func72 O hw<|λhGF=>Xp<|Asg O<|aa<|ae<|ah<|Xp<|Mv O<|bi O (λ_=>a5 _) O O<|Asg O<|aa<|aC O<|Xp<|Mv O<|Asg O<|aa<|aP O<|Xp<|Asg O<|aa<|ak<|Rr<|?_;exact aE O O (λw hw=>⟨rfl,ab hw⟩)
theorem Lu  :PUR 72 [.bool true,.bool false] (U8 128#8):=by
 intro w hw;refine Hf func72 O hw<|λhGF=>Xp<|Asg O<|aa<|ae<|ah<|Xp<|Mv O<|bi O (λ_=>a5 _) O O<|Asg O<|aa<|aC O<|Xp<|Mv O<|Asg O<|aa<|aC O<|ap<|Xp<|Asg O<|aa<|ak<|Rr<|?_;exact aE O O (λw hw=>⟨rfl,ab hw⟩)
theorem Mt{bs:L8}(h:0<bs.length):[bs.getD 0 0 &&& 31#8]++bs.drop 1=MK bs:=by
 cases bs with
 |nil=>cases h
 |cons a r=>rfl
theorem BytesAt.cut3{w:World}{a:Option Addr}{rs:L8}(h:BytesAt w a rs)(l k m:Nat)(hm: ¬m=l):BytesAt w (if m=l then a else a.map (·.add (l*1))) ((rs.drop l).take k):=by
 have e:=h.cut (cap:=rs.length+l+1) l k om;rw[if_neg om]at e;rw[if_neg hm];exact e
theorem BytesAt.tail{w:World}{a:Option Addr}{rs:L8}(h:BytesAt w a rs):BytesAt w (if rs.length=1 then a else a.map (·.add (1*1))) (rs.drop 1):=by
 have e:=h.cut (cap:=rs.length) 1 rs.length (Nat.le_refl _);rw[List.take_of_length_le (by rw[List.length_drop];omega)]at e
 exact e
theorem xw(e:Option Addr)(cap:Nat)(bs:L8)(h0:0<bs.length)(hl:bs.length<=1000)(hcap:bs.length<=cap)(w:World)(hw:Gt w)(hby:BytesAt w e bs):CLS 93 [.slice e bs.length cap].toArray w (λr w'=> ∃b7 c7 k7,r=.returned (.slice (spt b7) bs.length k7)/\Grow w w'/\w.heap.size<=b7/\OwnB w' b7 c7 5/\c7.take bs.length=(MK bs).map U8/\bs.length<=k7):=by
 refine Hf func93 O hw<|λhGF=>Xp<|Asg O<|aa<|Fy (E:=EE []) [0,1,2,3,5,6,7,8,9,10,4,11,12] cY O kr kr kr<|Mv O<|?_;obtain ⟨ad,rfl,_⟩:=hby 0 _ (gm U8 bs 0 0 om);refine gA 0 O O underlying22 sizeOf5 O om O O<|bN O isAgg5 (λw' h=>by obtain ⟨ad',e,hc⟩:=(hby.grow (ab h)) 0 _ (gm U8 bs 0 0 om);cases e;exact hc) O O<|Bnr (v:=U8 (bs.getD 0 0 &&& 31#8)) O O (λ_=>rh _ _ 224#8)<|Mv O<|Mv O<|bc O (λ_=>aF underlying22 _ _ _ _) O O<|Mv O<|bc O (λ_=>aF underlying22 _ _ _ _) O O<|f8 (l:=1) (h':=bs.length) (m:=bs.length) O underlying22 sizeOf5 O O O ⟨om,Nat.le_refl _,hcap⟩ O O<|dV 7 [bs.getD 0 0 &&& 31#8] hGF O O O dc dc underlying22 sizeOf5 zeroValue5 O O<|?_
 intro b7;refine cn (xs:=[bs.getD 0 0 &&& 31#8]) (ys:=bs.drop 1) 7 hGF O (by rw[List.length_drop];rfl) underlying22 underlying22 ti5 (.inr ⟨b7,_,rfl,rfl,rfl,Nat.le_refl _,rfl⟩) (λw' h=>(hby.grow (ab h)).tail) (by simp;omega) O O (λh0=>absurd h0 (List.cons_ne_nil _ _)) (λb8 c8 k8 q1 q2 q3=> ?_)
 rw[Mt h0]at q2 q3;rw[ca]at q2 q3;refine Asg O<|aa<|ak<|Rr<|?_;exact aE O O (λw hw=>⟨b8,c8,k8,by rw[Mt h0,ca],ab hw,(hw.own 7 b8 _ _ O).2.elim id False.elim,(hw.own 7 b8 _ _ O).1,q3,q2⟩)
def NQ(bs:L8):Bool:=decide (∀j,j<bs.length->bs.getD j 0=0#8)
theorem WG{bs:L8}(h: ∀j,j<bs.length->bs.getD j 0=0#8):NQ bs=true:=decide_eq_true h
theorem NQ_f{bs:L8}{i:Nat}(hi:i<bs.length)(h: ¬bs.getD i 0=0#8):NQ bs=false:=decide_eq_false (λk=>h (k i hi))
theorem G6(e:Option Addr)(cap:Nat)(bs:L8)(hL:bs.length<=1000)(w:World)(hw:Gt w)(hby:BytesAt w e bs):CLS 150 [.slice e bs.length cap].toArray w (λr w'=>r=.returned (.bool (NQ bs))/\Grow w w'):=by
 refine Hf func150 O hw<|λhGF=>Xp<|Asg O<|aa<|ae<|Xp<|Mv O<|bc O (λ_=>aF underlying22 _ _ _ _) O O<|Mv O<|aa<|ah<|bG (ι:={i:Nat // i<=bs.length/\∀j,j<i->bs.getD j 0=0#8}) (λy=>[(5,.slice e bs.length cap),(6,I (bs.length:Int)),(7,I (y.1:Int))]) (λy=>[]) (λy=>bs.length-y.1) ⟨0,Nat.zero_le _,λ_ h=>absurd h (Nat.not_lt_zero _)⟩ hGF trv trivial<|?_;rintro ⟨i,hi,hall⟩;dsimp only;by_cases hz:bs.getD i 0=0#8
 ·refine Xp<|Bnr O O (λ_=>av _ _ _)<|aa<|ae<|?_
  refine bC O (λhc=> ?_) (λhc=> ?_)
  ·have hi2:i<bs.length:=by simp at hc;omega
   refine ap<|ae<|ah<|Xp<|?_;obtain ⟨ad,rfl,_⟩:=hby i _ (gm U8 bs 0 i om);refine gA i O O underlying22 sizeOf5 O om O O<|bN (v:=U8 (bs.getD i 0)) O isAgg5 (λw' h=>by obtain ⟨ad',e,hc⟩:=(hby.grow (ab h)) i _ (gm U8 bs 0 i om);cases e;exact hc) O O<|Asg O<|aa<|Xp<|Mv O<|Bnb false O O (λ_=>di _ _ 0#8) (bne_eq_false_iff_eq.2 hz)<|aa<|aC O<|ap<|Xq<|Bnr O O (λ_=>aq _ _ _ oi)<|Mv O<|aa<|?_
   repeat (refine aL ?_)
   refine aB ?_;have hall': ∀j,j<i+1->bs.getD j 0=0#8:=λj hj=>by
    rcases Nat.lt_or_ge j i with h|h
    ·exact hall j h
    ·obtain rfl:j=i:=om
     exact hz
   exact ⟨rfl,⟨i+1,om,hall'⟩,_,by show bs.length-(i+1)<bs.length-i;omega,rfl,trv,trivial⟩
  ·obtain rfl:i=bs.length:=by simp at hc;omega
   refine aU<|Xp<|Asg O<|aa<|ak<|Rr<|?_;exact aE O O (λw hw=>⟨by rw[WG hall];rfl,ab hw⟩)
 ·refine Xp<|Bnr O O (λ_=>av _ _ _)<|aa<|ae<|?_
  refine bC O (λhc=> ?_) (λhc=> ?_)
  ·have hi2:i<bs.length:=by simp at hc;omega
   refine ap<|ae<|ah<|Xp<|?_;obtain ⟨ad,rfl,_⟩:=hby i _ (gm U8 bs 0 i om);refine gA i O O underlying22 sizeOf5 O om O O<|bN (v:=U8 (bs.getD i 0)) O isAgg5 (λw' h=>by obtain ⟨ad',e,hc⟩:=(hby.grow (ab h)) i _ (gm U8 bs 0 i om);cases e;exact hc) O O<|Asg O<|aa<|Xp<|Mv O<|Bnb true O O (λ_=>di _ _ 0#8) (bne_iff_ne.2 hz)<|aa<|aP O<|Xp<|Asg O<|aa<|ak<|Rr<|?_
   exact aE O O (λw hw=>⟨by rw[NQ_f hi2 hz];rfl,ab hw⟩)
  ·obtain rfl:i=bs.length:=by simp at hc;omega
   refine aU<|Xp<|Asg O<|aa<|ak<|Rr<|?_;exact aE O O (λw hw=>⟨by rw[WG hall];rfl,ab hw⟩)
theorem vE(b k len:Nat)(c:List Value)(bs:L8)(hn:bs.length=len)(hL:len<=1000)(q:Bool)(hq:NQ bs=q)(w:World)(hw:Gt w)(h:w.rangeAt b 0 c)(ht:c.take bs.length=bs.map U8):CLS 150 [.slice (spt b) len k].toArray w (λr w'=>r=.returned (.bool q)/\Grow w w'):=by
 subst hn;subst hq;exact G6 _ k bs hL w hw (cB h ht)
def RdV(bs:L8)(N:Nat)(f:BitVec 8)(c:Int):Prop:=(¬bs.length=N/\f=0#8/\c=100)\/(bs.length=N/\((FG bs=128#8/\f=FG bs/\c=0)\/(¬FG bs=128#8/\((FG bs=160#8/\f=FG bs/\c=0)\/(¬FG bs=160#8/\((FG bs=192#8/\((NQ (MK bs)=true/\f=FG bs/\c=0)\/(NQ (MK bs)=false/\f=0#8/\c=101)))\/(¬FG bs=192#8/\f=0#8/\c=101)))))))
theorem nd(e:Option Addr)(cap N:Nat)(bs:L8)(h0:0<N)(hL:N<=1000)(hcap:bs.length<=cap)(f:BitVec 8)(c:Int)(h:RdV bs N f c)(w:World)(hw:Gt w)(hby:BytesAt w e bs):
 CLS 92 [.slice e bs.length cap,I (N:Int)].toArray w (λr w'=>r=.returned (.tuple #[U8 f,I c])/\Grow w w'):=by
 refine Hf func92 O hw<|λhGF=>ac (E:=EE [93,2000093])<|Asg O<|Asg O<|aa<|ae<|ac (E:=EE [93,2000093])<|Mv O<|bc O (λ_=>aF underlying22 _ _ _ _) O O<|Mv O<|?_;rcases h with ⟨hN,rfl,rfl⟩|⟨hN,h⟩
 ·refine Bnb true O O (λ_=>bz _ _ _) (bne_iff_ne.2 om)<|aa<|aP O<|ac (E:=EE [93,2000093])<|Asg O<|Asg O<|aa<|ak<|Rr<|?_
  exact cg O O O (λw hw=>⟨rfl,ab hw⟩)
 ·refine Bnb false O O (λ_=>bz _ _ _) (bne_eq_false_iff_eq.2 om)<|aa<|aC O<|ap<|ae<|ac (E:=EE [93,2000093])<|Mv O<|?_
  obtain ⟨ad,he,_⟩:=hby 0 _ (gm U8 bs 0 0 om);refine gA (ad:=ad) 0 (by rw[<-he];rfl) O underlying22 sizeOf5 O om O O<|bN (v:=U8 (bs.getD 0 0)) O isAgg5 (λw' h=>by obtain ⟨ad',e',hc⟩:=(hby.grow (ab h)) 0 _ (gm U8 bs 0 0 om);rw[he]at e';cases e';exact hc) O O<|Bnr (v:=U8 (FG bs)) O O (λ_=>cy _ _ 224#8)<|Asg O<|aa<|ac (E:=EE [93,2000093])<|Mv O<|aa<|ah<|ae<|ac (E:=EE [93,2000093])<|?_
  rcases h with ⟨hf,rfl,rfl⟩|⟨hf,h⟩
  ·refine Bnb true O O (λ_=>cR _ _ 128#8) (beq_iff_eq.2 hf)<|Asg O<|aa<|aP O<|ap<|aP O<|ac (E:=EE [93,2000093])<|Mv O<|Asg O<|Asg O<|aa<|ak<|Rr<|?_
   exact cg O O O (λw hw=>⟨rfl,ab hw⟩)
  ·refine Bnb false O O (λ_=>cR _ _ 128#8) (beq_eq_false_iff_ne.2 hf)<|Asg O<|aa<|aC O<|bF (E:=EE [93,2000093])<|?_
   rcases h with ⟨hf,rfl,rfl⟩|⟨hf,h⟩
   ·refine Bnb true O O (λ_=>cR _ _ 160#8) (beq_iff_eq.2 hf)<|Asg O<|aa<|aP O<|ac (E:=EE [93,2000093])<|Mv O<|Asg O<|Asg O<|aa<|ak<|Rr<|?_
    exact cg O O O (λw hw=>⟨rfl,ab hw⟩)
   ·refine Bnb false O O (λ_=>cR _ _ 160#8) (beq_eq_false_iff_ne.2 hf)<|Asg O<|aa<|aC O<|ac (E:=EE [93,2000093])<|?_
    rcases h with ⟨hf,h⟩|⟨hf,rfl,rfl⟩
    ·refine Bnb true O O (λ_=>cR _ _ 192#8) (beq_iff_eq.2 hf)<|Asg O<|aa<|aP O<|ac (E:=EE [93,2000093])<|Mv O<|?_
     refine bK O O ent93 O O (λw' hw'=>(xw e cap bs om om hcap w' (hGF.g _ _ _ hw') (hby.grow (ab hw'))).mono λe' w'' h=> ?_);obtain ⟨b7,c7,k7,rfl,hg,hb7,hob,q3,q2⟩:=h;refine ⟨_,_,rfl,ay hGF,hw'.news am hg [(33,b7,c7,5)] ?_ bQ,bO am O, ?_⟩
     ·intro n' b' c' t' hl
      rcases aI hl with ⟨_,e⟩|⟨_,hl⟩
      ·cases e;exact ⟨hb7,hob⟩
      ·cases hl
     clear hw' hg hb7 hob;rcases h with ⟨hq,rfl,rfl⟩|⟨hq,rfl,rfl⟩
     ·refine Cc O ent150 (λw' hC hG=>vE b7 k7 bs.length c7 (MK bs) (ca bs) om true hq w' hG (aG (n:=33) O w' hC) (by rw[ca];exact q3))<|aa<|aP O<|ac (E:=EE [93,2000093])<|Mv O<|Asg O<|Asg O<|aa<|ak<|Rr<|?_
      exact cg O O O (λw hw=>⟨rfl,ab hw⟩)
     ·refine Cc O ent150 (λw' hC hG=>vE b7 k7 bs.length c7 (MK bs) (ca bs) om false hq w' hG (aG (n:=33) O w' hC) (by rw[ca];exact q3))<|aa<|aC O<|ap<|ac (E:=EE [93,2000093])<|Asg O<|Asg O<|aa<|ak<|Rr<|?_
      exact cg O O O (λw hw=>⟨rfl,ab hw⟩)
    ·refine Bnb false O O (λ_=>cR _ _ 192#8) (beq_eq_false_iff_ne.2 hf)<|Asg O<|aa<|aC O<|ap<|ac (E:=EE [93,2000093])<|Asg O<|Asg O<|aa<|ak<|Rr<|?_
     exact cg O O O (λw hw=>⟨rfl,ab hw⟩)
theorem wY:mp prog 54 "Neg" 112:=λ_ _=>kr
theorem l8:mp prog 54 "Equal" 310:=λ_ _=>kr
theorem gl:mp prog 54 "InGroup" 311:=λ_ _=>kr
theorem yj(p t:J1.GP)(f:BitVec 8)(c:Int)(h:(¬f &&& 32#8=0#8/\((p.P=(J1.kp p).P/\t=J1.gInf/\c=103)\/(¬p.P=(J1.kp p).P/\((¬IG1 p.P/\t=J1.gInf/\c=104)\/(IG1 p.P/\p=t/\c=0)))))\/(f &&& 32#8=0#8/\((¬IG1 p.P/\t=J1.gInf/\c=104)\/(IG1 p.P/\p=t/\c=0)))):PUR 95 [J1.PtV p,.bool true,U8 f] (.tuple #[J1.PtV t,I c]):=by
 intro w hw;refine Hf func95 O hw<|λhGF=>Xp<|Bx 3 hGF O<|λb3=>Al 6 hGF J1.zv54<|λb6=>Asg O<|aa<|Xp<|Al 8 hGF J1.zv54<|λb8=>aa<|ae<|ah<|Xp<|Mv O<|bi O (λ_=>a5 _) O O<|Asg O<|aa<|aC O<|Xd []<|Mv O<|Bnr (v:=U8 (f &&& 32#8)) O O (λ_=>cy _ _ 32#8)<|?_;rcases h with ⟨hf,h⟩|⟨hf,h⟩
 ·refine Bnb true O O (λ_=>di _ _ 0#8) (bne_iff_ne.2 hf)<|Mv O<|La 3 O O cj<|iu O underlying54 O O<|La 3 O O cj<|iu O underlying54 O O<|ul O O wY O ent112 (J1.vn p) O O<|?_
  rcases h with ⟨he,rfl,rfl⟩|⟨he,h⟩
  ·refine fJ true O O l8 O ent310 (J1.mB p (J1.kp p)) (decide_eq_true he) O O<|Pk O O O<|Asg O<|aa<|aP O<|Xp<|La 8 O O cj<|Sa 6 hGF O O O cj<|Asg O<|aa<|ak<|Rr<|?_
   exact aZ 6 O O O O isAgg54 sizeOf54 sm (λw hw=>⟨rfl,ab hw⟩)
  ·refine fJ false O O l8 O ent310 (J1.mB p (J1.kp p)) (decide_eq_false he) O O<|Pk O O O<|Asg O<|aa<|aC O<|Xp<|La 3 O O cj<|iu O underlying54 O O<|?_
   rcases h with ⟨hg,rfl,rfl⟩|⟨hg,rfl,rfl⟩
   ·refine fJ false O O gl O ent311 (J1.fj p) (decide_eq_false hg) O O<|bi O (λ_=>a5 _) O O<|Asg O<|aa<|aP O<|Xp<|La 8 O O cj<|Sa 6 hGF O O O cj<|Asg O<|aa<|ak<|Rr<|?_
    exact aZ 6 O O O O isAgg54 sizeOf54 sm (λw hw=>⟨rfl,ab hw⟩)
   ·refine fJ true O O gl O ent311 (J1.fj p) (decide_eq_true hg) O O<|bi O (λ_=>a5 _) O O<|Asg O<|aa<|aC O<|ap<|Xp<|La 3 O O cj<|Sa 6 hGF O O O cj<|Asg O<|aa<|ak<|Rr<|?_
    exact aZ 6 O O O O isAgg54 sizeOf54 sm (λw hw=>⟨rfl,ab hw⟩)
 ·refine Bnb false O O (λ_=>di _ _ 0#8) (bne_eq_false_iff_eq.2 hf)<|Mv O<|Sk<|Sk<|Sk<|Sk<|Sk<|Sk<|Pk O O O<|Asg O<|aa<|aC O<|Xp<|La 3 O O cj<|iu O underlying54 O O<|?_
  rcases h with ⟨hg,rfl,rfl⟩|⟨hg,rfl,rfl⟩
  ·refine fJ false O O gl O ent311 (J1.fj p) (decide_eq_false hg) O O<|bi O (λ_=>a5 _) O O<|Asg O<|aa<|aP O<|Xp<|La 8 O O cj<|Sa 6 hGF O O O cj<|Asg O<|aa<|ak<|Rr<|?_
   exact aZ 6 O O O O isAgg54 sizeOf54 sm (λw hw=>⟨rfl,ab hw⟩)
  ·refine fJ true O O gl O ent311 (J1.fj p) (decide_eq_true hg) O O<|bi O (λ_=>a5 _) O O<|Asg O<|aa<|aC O<|ap<|Xp<|La 3 O O cj<|Sa 6 hGF O O O cj<|Asg O<|aa<|ak<|Rr<|?_
   exact aZ 6 O O O O isAgg54 sizeOf54 sm (λw hw=>⟨rfl,ab hw⟩)
theorem Ol(p:J1.GP)(f:BitVec 8):PUR 95 [J1.PtV p,.bool false,U8 f] (.tuple #[J1.PtV J1.gInf,I 103]):=by
 intro w hw;refine Hf func95 O hw<|λhGF=>Xp<|Bx 3 hGF O<|λb3=>Al 6 hGF J1.zv54<|λb6=>Asg O<|aa<|Xp<|Al 8 hGF J1.zv54<|λb8=>aa<|ae<|ah<|Xp<|Mv O<|bi O (λ_=>a5 _) O O<|Asg O<|aa<|aP O<|Xp<|La 8 O O cj<|Sa 6 hGF O O O cj<|Asg O<|aa<|ak<|Rr<|?_;exact aZ 6 O O O O isAgg54 sizeOf54 sm (λw hw=>⟨rfl,ab hw⟩)
theorem xJ:mp prog 80 "Neg" 318:=λ_ _=>kr
theorem mt:mp prog 80 "Equal" 316:=λ_ _=>kr
theorem fW:mp prog 80 "InGroup" 317:=λ_ _=>kr
theorem xW(p t:J2.GP)(f:BitVec 8)(c:Int)(h:(¬f &&& 32#8=0#8/\((p.P=(J2.kp p).P/\t=J2.gInf/\c=103)\/(¬p.P=(J2.kp p).P/\((¬IG2 p.P/\t=J2.gInf/\c=104)\/(IG2 p.P/\p=t/\c=0)))))\/(f &&& 32#8=0#8/\((¬IG2 p.P/\t=J2.gInf/\c=104)\/(IG2 p.P/\p=t/\c=0)))):PUR 192 [J2.PtV p,.bool true,U8 f] (.tuple #[J2.PtV t,I c]):=by
 intro w hw;refine Hf func192 O hw<|λhGF=>Xp<|Bx 3 hGF O<|λb3=>Al 6 hGF J2.zv80<|λb6=>Asg O<|aa<|Xp<|Al 8 hGF J2.zv80<|λb8=>aa<|ae<|ah<|Xp<|Mv O<|bi O (λ_=>a5 _) O O<|Asg O<|aa<|aC O<|Xd []<|Mv O<|Bnr (v:=U8 (f &&& 32#8)) O O (λ_=>cy _ _ 32#8)<|?_;rcases h with ⟨hf,h⟩|⟨hf,h⟩
 ·refine Bnb true O O (λ_=>di _ _ 0#8) (bne_iff_ne.2 hf)<|Mv O<|La 3 O O cm<|iu O underlying80 O O<|La 3 O O cm<|iu O underlying80 O O<|ul O O xJ O ent318 (J2.vn p) O O<|?_
  rcases h with ⟨he,rfl,rfl⟩|⟨he,h⟩
  ·refine fJ true O O mt O ent316 (J2.mB p (J2.kp p)) (decide_eq_true he) O O<|Pk O O O<|Asg O<|aa<|aP O<|Xp<|La 8 O O cm<|Sa 6 hGF O O O cm<|Asg O<|aa<|ak<|Rr<|?_
   exact aZ 6 O O O O isAgg80 sizeOf80 sm (λw hw=>⟨rfl,ab hw⟩)
  ·refine fJ false O O mt O ent316 (J2.mB p (J2.kp p)) (decide_eq_false he) O O<|Pk O O O<|Asg O<|aa<|aC O<|Xp<|La 3 O O cm<|iu O underlying80 O O<|?_
   rcases h with ⟨hg,rfl,rfl⟩|⟨hg,rfl,rfl⟩
   ·refine fJ false O O fW O ent317 (J2.fj p) (decide_eq_false hg) O O<|bi O (λ_=>a5 _) O O<|Asg O<|aa<|aP O<|Xp<|La 8 O O cm<|Sa 6 hGF O O O cm<|Asg O<|aa<|ak<|Rr<|?_
    exact aZ 6 O O O O isAgg80 sizeOf80 sm (λw hw=>⟨rfl,ab hw⟩)
   ·refine fJ true O O fW O ent317 (J2.fj p) (decide_eq_true hg) O O<|bi O (λ_=>a5 _) O O<|Asg O<|aa<|aC O<|ap<|Xp<|La 3 O O cm<|Sa 6 hGF O O O cm<|Asg O<|aa<|ak<|Rr<|?_
    exact aZ 6 O O O O isAgg80 sizeOf80 sm (λw hw=>⟨rfl,ab hw⟩)
 ·refine Bnb false O O (λ_=>di _ _ 0#8) (bne_eq_false_iff_eq.2 hf)<|Mv O<|Sk<|Sk<|Sk<|Sk<|Sk<|Sk<|Pk O O O<|Asg O<|aa<|aC O<|Xp<|La 3 O O cm<|iu O underlying80 O O<|?_
  rcases h with ⟨hg,rfl,rfl⟩|⟨hg,rfl,rfl⟩
  ·refine fJ false O O fW O ent317 (J2.fj p) (decide_eq_false hg) O O<|bi O (λ_=>a5 _) O O<|Asg O<|aa<|aP O<|Xp<|La 8 O O cm<|Sa 6 hGF O O O cm<|Asg O<|aa<|ak<|Rr<|?_
   exact aZ 6 O O O O isAgg80 sizeOf80 sm (λw hw=>⟨rfl,ab hw⟩)
  ·refine fJ true O O fW O ent317 (J2.fj p) (decide_eq_true hg) O O<|bi O (λ_=>a5 _) O O<|Asg O<|aa<|aC O<|ap<|Xp<|La 3 O O cm<|Sa 6 hGF O O O cm<|Asg O<|aa<|ak<|Rr<|?_
   exact aZ 6 O O O O isAgg80 sizeOf80 sm (λw hw=>⟨rfl,ab hw⟩)
theorem QR(p:J2.GP)(f:BitVec 8):PUR 192 [J2.PtV p,.bool false,U8 f] (.tuple #[J2.PtV J2.gInf,I 103]):=by
 intro w hw;refine Hf func192 O hw<|λhGF=>Xp<|Bx 3 hGF O<|λb3=>Al 6 hGF J2.zv80<|λb6=>Asg O<|aa<|Xp<|Al 8 hGF J2.zv80<|λb8=>aa<|ae<|ah<|Xp<|Mv O<|bi O (λ_=>a5 _) O O<|Asg O<|aa<|aP O<|Xp<|La 8 O O cm<|Sa 6 hGF O O O cm<|Asg O<|aa<|ak<|Rr<|?_;exact aZ 6 O O O O isAgg80 sizeOf80 sm (λw hw=>⟨rfl,ab hw⟩)
theorem Gy:cG 0=List.replicate 48 0#8:=by decide+kernel
theorem zX(bs:L8):OR0 bs 160#8=OR0 (OR0 bs 128#8) 32#8:=by
 cases bs with
 |nil=>rfl
 |cons a r=>show (a|||160#8)::r=((a|||128#8)|||32#8)::r;rw[BitVec.or_assoc];rfl
theorem zv32(w:World):(zeroValue 32).run prog w=.ok (.agg ((List.replicate 96 (0#8)).map U8).toArray) w:=(zeroValue32 w).trans rr
theorem yR(p:J1.GP)(X Y:Zp)(ok:Bool)(v:BitVec 8)(hx:PUR 70 [J1.PtV p] (.tuple #[EV X,EV Y,.bool ok]))(hv:PUR 72 [.bool ok,.bool (decide (hf<Y.val))] (U8 v)):PUR 31 [J1.PtV p] (.agg ((OR0 (cG X) v).map U8).toArray):=by
 intro w hw;refine Hf func31 O hw<|λhGF=>Xp<|Bx 1 hGF O<|λb1=>Al 2 hGF zv29<|λb2=>aa<|Xp<|La 1 O O cj<|Ca O (hx)<|Mv O<|Ext O O<|Ext O O<|Ext O O<|Al 3 hGF zv52<|λb3=>Al 4 hGF zv52<|λb4=>Sa 3 hGF O O O bM<|Sa 4 hGF O O O bM<|Asg O<|aa<|Xp<|La 3 O O bM<|Ca O (kV _)<|Al 6 hGF zv29<|λb6=>az 6 hGF O O O sizeOf29 sm sm (bY _) O<|aa<|Xd []<|qp 0 O O underlying29 sizeOf5 dc dc O O<|Lm 6 U8 0 O O isAgg5 sm<|Mv O<|La 4 O O bM<|Ca O (kG _)<|Ca O (hv)<|Bnr (v:=U8 ((cG X).getD 0 0|||v)) O O (λ_=>gz _ _ v)<|qp 0 O O underlying29 sizeOf5 dc dc O O<|aX 6 U8 hGF O O O sizeOf5 O sm O<|aa<|Xp<|La 6 O O vh<|az 2 hGF O O O sizeOf29 sm sm (bY _) O<|aa<|ak<|?_;refine Rr ?_;exact au 2 O O O isAgg29 sizeOf29 sm (λw hw=>⟨rfl,ab hw⟩)
theorem y4(p:J2.GP)(X Y:W2)(ok:Bool)(v:BitVec 8)(hx:PUR 80 [J2.PtV p] (.tuple #[EV2 X,EV2 Y,.bool ok]))(hv:PUR 72 [.bool ok,.bool (LG2 Y)] (U8 v)):PUR 35 [J2.PtV p] (.agg ((OR0 (cG X.2++cG X.1) v).map U8).toArray):=by
 intro w hw;refine Hf func35 O hw<|λhGF=>Xp<|Bx 1 hGF O<|λb1=>Al 2 hGF zv32<|λb2=>aa<|Xp<|La 1 O O cm<|Ca O (hx)<|Mv O<|Ext O O<|Ext O O<|Ext O O<|Al 3 hGF zv78<|λb3=>Al 4 hGF zv78<|λb4=>Sa 3 hGF O O O aW<|Sa 4 hGF O O O aW<|Asg O<|aa<|fG (E:=EE [2999999]) [0,1,2,3,4,5] [⟨6,6,29,(List.replicate 48 (0#8)).map U8⟩,⟨7,7,29,(List.replicate 48 (0#8)).map U8⟩] [8,9] cY O kr kr kr kr kr kr dc (by intro x hx;simp only[List.mem_cons,List.not_mem_nil,or_false]at hx;rcases hx with rfl|rfl<;>exact bD O zv29 O)<|Fa 6 O underlying78 O sizeOf52<|aw 3 _ O O isAgg52 sizeOf52 sm (jf sm) O O<|Ca O (kV _)<|Fa 0 O underlying78 O sizeOf52<|aw 3 _ O O isAgg52 sizeOf52 sm ej O O<|Ca O (kV _)<|aa<|?_
 refine ⟨_,_,rfl,hGF,by intro x hx;simp only[List.mem_cons,List.not_mem_nil,or_false]at hx;rcases hx with rfl|rfl<;>rfl,by intro x hx;simp only[List.mem_cons,List.not_mem_nil,or_false]at hx;rcases hx with rfl|rfl<;>rfl,λadr=> ?_⟩
 refine az 6 hGF O O O sizeOf29 sm sm (bY _) O<|az 7 hGF O O O sizeOf29 sm sm (bY _) O<|aa<|Xp<|Al 8 hGF zv32<|λb8=>aa<|Xd []<|rP (l:=0) (h':=48) (m:=48) O underlying32 sizeOf5 O O O dc dc O O<|bP (l:=0) (h':=48) O underlying29 sizeOf5 O O dc dc O O<|gK 8 (o:=0) (cs:=cG X.2) hGF O O O underlying22 sz5 sm (λw' h=>BytesAt.range (aG (n:=6) O w' h)) sm O O<|?_;rw[G8];refine aa<|Xd []<|rP (l:=48) (h':=96) (m:=96) O underlying32 sizeOf5 O O O dc dc O O<|bP (l:=0) (h':=48) O underlying29 sizeOf5 O O dc dc O O<|gK 8 (o:=48) (cs:=cG X.1) hGF O O O underlying22 sz5 sm (λw' h=>BytesAt.range (aG (n:=7) O w' h)) sm O O<|?_;rw[HU];refine aa<|Xd []<|qp 0 O O underlying32 sizeOf5 dc dc O O<|Lm 8 U8 0 O O isAgg5 sm<|Mv O<|La 4 O O aW<|Ca O (Bl _)<|Ca O (hv)<|Bnr (v:=U8 ((cG X.2++cG X.1).getD 0 0|||v)) O O (λ_=>gz _ _ v)<|qp 0 O O underlying32 sizeOf5 dc dc O O<|aX 8 U8 hGF O O O sizeOf5 O sm O<|aa<|Xp<|La 8 O O t32t<|az 2 hGF O O O sizeOf32 sm sm (bY _) O<|aa<|ak<|Rr<|?_;exact au 2 O O O isAgg32 sizeOf32 sm (λw hw=>⟨rfl,ab hw⟩)
theorem Vn:OR0 (cG 0) 192#8=EN1 none:=by rw[Gy];rfl
theorem SU:OR0 (cG 0++cG 0) 192#8=EN2 none:=by rw[Gy];rfl
theorem Re(p:J1.GP):PUR 31 [J1.PtV p] (.agg ((EN1 p.P).map U8).toArray):=by
 by_cases h:p.P=none
 ·have k:=yR p 0 0 false 192#8 (J1.Fi p h) (Lg _)
  rw[Vn]at k;rw[h];exact k
 ·obtain ⟨v,hv⟩: ∃v,p.P=some v:=by
   cases e:p.P with
   |none=>exact absurd e h
   |some v=>exact ⟨v,rfl⟩
  have ex:J1.PX p.P=v.1:=by rw[hv];rfl
  have ey:J1.PY p.P=v.2:=by rw[hv];rfl
  have e1:EN1 p.P=ENF (cG v.1) (LG2 (v.2,0)):=by rw[hv];rfl
  have lg:decide (hf<v.2.val)=LG2 (v.2,0):=Di (x:=(v.2,0)) O
  cases hl:LG2 (v.2,0)with
  |true=>
   have k:=yR p (J1.PX p.P) (J1.PY p.P) true 160#8 (J1.wz p h) (by rw[ey,lg,hl];exact Nf)
   rw[ex,zX]at k;rw[e1,hl];exact k
  |false=>
   have k:=yR p (J1.PX p.P) (J1.PY p.P) true 128#8 (J1.wz p h) (by rw[ey,lg,hl];exact Lu)
   rw[ex]at k;rw[e1,hl];exact k
theorem N7(p:J2.GP):PUR 35 [J2.PtV p] (.agg ((EN2 p.P).map U8).toArray):=by
 by_cases h:p.P=none
 ·have k:=y4 p (0,0) (0,0) false 192#8 (J2.Fi p h) (Lg _)
  rw[show OR0 (cG ((0:Zp),(0:Zp)).2++cG ((0:Zp),(0:Zp)).1) 192#8=EN2 none from SU]at k;rw[h];exact k
 ·obtain ⟨v,hv⟩: ∃v,p.P=some v:=by
   cases e:p.P with
   |none=>exact absurd e h
   |some v=>exact ⟨v,rfl⟩
  have ex:J2.PX p.P=v.1:=by rw[hv];rfl
  have ey:J2.PY p.P=v.2:=by rw[hv];rfl
  have e1:EN2 p.P=ENF (cG v.1.2++cG v.1.1) (LG2 v.2):=by rw[hv];rfl
  cases hl:LG2 v.2 with
  |true=>
   have k:=y4 p (J2.PX p.P) (J2.PY p.P) true 160#8 (J2.wz p h) (by rw[ey,hl];exact Nf)
   rw[ex,zX]at k;rw[e1,hl];exact k
  |false=>
   have k:=y4 p (J2.PX p.P) (J2.PY p.P) true 128#8 (J2.wz p h) (by rw[ey,hl];exact Lu)
   rw[ex]at k;rw[e1,hl];exact k
end
section
open Go.RowKit
attribute [local simp] a6 bv aH aA aQ aY aR aK aM PLl cJ cH N1l cI cL cK bf bB a7 bu J1.bx J2.bx ca ft
theorem n4{bs:L8}{c:Int}{P:Pt Zp}(h:D1 bs c P):E1.onP P:=by
 rcases h with ⟨_,_,rfl⟩|⟨_,⟨_,_,rfl⟩|⟨_,⟨_,_,rfl⟩|⟨_,⟨_,_,rfl⟩|⟨_,⟨_,_,rfl⟩|⟨q,h⟩⟩⟩⟩⟩
 ·exact True.intro
 ·exact True.intro
 ·exact True.intro
 ·exact True.intro
 ·exact True.intro
 ·rcases h with ⟨_,_,rfl⟩|⟨_,⟨_,_,rfl⟩|⟨_,_,rfl⟩⟩
  ·exact True.intro
  ·exact True.intro
  ·exact J1.K5 q _
theorem nI{bs:L8}{c:Int}{P:Pt W2}(h:D2 bs c P):E2w.onP P:=by
 rcases h with ⟨_,_,rfl⟩|⟨_,⟨_,_,rfl⟩|⟨_,⟨_,_,rfl⟩|⟨_,⟨_,_,rfl⟩|⟨_,⟨_,_,rfl⟩|⟨r,hr,_,h⟩⟩⟩⟩⟩
 ·exact True.intro
 ·exact True.intro
 ·exact True.intro
 ·exact True.intro
 ·exact True.intro
 ·rcases h with ⟨_,_,rfl⟩|⟨_,⟨_,_,rfl⟩|⟨_,_,rfl⟩⟩
  ·exact True.intro
  ·exact True.intro
  ·exact J2.go (J2.nA.2 (J2.E4 hr _))
def cA1(P:Pt Zp)(on:E1.onP P):J1.GP:=⟨match P with|none=>(0,0,0)|some p=>(p.1,p.2,1),P,on,by
 cases P with
 |none=>rfl
 |some p=>exact E1.jr_at p jI⟩
def cA2(P:Pt W2)(on:E2w.onP P):J2.GP:=⟨match P with|none=>(ze2,ze2,ze2)|some p=>(p.1,p.2,on2),P,on,by
 cases P with
 |none=>rfl
 |some p=>exact kQ p⟩
theorem qm(a:Option Addr)(len k:Nat)(xs:L8)(h48:xs.length=48)(hn:len=48)(hl:BN xs 48<PP)(x:Zp)(hx:zp (BN xs 48)=x)(w:World)(hw:Gt w)(hby:BytesAt w a xs):CLS 74 [.slice a len k].toArray w (λr w'=>r=.returned (.tuple #[EV x,.bool true])/\Grow w w'):=by
 have h:=ec a k xs w hw hby;rw[h48,show FV xs=x from (if_pos ⟨h48,hl⟩).trans hx,show FO xs=true from decide_eq_true ⟨h48,hl⟩]at h;subst hn;exact h
theorem qU(a:Option Addr)(len k:Nat)(xs:L8)(h48:xs.length=48)(hn:len=48)(hl: ¬BN xs 48<PP)(w:World)(hw:Gt w)(hby:BytesAt w a xs):CLS 74 [.slice a len k].toArray w (λr w'=>r=.returned (.tuple #[EV 0,.bool false])/\Grow w w'):=by
 have h:=ec a k xs w hw hby;rw[h48,show FV xs=0 from if_neg (λe=>hl e.2),show FO xs=false from decide_eq_false (λe=>hl e.2)]at h;subst hn;exact h
theorem Ec.ne_iff{α:Type}(C:Ec α){x y:α}:(some (x,y):Pt α)=C.ne (some (x,y))↔y=C.R.zero:=by
 constructor
 ·intro h
  have e:y=C.R.neg y:=congrArg Prod.snd (Option.some.inj h);have k:=C.R.add_neg y;rw[<-e]at k;exact C.dbl0 k
 ·intro h
  show some (x,y)=some (x,C.R.neg y);rw[h,C.R.neg_zero]
theorem J1.ptv_eq{p r:J1.GP}(h:p.J=r.J):J1.PtV p=J1.PtV r:=by rw[J1.PtV,J1.PtV,J1.GL,J1.GL,h]
theorem J2.ptv_eq{p r:J2.GP}(h:p.J=r.J):J2.PtV p=J2.PtV r:=by rw[J2.PtV,J2.PtV,J2.GL,J2.GL,h]
theorem l_t{f:BitVec 8}(h:(f &&& 32#8 !=0#8)=true): ¬f &&& 32#8=0#8:=bne_iff_ne.1 h
theorem l_f{f:BitVec 8}(h:(f &&& 32#8 !=0#8)=false):f &&& 32#8=0#8:=bne_eq_false_iff_eq.1 h
theorem UE: ∀b:BitVec 8,(b &&& 224#8) &&& 128#8=0#8->¬b &&& 224#8=128#8/\¬b &&& 224#8=160#8/\¬b &&& 224#8=192#8:=by decide+kernel
theorem XJ: ∀b:BitVec 8,¬(b &&& 224#8) &&& 128#8=0#8->¬(b &&& 224#8) &&& 64#8=0#8->¬b &&& 224#8=128#8/\¬b &&& 224#8=160#8/\(b &&& 224#8=192#8↔(b &&& 224#8) &&& 32#8=0#8):=by decide+kernel
theorem UQ: ∀b:BitVec 8,¬(b &&& 224#8) &&& 128#8=0#8->(b &&& 224#8) &&& 64#8=0#8->b &&& 224#8=128#8\/b &&& 224#8=160#8:=by decide+kernel
theorem f160{f:BitVec 8}(h:f=160#8): ¬f=128#8:=by rw[h];decide
theorem rd3{bs:L8}{N:Nat}{α:Type}{c:Int}{P:Option α}{R:Prop}(h:FLG bs N c P R):(¬c=0/\P=none/\RdV bs N 0#8 c)\/(c=0/\P=none/\RdV bs N (FG bs) 0/\¬FG bs &&& 64#8=0#8)\/(bs.length=N/\FG bs &&& 64#8=0#8/\RdV bs N (FG bs) 0/\R):=by
 rcases h with ⟨h48,rfl,rfl⟩|⟨h48,⟨f,rfl,rfl⟩|⟨f,⟨s,rfl,rfl⟩|⟨s,r⟩⟩⟩
 ·exact .inl ⟨dc,rfl,.inl ⟨h48,rfl,rfl⟩⟩
 ·obtain ⟨h1,h2,h3⟩:=UE (bs.getD 0 0) f
  exact .inl ⟨dc,rfl,.inr ⟨h48,.inr ⟨h1,.inr ⟨h2,.inr ⟨h3,rfl,rfl⟩⟩⟩⟩⟩
 ·obtain ⟨h1,h2,h3⟩:=XJ (bs.getD 0 0) f s
  by_cases k:FG bs &&& 32#8=0#8
  ·have h4:FG bs=192#8:=h3.2 k
   cases q:NQ (MK bs)with
   |true=>exact .inr (.inl ⟨if_pos ⟨λj hj=>of_decide_eq_true q j (by rw[ca];omega),k⟩,rfl,.inr ⟨h48,.inr ⟨h1,.inr ⟨h2,.inl ⟨h4,.inl ⟨q,rfl,rfl⟩⟩⟩⟩⟩,s⟩)
   |false=>
    have e:INF bs N=101:=if_neg (λz=>of_decide_eq_false q (λj hj=>z.1 j (by rw[ca]at hj;omega)))
    rw[e];exact .inl ⟨dc,rfl,.inr ⟨h48,.inr ⟨h1,.inr ⟨h2,.inl ⟨h4,.inr ⟨q,rfl,rfl⟩⟩⟩⟩⟩⟩
  ·have e:INF bs N=101:=if_neg (λz=>k z.2)
   rw[e];exact .inl ⟨dc,rfl,.inr ⟨h48,.inr ⟨h1,.inr ⟨h2,.inr ⟨λh=>k (h3.1 h),rfl,rfl⟩⟩⟩⟩⟩
 ·refine .inr (.inr ⟨h48,s, ?_,r⟩)
  rcases UQ (bs.getD 0 0) f s with h|h
  ·exact .inr ⟨h48,.inl ⟨h,rfl,rfl⟩⟩
  ·exact .inr ⟨h48,.inr ⟨f160 h,.inl ⟨h,rfl,rfl⟩⟩⟩
theorem r4w{A B C D:Prop}(h:(¬(A/\B)/\C)\/((A/\B)/\D)):(¬B/\A/\C)\/(B/\¬A/\C)\/(¬B/\¬A/\C)\/(B/\A/\D):=by
 rcases h with ⟨h,c⟩|⟨⟨a,b⟩,d⟩
 ·by_cases a:A
  ·exact .inl ⟨λb=>h ⟨a,b⟩,a,c⟩
  ·by_cases b:B
   ·exact .inr (.inl ⟨b,a,c⟩)
   ·exact .inr (.inr (.inl ⟨b,a,c⟩))
 ·exact .inr (.inr (.inr ⟨b,a,d⟩))
theorem Jd(p:J1.GP)(x y:Zp)(hP:p.P=some (x,y))(hJ:p.J=(x,y,1))(f:BitVec 8)(l:Bool)(hl:(f &&& 32#8 !=0#8)=l)(c:Int)(P:Pt Zp)(h:NY 0 (λQ=>IG1 Q) l x y c P)(on:E1.onP P):PUR 95 [J1.PtV p,.bool true,U8 f] (.tuple #[J1.PtV (cA1 P on),I c]):=by
 have hne:p.P=(J1.kp p).P↔y=0:=by
  show p.P=E1.ne p.P↔y=0;rw[hP];exact Ec.ne_iff E1
 have lf:(¬f &&& 32#8=0#8/\l=true)\/(f &&& 32#8=0#8/\l=false):=by
  cases l with
  |true=>exact .inl ⟨l_t hl,rfl⟩
  |false=>exact .inr ⟨l_f hl,rfl⟩
 have gp: ∀{t:J1.GP} {k:Int},((¬IG1 (some (x,y))/\t=J1.gInf/\k=104)\/(IG1 (some (x,y))/\p=t/\k=0))->¬(l=true/\y=0)->PUR 95 [J1.PtV p,.bool true,U8 f] (.tuple #[J1.PtV t,I k]):=λg hn=>by
  rw[<-hP]at g;rcases lf with ⟨h1,h2⟩|⟨h1,_⟩
  ·exact yj p _ f _ (.inl ⟨h1,.inr ⟨λk=>hn ⟨h2,hne.1 k⟩,g⟩⟩)
  ·exact yj p _ f _ (.inr ⟨h1,g⟩)
 rcases h with ⟨⟨rfl,hy⟩,rfl,rfl⟩|⟨hn,⟨g,rfl,rfl⟩|⟨g,rfl,rfl⟩⟩
 ·exact yj p _ f _ (.inl ⟨l_t hl,.inl ⟨hne.2 hy,rfl,rfl⟩⟩)
 ·exact gp (.inl ⟨g,rfl,rfl⟩) hn
 ·have e:J1.PtV (cA1 (some (x,y)) on)=J1.PtV p:=J1.ptv_eq hJ.symm
  rw[e];exact gp (.inr ⟨g,rfl,rfl⟩) hn
theorem RE(e:Option Addr)(cap:Nat)(bs:L8)(c:Int)(P:Pt Zp)(h:D1 bs c P)(on:E1.onP P)(hc:bs.length<=cap)(w:World)(hw:Gt w)(hby:BytesAt w e bs):CLS 45 [.slice e bs.length cap].toArray w (λr w'=>r=.returned (.tuple #[J1.PtV (cA1 P on),I c])/\Grow w w'):=by
 refine Hf func45 O hw<|λhGF=>ac (E:=EE [93,2000093])<|Al 2 hGF J1.zv54<|λb2=>Asg O<|aa<|ac (E:=EE [93,2000093])<|Mv O<|?_;rcases rd3 h with ⟨h0,rfl,hR⟩|⟨rfl,rfl,hR,h6⟩|⟨h48,h6,hR,h⟩
 ·refine Cc O ent92 (λw' hC hG=>nd e cap 48 bs dc dc hc _ _ hR w' hG (hby.grow (ab hC)))<|Mv O<|Ext O O<|Ext O O<|Asg O<|Asg O<|aa<|ae<|ac (E:=EE [93,2000093])<|Mv O<|Bnb true O O (λ_=>bz _ _ _) (bne_iff_ne.2 h0)<|Mv O<|Sk<|Sk<|Sk<|Pk O O O<|aa<|aP O<|ac (E:=EE [93,2000093])<|Ca O (J1.lq)<|Mv O<|Sa 2 hGF O O O cj<|Asg O<|aa<|ak<|Rr<|?_
  exact aZ 2 O O O O isAgg54 sizeOf54 sm (λw hw=>⟨rfl,ab hw⟩)
 ·refine Cc O ent92 (λw' hC hG=>nd e cap 48 bs dc dc hc _ _ hR w' hG (hby.grow (ab hC)))<|Mv O<|Ext O O<|Ext O O<|Asg O<|Asg O<|aa<|ae<|ac (E:=EE [93,2000093])<|Mv O<|Bnb false O O (λ_=>bz _ _ _) (rfl)<|Mv O<|Mv O<|Bnr (v:=U8 (FG bs &&& 64#8)) O O (λ_=>cy _ _ 64#8)<|Bnb true O O (λ_=>di _ _ 0#8) (bne_iff_ne.2 h6)<|Pk O O O<|aa<|aP O<|ac (E:=EE [93,2000093])<|Ca O (J1.lq)<|Mv O<|Sa 2 hGF O O O cj<|Asg O<|aa<|ak<|Rr<|?_
  exact aZ 2 O O O O isAgg54 sizeOf54 sm (λw hw=>⟨rfl,ab hw⟩)
 ·refine Cc O ent92 (λw' hC hG=>nd e cap 48 bs dc dc hc _ _ hR w' hG (hby.grow (ab hC)))<|Mv O<|Ext O O<|Ext O O<|Asg O<|Asg O<|aa<|ae<|ac (E:=EE [93,2000093])<|Mv O<|Bnb false O O (λ_=>bz _ _ _) (rfl)<|Mv O<|Mv O<|Bnr (v:=U8 (FG bs &&& 64#8)) O O (λ_=>cy _ _ 64#8)<|Bnb false O O (λ_=>di _ _ 0#8) (bne_eq_false_iff_eq.2 h6)<|Pk O O O<|aa<|aC O<|ap<|ac (E:=EE [93,2000093])<|Mv O<|?_
  refine bK O O ent93 O O (λw' hw'=>(xw e cap bs om om hc w' (hGF.g _ _ _ hw') (hby.grow (ab hw'))).mono λe' w'' h=> ?_);obtain ⟨b7,c7,k7,rfl,hg,hb7,hob,q3,q2⟩:=h;refine ⟨_,_,rfl,ay hGF,hw'.news am hg [(33,b7,c7,5)] ?_ bQ,bO am O, ?_⟩
  ·intro n' b' c' t' hl
   rcases aI hl with ⟨_,e⟩|⟨_,hl⟩
   ·cases e;exact ⟨hb7,hob⟩
   ·cases hl
  clear hw' hg hb7 hob;rcases h with ⟨hp,rfl,rfl⟩|⟨hp,h⟩
  ·refine Cc O ent74 (λw' hC hG=>qU _ _ _ (MK bs) (by rw[ca];exact h48) h48 (Jq h48▸hp) w' hG (cB (aG (n:=33) O w' hC) (by rw[ca];exact q3)))<|Mv O<|Ext O O<|Ext O O<|Al 6 hGF zv52<|λb6=>Sa 6 hGF O O O bM<|Asg O<|aa<|ae<|ac (E:=EE [93,2000093])<|Mv O<|bi O (λ_=>a5 _) O O<|aa<|aP O<|ac (E:=EE [93,2000093])<|Ca O (J1.lq)<|Sa 2 hGF O O O cj<|Asg O<|aa<|ak<|Rr<|?_
   exact aZ 2 O O O O isAgg54 sizeOf54 sm (λw hw=>⟨rfl,ab hw⟩)
  ·refine Cc O ent74 (λw' hC hG=>qm _ _ _ (MK bs) (by rw[ca];exact h48) h48 (Jq h48▸hp) (X1 bs) (by rw[<-Jq h48];rfl) w' hG (cB (aG (n:=33) O w' hC) (by rw[ca];exact q3)))<|Mv O<|Ext O O<|Ext O O<|Al 6 hGF zv52<|λb6=>Sa 6 hGF O O O bM<|Asg O<|aa<|ae<|ac (E:=EE [93,2000093])<|Mv O<|bi O (λ_=>a5 _) O O<|aa<|aC O<|ap<|ac (E:=EE [93,2000093])<|La 6 O O bM<|Mv O<|Bnr (v:=U8 (FG bs &&& 32#8)) O O (λ_=>cy _ _ 32#8)<|Bnr (v:=.bool (LB bs)) O O (λ_=>di _ _ 0#8)<|?_
   rcases h with ⟨hq,rfl,rfl⟩|⟨hq,h⟩
   ·refine Ca O (J1.yg (X1 bs) (LB bs) hq)<|Mv O<|Ext O O<|Ext O O<|Al 8 hGF J1.zv54<|λb8=>Sa 8 hGF O O O cj<|Asg O<|aa<|ac (E:=EE [93,2000093])<|La 8 O O cj<|Mv O<|Mv O<|Ca O (Ol _ _)<|Ext O O<|Ext O O<|Sa 2 hGF O O O cj<|Asg O<|aa<|ak<|Rr<|?_
    exact aZ 2 O O O O isAgg54 sizeOf54 sm (λw hw=>⟨rfl,ab hw⟩)
   ·refine Ca O (J1.w7 (X1 bs) (LB bs) hq)<|Mv O<|Ext O O<|Ext O O<|Al 8 hGF J1.zv54<|λb8=>Sa 8 hGF O O O cj<|Asg O<|aa<|ac (E:=EE [93,2000093])<|La 8 O O cj<|Mv O<|Mv O<|Ca O (Jd (J1.Df (X1 bs) (LB bs) hq) _ _ O O _ _ O c P h on)<|Ext O O<|Ext O O<|Sa 2 hGF O O O cj<|Asg O<|aa<|ak<|Rr<|?_
    exact aZ 2 O O O O isAgg54 sizeOf54 sm (λw hw=>⟨rfl,ab hw⟩)
theorem EL(e:Option Addr)(cap len:Nat)(bs:L8)(hn:bs.length=len)(c:Int)(P:Pt Zp)(h:D1 bs c P)(hc:len<=cap)(w:World)(hw:Gt w)(hby:BytesAt w e bs):CLS 45 [.slice e len cap].toArray w (λr w'=>r=.returned (.tuple #[J1.PtV (cA1 P (n4 h)),I c])/\Grow w w'):=by
 subst hn;exact RE e cap bs c P h (n4 h) hc w hw hby
theorem J9(p:J2.GP)(x y:W2)(hP:p.P=some (x,y))(hJ:p.J=(x,y,on2))(f:BitVec 8)(l:Bool)(hl:(f &&& 32#8 !=0#8)=l)(c:Int)(P:Pt W2)(h:NY ze2 (λQ=>IG2 Q) l x y c P)(on:E2w.onP P):PUR 192 [J2.PtV p,.bool true,U8 f] (.tuple #[J2.PtV (cA2 P on),I c]):=by
 have hne:p.P=(J2.kp p).P↔y=ze2:=by
  show p.P=E2w.ne p.P↔y=ze2;rw[hP];exact Ec.ne_iff E2w
 have lf:(¬f &&& 32#8=0#8/\l=true)\/(f &&& 32#8=0#8/\l=false):=by
  cases l with
  |true=>exact .inl ⟨l_t hl,rfl⟩
  |false=>exact .inr ⟨l_f hl,rfl⟩
 have gp: ∀{t:J2.GP} {k:Int},((¬IG2 (some (x,y))/\t=J2.gInf/\k=104)\/(IG2 (some (x,y))/\p=t/\k=0))->¬(l=true/\y=ze2)->PUR 192 [J2.PtV p,.bool true,U8 f] (.tuple #[J2.PtV t,I k]):=λg hn=>by
  rw[<-hP]at g;rcases lf with ⟨h1,h2⟩|⟨h1,_⟩
  ·exact xW p _ f _ (.inl ⟨h1,.inr ⟨λk=>hn ⟨h2,hne.1 k⟩,g⟩⟩)
  ·exact xW p _ f _ (.inr ⟨h1,g⟩)
 rcases h with ⟨⟨rfl,hy⟩,rfl,rfl⟩|⟨hn,⟨g,rfl,rfl⟩|⟨g,rfl,rfl⟩⟩
 ·exact xW p _ f _ (.inl ⟨l_t hl,.inl ⟨hne.2 hy,rfl,rfl⟩⟩)
 ·exact gp (.inl ⟨g,rfl,rfl⟩) hn
 ·have e:J2.PtV (cA2 (some (x,y)) on)=J2.PtV p:=J2.ptv_eq hJ.symm
  rw[e];exact gp (.inr ⟨g,rfl,rfl⟩) hn
theorem PG(e:Option Addr)(cap:Nat)(bs:L8)(c:Int)(P:Pt W2)(h:D2 bs c P)(on:E2w.onP P)(hc:bs.length<=cap)(w:World)(hw:Gt w)(hby:BytesAt w e bs):CLS 161 [.slice e bs.length cap].toArray w (λr w'=>r=.returned (.tuple #[J2.PtV (cA2 P on),I c])/\Grow w w'):=by
 refine Hf func161 O hw<|λhGF=>ac (E:=EE [93,2000093])<|Al 2 hGF J2.zv80<|λb2=>Asg O<|aa<|ac (E:=EE [93,2000093])<|Mv O<|?_;rcases rd3 h with ⟨h0,rfl,hR⟩|⟨rfl,rfl,hR,h6⟩|⟨h48,h6,hR,h⟩
 ·refine Cc O ent92 (λw' hC hG=>nd e cap 96 bs dc dc hc _ _ hR w' hG (hby.grow (ab hC)))<|Mv O<|Ext O O<|Ext O O<|Asg O<|Asg O<|aa<|ae<|ac (E:=EE [93,2000093])<|Mv O<|Bnb true O O (λ_=>bz _ _ _) (bne_iff_ne.2 h0)<|Mv O<|Sk<|Sk<|Sk<|Pk O O O<|aa<|aP O<|ac (E:=EE [93,2000093])<|Ca O (J2.lq)<|Mv O<|Sa 2 hGF O O O cm<|Asg O<|aa<|ak<|Rr<|?_
  exact aZ 2 O O O O isAgg80 sizeOf80 sm (λw hw=>⟨rfl,ab hw⟩)
 ·refine Cc O ent92 (λw' hC hG=>nd e cap 96 bs dc dc hc _ _ hR w' hG (hby.grow (ab hC)))<|Mv O<|Ext O O<|Ext O O<|Asg O<|Asg O<|aa<|ae<|ac (E:=EE [93,2000093])<|Mv O<|Bnb false O O (λ_=>bz _ _ _) (rfl)<|Mv O<|Mv O<|Bnr (v:=U8 (FG bs &&& 64#8)) O O (λ_=>cy _ _ 64#8)<|Bnb true O O (λ_=>di _ _ 0#8) (bne_iff_ne.2 h6)<|Pk O O O<|aa<|aP O<|ac (E:=EE [93,2000093])<|Ca O (J2.lq)<|Mv O<|Sa 2 hGF O O O cm<|Asg O<|aa<|ak<|Rr<|?_
  exact aZ 2 O O O O isAgg80 sizeOf80 sm (λw hw=>⟨rfl,ab hw⟩)
 ·refine Cc O ent92 (λw' hC hG=>nd e cap 96 bs dc dc hc _ _ hR w' hG (hby.grow (ab hC)))<|Mv O<|Ext O O<|Ext O O<|Asg O<|Asg O<|aa<|ae<|ac (E:=EE [93,2000093])<|Mv O<|Bnb false O O (λ_=>bz _ _ _) (rfl)<|Mv O<|Mv O<|Bnr (v:=U8 (FG bs &&& 64#8)) O O (λ_=>cy _ _ 64#8)<|Bnb false O O (λ_=>di _ _ 0#8) (bne_eq_false_iff_eq.2 h6)<|Pk O O O<|aa<|aC O<|ap<|ac (E:=EE [93,2000093])<|Mv O<|?_
  refine bK O O ent93 O O (λw' hw'=>(xw e cap bs om om hc w' (hGF.g _ _ _ hw') (hby.grow (ab hw'))).mono λe' w'' h=> ?_);obtain ⟨b7,c7,k7,rfl,hg,hb7,hob,q3,q2⟩:=h;refine ⟨_,_,rfl,ay hGF,hw'.news am hg [(33,b7,c7,5)] ?_ bQ,bO am O, ?_⟩
  ·intro n' b' c' t' hl
   rcases aI hl with ⟨_,e⟩|⟨_,hl⟩
   ·cases e;exact ⟨hb7,hob⟩
   ·cases hl
  clear hw' hg hb7 hob;refine Asg O<|aa<|ac (E:=EE [93,2000093])<|Mv O<|f8 (l:=0) (h':=48) (m:=48) O underlying22 sizeOf5 O O O ⟨dc,Nat.le_refl _,om⟩ O O<|?_;rcases r4w h with ⟨hp2,hp,rfl,rfl⟩|⟨hp2,hp,rfl,rfl⟩|⟨hp2,hp,rfl,rfl⟩|⟨hp2,hp,h⟩
  ·refine Cc O ent74 (λw' hC hG=>qU _ _ _ (LO bs 0) (kU om) O hp2 w' hG (BytesAt.cut3 (cB (aG (n:=33) O w' hC) (by rw[ca];exact q3)) 0 48 48 dc))<|Mv O<|Ext O O<|Ext O O<|Al 7 hGF zv52<|λb7=>Sa 7 hGF O O O bM<|Asg O<|aa<|ac (E:=EE [93,2000093])<|Mv O<|f8 (l:=48) (h':=96) (m:=96) O underlying22 sizeOf5 O O O ⟨dc,Nat.le_refl _,om⟩ O O<|Cc O ent74 (λw' hC hG=>qm _ _ _ (LO bs 48) (kU om) O hp (X2 bs).1 O w' hG (BytesAt.cut3 (cB (aG (n:=33) O w' hC) (by rw[ca];exact q3)) 48 48 96 dc))<|Mv O<|Ext O O<|Ext O O<|Al 9 hGF zv52<|λb9=>Sa 9 hGF O O O bM<|Asg O<|aa<|ae<|ac (E:=EE [93,2000093])<|Mv O<|bi O (λ_=>a5 _) O O<|Mv O<|Sk<|Sk<|Pk O O O<|aa<|aP O<|ac (E:=EE [93,2000093])<|Ca O (J2.lq)<|Sa 2 hGF O O O cm<|Asg O<|aa<|ak<|Rr<|?_
   exact aZ 2 O O O O isAgg80 sizeOf80 sm (λw hw=>⟨rfl,ab hw⟩)
  ·refine Cc O ent74 (λw' hC hG=>qm _ _ _ (LO bs 0) (kU om) O hp2 (X2 bs).2 O w' hG (BytesAt.cut3 (cB (aG (n:=33) O w' hC) (by rw[ca];exact q3)) 0 48 48 dc))<|Mv O<|Ext O O<|Ext O O<|Al 7 hGF zv52<|λb7=>Sa 7 hGF O O O bM<|Asg O<|aa<|ac (E:=EE [93,2000093])<|Mv O<|f8 (l:=48) (h':=96) (m:=96) O underlying22 sizeOf5 O O O ⟨dc,Nat.le_refl _,om⟩ O O<|Cc O ent74 (λw' hC hG=>qU _ _ _ (LO bs 48) (kU om) O hp w' hG (BytesAt.cut3 (cB (aG (n:=33) O w' hC) (by rw[ca];exact q3)) 48 48 96 dc))<|Mv O<|Ext O O<|Ext O O<|Al 9 hGF zv52<|λb9=>Sa 9 hGF O O O bM<|Asg O<|aa<|ae<|ac (E:=EE [93,2000093])<|Mv O<|bi O (λ_=>a5 _) O O<|Mv O<|Mv O<|bi O (λ_=>a5 _) O O<|Pk O O O<|aa<|aP O<|ac (E:=EE [93,2000093])<|Ca O (J2.lq)<|Sa 2 hGF O O O cm<|Asg O<|aa<|ak<|Rr<|?_
   exact aZ 2 O O O O isAgg80 sizeOf80 sm (λw hw=>⟨rfl,ab hw⟩)
  ·refine Cc O ent74 (λw' hC hG=>qU _ _ _ (LO bs 0) (kU om) O hp2 w' hG (BytesAt.cut3 (cB (aG (n:=33) O w' hC) (by rw[ca];exact q3)) 0 48 48 dc))<|Mv O<|Ext O O<|Ext O O<|Al 7 hGF zv52<|λb7=>Sa 7 hGF O O O bM<|Asg O<|aa<|ac (E:=EE [93,2000093])<|Mv O<|f8 (l:=48) (h':=96) (m:=96) O underlying22 sizeOf5 O O O ⟨dc,Nat.le_refl _,om⟩ O O<|Cc O ent74 (λw' hC hG=>qU _ _ _ (LO bs 48) (kU om) O hp w' hG (BytesAt.cut3 (cB (aG (n:=33) O w' hC) (by rw[ca];exact q3)) 48 48 96 dc))<|Mv O<|Ext O O<|Ext O O<|Al 9 hGF zv52<|λb9=>Sa 9 hGF O O O bM<|Asg O<|aa<|ae<|ac (E:=EE [93,2000093])<|Mv O<|bi O (λ_=>a5 _) O O<|Mv O<|Sk<|Sk<|Pk O O O<|aa<|aP O<|ac (E:=EE [93,2000093])<|Ca O (J2.lq)<|Sa 2 hGF O O O cm<|Asg O<|aa<|ak<|Rr<|?_
   exact aZ 2 O O O O isAgg80 sizeOf80 sm (λw hw=>⟨rfl,ab hw⟩)
  ·refine Cc O ent74 (λw' hC hG=>qm _ _ _ (LO bs 0) (kU om) O hp2 (X2 bs).2 O w' hG (BytesAt.cut3 (cB (aG (n:=33) O w' hC) (by rw[ca];exact q3)) 0 48 48 dc))<|Mv O<|Ext O O<|Ext O O<|Al 7 hGF zv52<|λb7=>Sa 7 hGF O O O bM<|Asg O<|aa<|ac (E:=EE [93,2000093])<|Mv O<|f8 (l:=48) (h':=96) (m:=96) O underlying22 sizeOf5 O O O ⟨dc,Nat.le_refl _,om⟩ O O<|Cc O ent74 (λw' hC hG=>qm _ _ _ (LO bs 48) (kU om) O hp (X2 bs).1 O w' hG (BytesAt.cut3 (cB (aG (n:=33) O w' hC) (by rw[ca];exact q3)) 48 48 96 dc))<|Mv O<|Ext O O<|Ext O O<|Al 9 hGF zv52<|λb9=>Sa 9 hGF O O O bM<|Asg O<|aa<|ae<|ac (E:=EE [93,2000093])<|Mv O<|bi O (λ_=>a5 _) O O<|Mv O<|Mv O<|bi O (λ_=>a5 _) O O<|Pk O O O<|aa<|aC O<|ap<|ac (E:=EE [93,2000093])<|La 9 O O bM<|La 7 O O bM<|co fV O O sm sm O O<|Mv O<|Bnr (v:=U8 (FG bs &&& 32#8)) O O (λ_=>cy _ _ 32#8)<|Bnr (v:=.bool (LB bs)) O O (λ_=>di _ _ 0#8)<|?_
   rcases h with ⟨hq,rfl,rfl⟩|⟨r,hr,hlr,h⟩
   ·refine Ca O (J2.yg (X2 bs) (LB bs) hq)<|Mv O<|Ext O O<|Ext O O<|Al 11 hGF J2.zv80<|λb11=>Sa 11 hGF O O O cm<|Asg O<|aa<|ac (E:=EE [93,2000093])<|La 11 O O cm<|Mv O<|Mv O<|Ca O (QR _ _)<|Ext O O<|Ext O O<|Sa 2 hGF O O O cm<|Asg O<|aa<|ak<|Rr<|?_
    exact aZ 2 O O O O isAgg80 sizeOf80 sm (λw hw=>⟨rfl,ab hw⟩)
   ·refine Ca O (J2.w7 (X2 bs) r hr hlr (LB bs))<|Mv O<|Ext O O<|Ext O O<|Al 11 hGF J2.zv80<|λb11=>Sa 11 hGF O O O cm<|Asg O<|aa<|ac (E:=EE [93,2000093])<|La 11 O O cm<|Mv O<|Mv O<|Ca O (J9 (J2.gRt (X2 bs) r hr (LB bs)) _ _ O O _ _ O c P h on)<|Ext O O<|Ext O O<|Sa 2 hGF O O O cm<|Asg O<|aa<|ak<|Rr<|?_
    exact aZ 2 O O O O isAgg80 sizeOf80 sm (λw hw=>⟨rfl,ab hw⟩)
theorem Sn(e:Option Addr)(cap len:Nat)(bs:L8)(hn:bs.length=len)(c:Int)(P:Pt W2)(h:D2 bs c P)(hc:len<=cap)(w:World)(hw:Gt w)(hby:BytesAt w e bs):CLS 161 [.slice e len cap].toArray w (λr w'=>r=.returned (.tuple #[J2.PtV (cA2 P (nI h)),I c])/\Grow w w'):=by
 subst hn;exact PG e cap bs c P h (nI h) hc w hw hby
end
section
open Go.RowKit
namespace Q6
attribute [local simp] a6 bv aH aA aQ aY aR aK aM PLl cJ cH N1l cI cL cK bf bB a7 bu
def FF(f:Nat->W2)(i:Nat):L6:=fe2 (f i)
theorem gG(f:Nat->W2)(v:W2)(n k o:Nat)(hk:k<n)(ho:o=12*k)(hv:f k=v): ∀j u,((fe v.1++fe v.2).map U64)[j]? =some u->((FM (FF f) n).map U64)[o+j]? =some u:=by
 subst hv;exact z8 (FF f) n k hk (a7 _) o ho
theorem tw(f g:Nat->W2)(v:W2)(n k o:Nat)(hk:k<n)(ho:o=12*k)(hg: ∀i,i<n->g i=if i=k then v else f i):lay o ((fe v.1++fe v.2).map U64) ((FM (FF f) n).map U64)=(FM (FF g) n).map U64:=by
 have h:=ue (FF f) n k (fe2 v) hk (a7 _) o ho;refine h.trans (congrArg (List.map U64) (mH λi hi=> ?_));show (if i=k then fe2 v else fe2 (f i))=fe2 (g i)
 rw[hg i hi];split<;>rfl
theorem wy{f g:Nat->W2}{n:Nat}(h: ∀i,i<n->f i=g i):FM (FF f) n=FM (FF g) n:=mH λi hi=>congrArg fe2 (h i hi)
theorem gi(f:Nat->W2)(n:Nat):(FM (FF f) n).length=12*n:=bu _ _
theorem xU(A B:Nat->W2)(i j:Nat):(if j<i+1 then A j else B j)=if j=i then A i else (if j<i then A j else B j):=by
 by_cases h:j=i
 ·subst h;rw[if_pos (Nat.lt_succ_self _),if_pos O]
 ·rw[if_neg h]
  by_cases h':j<i
  ·rw[if_pos h',if_pos (Nat.lt_succ_of_lt h')]
  ·rw[if_neg h',if_neg (λe=>h' (Nat.lt_of_le_of_ne (Nat.le_of_lt_succ e) h))]
theorem uR(n:Nat):FM (FF λ_=>ze2) n=FM (λ_=>List.replicate 12 0#64) n:=mH λi _=>by
 show fe2 ze2=_;rw[show fe2 ze2=fe 0++fe 0 from O,i2];rfl
attribute [local simp] gi
end Q6
end
section
open Go.RowKit
theorem ent224:ai prog 224:=λ_ _=>kr
theorem ent259:ai prog 259:=λ_ _=>kr
theorem ent226:ai prog 226:=λ_ _=>kr
theorem ent274:ai prog 274:=λ_ _=>kr
theorem ent227:ai prog 227:=λ_ _=>kr
theorem ent231:ai prog 231:=λ_ _=>kr
theorem ent203:ai prog 203:=λ_ _=>kr
theorem ent258:ai prog 258:=λ_ _=>kr
theorem ent225:ai prog 225:=λ_ _=>kr
theorem ent232:ai prog 232:=λ_ _=>kr
theorem ent202:ai prog 202:=λ_ _=>kr
theorem ent234:ai prog 234:=λ_ _=>kr
namespace Q6
attribute [local simp] a6 bv aH aA aQ aY aR aK aM PLl cJ cH N1l cI cL cK bf bB a7 bu gi
abbrev EV6(x:W6):Value:=aJ ((fe (x.1).1++fe (x.1).2)++((fe (x.2.1).1++fe (x.2.1).2)++(fe (x.2.2).1++fe (x.2.2).2)))
theorem zv209(w:World):(zeroValue 209).run prog w=.ok (aJ ((fe 0++fe 0)++((fe 0++fe 0)++(fe 0++fe 0)))) w:=by rw[i2];exact (zeroValue209 w).trans rr
theorem kT:Three prog 209 ⟨ "C0",78,0,false, "", "",0⟩ ⟨ "C1",78,12,false, "", "",96⟩ ⟨ "C2",78,24,false, "", "",192⟩ 12 (fe 0++fe 0) (fe 0++fe 0) (fe 0++fe 0):=⟨underlying209,rfl,rfl,rfl,sizeOf78,sizeOf78,sizeOf78,zv209,sm,sm,sm⟩
theorem e6{a b c a' b' c':W2}(h1:a=a')(h2:b=b')(h3:c=c'):Ending.returned (aJ ((fe (a).1++fe (a).2)++((fe (b).1++fe (b).2)++(fe (c).1++fe (c).2))))=.returned (aJ ((fe (a').1++fe (a').2)++((fe (b').1++fe (b').2)++(fe (c').1++fe (c').2)))):=by rw[h1,h2,h3]
def q6:Sh W6:=q2.two (q2.two q2 2) 2
theorem V6(x:W6):EV6 x=dn rid (.inl [x.1.1,x.1.2,x.2.1.1,x.2.1.2,x.2.2.1,x.2.2.2]):=by
 show Value.agg _=Value.agg _;rw[clv,show cel [x.1.1,x.1.2,x.2.1.1,x.2.1.2,x.2.2.1,x.2.2.2]=fe x.1.1++(fe x.1.2++(fe x.2.1.1++(fe x.2.1.2++(fe x.2.2.1++fe x.2.2.2))))from O];rw[List.append_assoc,List.append_assoc]
theorem bT{f:Nat}{a a':List Value}{v v':Value}(ha:a=a')(hv:v=v')(h:PUR f a' v'):PUR f a v:=by rw[ha,hv];exact h
theorem l1{a b:Value}(h:a=b):[a]=[b]:=by rw[h]
theorem l2{a b c d:Value}(h:a=b)(k:c=d):[a,c]=[b,d]:=by rw[h,k]
theorem l3{a b c d e f:Value}(h:a=b)(k:c=d)(l:e=f):[a,c,e]=[b,d,f]:=by rw[h,k,l]
end Q6
end
section
open Go.RowKit
theorem ent262:ai prog 262:=λ_ _=>kr
namespace Q6
attribute [local simp] a6 bv aH aA aQ aY aR aK aM PLl cJ cH N1l cI cL cK bf bB a7 bu gi
def p3(x:W6):Nat->W2
 |0=>x.1
 |1=>x.2.1
 |_=>x.2.2
theorem zv264(w:World):(zeroValue 264).run prog w=.ok (aJ (FM (FF λ_=>ze2) 3)) w:=by
 rw[uR];exact (zeroValue264 w).trans rr
abbrev TV3(f:Nat->W2):Value:=aJ (FM (FF f) 3)
theorem qh(f:Nat->W2)(i:Nat):(FF f i).length=12:=a7 _
attribute [local simp] qh
theorem N5{x y:W6}(h: ∀j,j<3->p3 x j=p3 y j):x=y:=Prod.ext (h 0 dc) (Prod.ext (h 1 dc) (h 2 dc))
theorem lt_s{Q:Nat->Prop}{k:Nat}(h: ∀j,j<k->Q j)(hk:Q k): ∀j,j<k+1->Q j:=λj hj=>by
 rcases Nat.lt_or_ge j k with h1|h1
 ·exact h j h1
 ·obtain rfl:j=k:=om
  exact hk
theorem Hm(x:W6):PUR 233 [EV6 x] (TV3 (p3 x)):=by
 intro w hw;refine Hf func233 O hw<|λhGF=>Xp<|Bx 1 hGF O<|λb1=>Al 2 hGF zv264<|λb2=>aa<|Xp<|Fa 0 O underlying209 O sizeOf78<|aw 1 _ O O isAgg78 sizeOf78 sm ej O O<|Fa 12 O underlying209 O sizeOf78<|aw 1 _ O O isAgg78 sizeOf78 sm (km sm) O O<|Fa 24 O underlying209 O sizeOf78<|aw 1 _ O O isAgg78 sizeOf78 sm (gc (m:=12) (n:=12) sm sm O) O O<|Jm (FF (p3 x)) O O O underlying264 sizeOf78 zv264 (a7 _) (a7 _) (a7 _) O O<|Sa 2 hGF O O O ET<|aa<|ak<|Rr<|?_;exact au 2 O O O isAgg264 sizeOf264 sm (λw hw=>⟨rfl,ab hw⟩)
theorem k6of(f:Nat->W2):PUR 261 [TV3 f] (EV6 (f 0,f 1,f 2)):=by
 intro w hw;refine Hf func261 O hw<|λhGF=>Xp<|Bx 1 hGF O<|λb1=>Al 2 hGF zv209<|λb2=>aa<|Xp<|fx (0) (12*(0)) O O underlying264 sizeOf78 om om om O O<|aw 1 ((fe (f 0).1++fe (f 0).2).map U64) O O isAgg78 sizeOf78 sm (gG _ (f 0) 3 (0) _ om O (rfl)) O O<|fx (1) (12*(1)) O O underlying264 sizeOf78 om om om O O<|aw 1 ((fe (f 1).1++fe (f 1).2).map U64) O O isAgg78 sizeOf78 sm (gG _ (f 1) 3 (1) _ om O (rfl)) O O<|fx (2) (12*(2)) O O underlying264 sizeOf78 om om om O O<|aw 1 ((fe (f 2).1++fe (f 2).2).map U64) O O isAgg78 sizeOf78 sm (gG _ (f 2) 3 (2) _ om O (rfl)) O O<|ef kT O O O sm sm sm O O<|Sa 2 hGF O O O dx<|aa<|ak<|Rr<|?_;exact au 2 O O O isAgg209 sizeOf209 sm (λw hw=>⟨rfl,ab hw⟩)
theorem lD(x:W6)(w:World)(hw:Gt w):CLS 234 [EV6 x].toArray w (λe w'=> ∃b1,e=.returned (.func (.func 262) #[] #[pnt b1])/\Grow w w'/\w.heap.size<=b1/\OwnB w' b1 (((fe (x.1).1++fe (x.1).2)++((fe (x.2.1).1++fe (x.2.1).2)++(fe (x.2.2).1++fe (x.2.2).2))).map U64) 209):=by
 refine Hf func234 O hw<|λhGF=>Xp<|Bx 1 hGF O<|λb1=>Asg O<|aa<|Xp<|gj O O O O<|Asg O<|aa<|ak<|Rr<|?_;exact aE O O (λw hw=>⟨b1,rfl,ab hw,(hw.own 1 b1 _ _ O).2.elim id False.elim,(hw.own 1 b1 _ _ O).1⟩)
def PS(x:W6):List (List Value):=(List.range 3).map λ(k:Nat)=>[I (k:Int),EV2 (p3 x k)]
theorem sD(x:W6):(PS x).length=3:=by rw[PS,List.length_map,List.length_range]
theorem Hj(x:W6)(k:Nat)(h:k<3):(PS x)[k]? =some [I (k:Int),EV2 (p3 x k)]:=by
 rw[PS,List.getElem?_map,List.getElem?_range h];rfl
theorem MT(x:W6)(k:Nat)(v:List Value)(h:(PS x)[k]? =some v):k<3/\v=[I (k:Int),EV2 (p3 x k)]:=by
 have hk:k<3:=by
  rcases Nat.lt_or_ge k 3 with hk|hk
  ·exact hk
  ·rw[List.getElem?_eq_none (by rw[sD];exact hk)]at h;cases h
 exact ⟨hk,(Option.some.inj ((Hj x k hk).symm.trans h)).symm⟩
def RdP(bb:Nat)(x:W6):Cls:=λw=>w.rangeAt bb 0 (((fe (x.1).1++fe (x.1).2)++((fe (x.2.1).1++fe (x.2.1).2)++(fe (x.2.2).1++fe (x.2.2).2))).map U64)
theorem Li(bb:Nat)(x:W6):fD prog Gt 262 [pnt bb] (PS x) (RdP bb x):=by
 intro l J Jx hJ hJx hRd hGx hY w hj;have okJ: ∀k,BOk Gt (Bi w (λY=>J Y k)):=λk=>⟨λ_ _ _ h=>(hRd _ _ _ h.rid).1,hJ k⟩;have okX: ∀k,BOk Gt (Bi w (λY=>Jx Y k)):=λk=>⟨λ_ _ _ h=>hGx _ _ _ h.rid,hJx k⟩;have c1: ∀k L w',Hp (Bi w (λY=>J Y k)) L w'->RdP bb x w':=λk L w' h=>(hRd _ _ _ h.rid).2;refine cu (G:=Gt) func262 O O (Hp (Bi w (λY=>J Y 0)) []) (ci (Bi w _) hj (hJ 0)) (ay (okJ 0))<|Xp<|de O isAgg209 sizeOf209 sm (λw h=>c1 _ _ w h) O O<|Ca O (Hm _)<|Mv O<|aa<|ah<|gy (ι:={i:Nat // i<=3}) (λy=>[(0,.func (.yield l) #[] #[]),(1,pnt bb),(6,TV3 (p3 x)),(7,I (y.1:Int))]) (λy=>Bi w (λY=>J Y y.1)) (λy=>[]) (λy=>3-y.1) ⟨0,Nat.zero_le _⟩ (λ_=>okJ _) O trv trivial<|?_;rintro ⟨i,hi⟩;dsimp only;refine Xp<|Bnr O O (λ_=>av _ _ _)<|aa<|ae<|?_;refine bC O (λhc=> ?_) (λhc=> ?_)
 ·have hi2:i<3:=by simp at hc;omega
  refine ap<|ae<|ah<|Xp<|Mv O<|zG (FF (p3 x)) (i) O O underlying264 sizeOf78 isAgg78 om om (a7 _) O O<|Al 4 (okJ _) zv78<|λb4=>Asg O<|Sa 4 (okJ _) O O O aW<|aa<|Xp<|Mv O<|Mv O<|La 4 O O aW<|?_;refine dw (hY.b (k:=i) (Hj x i om) w) (okJ _) (okX _) O O O O O ?_ ?_
  ·refine bi O (λ_=>a5 _) O O<|aa<|aC O<|ap<|Xq<|Bnr O O (λ_=>aq _ _ _ oi)<|Mv O<|aa<|?_
   repeat (refine aL ?_)
   exact aB<|⟨rfl,⟨i+1,om⟩,_,by show 3-(i+1)<3-i;omega,rfl,trv,trivial⟩
  ·refine bi O (λ_=>a5 _) O O<|aa<|aP O<|ak<|Rr<|?_
   repeat (first|refine du ?_|refine ck ?_|refine dK O ?_|refine bJ ?_|refine bI ?_)
   exact dr O (λw hw=>⟨⟨_,rfl⟩,.inr ⟨_,bZ (hJx _) hw.rid⟩⟩)
 ·obtain rfl:i=3:=by simp at hc;omega
  refine aU ?_
  repeat (first|refine du ?_|refine ck ?_|refine dK O ?_|refine bJ ?_|refine bI ?_)
  refine cS O (λw hw=>⟨⟨_,rfl⟩,.inl ?_⟩);have:=bZ (hJ _) hw.rid;rw[sD];exact this
theorem LI  :PUR 203 [] (EV6 K6.one):=(bT O (V6 _) (pE TO52 func203 [] (.inl (.inl [K6.one.1.1,K6.one.1.2,K6.one.2.1.1,K6.one.2.1.2,K6.one.2.2.1,K6.one.2.2.2])) (let t0:=on2;(.inl (.inl [t0.1,t0.2,0,0,0,0]),[])) [] kr aD O))
theorem zi{f:Nat}{g:W6}(en:ai prog f)(h:PUR f [] (EV6 g)):Snd prog Gt f (c0 q6.rd g):=vJ q6.rd en (bT O (V6 _).symm h)
def TO53:Tb prog Gt:=TO52.add (zi (g:=K6.one) ent203 LI)
theorem oC(x y:W6):PUR 202 [EV6 x,EV6 y] (.bool (decide (x=y))):=by
 intro w hw;have hGF:BOk Gt (pl w):=gt_low.plain hw;refine cw (G:=Gt) func202 O O (Hp (pl w) []) (ci (pl w) trivial am) (ay hGF)<|ac (E:=EE [234])<|Bx 2 hGF O<|λb2=>Bx 3 hGF O<|λb3=>gX 4 hGF zeroValue4 O O<|λb4=>aa<|ac (E:=EE [234])<|La 3 O O dx<|Ca O (Hm _)<|Al 5 hGF zv264<|λb5=>Sa 5 hGF O O O ET<|aa<|ae<|ac (E:=EE [234])<|La 2 O O dx<|?_;refine dy O O ent234 O O (λw' hw'=>(lD x w' (hGF.g _ _ _ hw')).mono λe' w'' h=> ?_);obtain ⟨c1,rfl,hg,h1,ho⟩:=h;refine ⟨_,_,rfl,ay hGF,hw'.news am hg [(33,c1,((fe (x.1).1++fe (x.1).2)++((fe (x.2.1).1++fe (x.2.1).2)++(fe (x.2.2).1++fe (x.2.2).2))).map U64,209)] ?_ bQ, ?_⟩
 ·intro n' b' c' t' hl
  rcases aI hl with ⟨_,e⟩|⟨_,hl⟩
  ·cases e;exact ⟨h1,ho⟩
  ·cases hl
 clear hw' hg h1 ho;refine aa<|ah<|?_;refine uM (λk=> ∀j,j<k->p3 x j=p3 y j) (λ_=>pl w) (λ_ _=>pl w) (λ_=>hGF) (λ_ _=>hGF) (λ_=>rfl) (λ_ _=>rfl) O O ent262 (Li c1 x) (λv hv=>by obtain ⟨k,hk,rfl⟩:=List.mem_map.1 hv;rfl) O (λk=>[(2,b2,((fe (x.1).1++fe (x.1).2)++((fe (x.2.1).1++fe (x.2.1).2)++(fe (x.2.2).1++fe (x.2.2).2))).map U64,209),(3,b3,((fe (y.1).1++fe (y.1).2)++((fe (y.2.1).1++fe (y.2.1).2)++(fe (y.2.2).1++fe (y.2.2).2))).map U64,209),(4,b4,[.bool false],4),(5,b5,(FM (FF (p3 y)) 3).map U64,264),(33,c1,((fe (x.1).1++fe (x.1).2)++((fe (x.2.1).1++fe (x.2.1).2)++(fe (x.2.2).1++fe (x.2.2).2))).map U64,209)]) (λc _ L'=>c=.ret/\lkB L' 4=some (b4,[.bool false],4)/\¬x=y) (λj h=>absurd h (Nat.not_lt_zero j)) trv (λk _ w' h=>aG (n:=33) O w' h) ?_ ?_ ?_ (λD c k L' hD h=>by obtain ⟨rfl,hl,hne⟩:=h;refine GT ?_;refine bI ?_;refine bJ ?_;exact (dR (.inl O) am (sh 4 O O hl isAgg4 (λw hw=>⟨congrArg (λb=>Ending.returned (.bool b)) (decide_eq_false hne).symm,ab hw⟩))))
 ·intro k v hx hQ R hR
  obtain ⟨hk,rfl⟩:=MT x k v hx;refine ac (E:=EE [234])<|Asg O<|aa<|bF (E:=EE [234])<|dN 7 (hR (pl w) O hGF).1 zv78 O O<|λb7=>az 7 (hR (pl w) O hGF).1 O O O sizeOf78 sm sm (ba _) O<|aa<|?_;refine ⟨rfl,_,rfl, ?_⟩;refine ah<|Xd [234]<|La 7 O O aW<|Mv O<|fx (k) (12*(k)) O O underlying264 sizeOf78 om om om O O<|aw 5 ((fe (p3 y k).1++fe (p3 y k).2).map U64) O O isAgg78 sizeOf78 sm (gG _ (p3 y k) 3 (k) _ om O (rfl)) O O<|Ca O (sR _ _)<|bi O (λ_=>a5 _) O O<|aa<|?_;refine bC O (λhc=> ?_) (λhc=> ?_)
  ·have hc: ¬p3 x k=p3 y k:=by simpa using hc
   refine ac (E:=EE [234])<|dS 4 (hR (pl w) O hGF).2.1 O O O sizeOf4 O (by simp[*]) O<|aa<|ak<|Rr<|?_
   refine Rr ?_;exact ⟨_,rfl,rfl,rfl,λe=>hc (by rw[e])⟩
  ·have hc:p3 x k=p3 y k:=by simpa using hc
   refine ap ?_
   repeat (refine aL ?_)
   exact ⟨_,rfl,Oe (lt_s hQ hc) trv⟩
 ·intro hQ D hD
  rw[sD]at*;have hxy:=N5 hQ;refine ac (E:=EE [234])<|dS 4 hD O O O sizeOf4 O (by simp[*]) O<|aa<|ak<|Rr<|?_
  exact dR (.inl O) am (sh 4 O O O isAgg4 (λw hw=>⟨congrArg (λb=>Ending.returned (.bool b)) (decide_eq_true hxy).symm,ab hw⟩))
 ·intro D hb
  exact aL<|aB<|qz hb
theorem nT(x y:W6):PUR 225 [EV6 x,EV6 y] (EV6 (K6.add x y)):=(bT (l2 (V6 _) (V6 _)) (V6 _) (pE TO53 func225 [.inl [x.1.1,x.1.2,x.2.1.1,x.2.1.2,x.2.2.1,x.2.2.2],.inl [y.1.1,y.1.2,y.2.1.1,y.2.1.2,y.2.2.1,y.2.2.2]] (.inl (.inl [(K6.add x y).1.1,(K6.add x y).1.2,(K6.add x y).2.1.1,(K6.add x y).2.1.2,(K6.add x y).2.2.1,(K6.add x y).2.2.2])) (let t0:=ad2 (x.1.1,x.1.2) (y.1.1,y.1.2);let t1:=ad2 (x.2.1.1,x.2.1.2) (y.2.1.1,y.2.1.2);let t2:=ad2 (x.2.2.1,x.2.2.2) (y.2.2.1,y.2.2.2);(.inl (.inl [t0.1,t0.2,t1.1,t1.2,t2.1,t2.2]),[])) [] kr aD O))
theorem cx{f:Nat}{g:W6->W6->W6}(en:ai prog f)(h: ∀a b,PUR f [EV6 a,EV6 b] (EV6 (g a b))):Snd prog Gt f (c2 q6.ag q6.ag q6.rd g):=gv q6.ag q6.ag q6.rd en (λa b=>bT (l2 (V6 _).symm (V6 _).symm) (V6 _).symm (h a b))
def TO54:Tb prog Gt:=TO53.add (cx (g:=K6.add) ent225 nT)
theorem o5(x y:W6):PUR 227 [EV6 x,EV6 y] (EV6 (sb6 x y)):=(bT (l2 (V6 _) (V6 _)) (V6 _) (pE TO54 func227 [.inl [x.1.1,x.1.2,x.2.1.1,x.2.1.2,x.2.2.1,x.2.2.2],.inl [y.1.1,y.1.2,y.2.1.1,y.2.1.2,y.2.2.1,y.2.2.2]] (.inl (.inl [(sb6 x y).1.1,(sb6 x y).1.2,(sb6 x y).2.1.1,(sb6 x y).2.1.2,(sb6 x y).2.2.1,(sb6 x y).2.2.2])) (let t0:=sb2 (x.1.1,x.1.2) (y.1.1,y.1.2);let t1:=sb2 (x.2.1.1,x.2.1.2) (y.2.1.1,y.2.1.2);let t2:=sb2 (x.2.2.1,x.2.2.2) (y.2.2.1,y.2.2.2);(.inl (.inl [t0.1,t0.2,t1.1,t1.2,t2.1,t2.2]),[])) [] kr aD O))
def TO55:Tb prog Gt:=TO54.add (cx (g:=sb6) ent227 o5)
theorem EA(x:W6):PUR 232 [EV6 x] (EV6 (K6.neg x)):=(bT (l1 (V6 _)) (V6 _) (pE TO55 func232 [.inl [x.1.1,x.1.2,x.2.1.1,x.2.1.2,x.2.2.1,x.2.2.2]] (.inl (.inl [(K6.neg x).1.1,(K6.neg x).1.2,(K6.neg x).2.1.1,(K6.neg x).2.1.2,(K6.neg x).2.2.1,(K6.neg x).2.2.2])) (let t0:=ng2 (x.1.1,x.1.2);let t1:=ng2 (x.2.1.1,x.2.1.2);let t2:=ng2 (x.2.2.1,x.2.2.2);(.inl (.inl [t0.1,t0.2,t1.1,t1.2,t2.1,t2.2]),[])) [] kr aD O))
theorem cN{f:Nat}{g:W6->W6}(en:ai prog f)(h: ∀a,PUR f [EV6 a] (EV6 (g a))):Snd prog Gt f (c1 q6.ag q6.rd g):=gt q6.ag q6.rd en (λa=>bT (l1 (V6 _).symm) (V6 _).symm (h a))
def TO56:Tb prog Gt:=TO55.add (cN (g:=K6.neg) ent232 EA)
theorem mY(x y:W6):PUR 224 [EV6 x,EV6 y] (EV6 (K6.mul x y)):=by
 intro w hw;refine Hf func224 O hw<|λhGF=>Xp<|Bx 2 hGF O<|λb2=>Bx 3 hGF O<|λb3=>Al 4 hGF zv209<|λb4=>aa<|fG (E:=EE [2999999]) [0,1,2,3,4,5,6,7,8,9,10,11,12,13,14] [⟨15,5,78,(fe 0++fe 0).map U64⟩,⟨16,6,78,(fe 0++fe 0).map U64⟩,⟨17,7,78,(fe 0++fe 0).map U64⟩] [18,19,20] cY O kr kr kr kr kr kr dc (by intro x hx;simp only[List.mem_cons,List.not_mem_nil,or_false]at hx;rcases hx with rfl|rfl|rfl<;>exact bD O zv78 O)<|Fa 0 O underlying209 O sizeOf78<|aw 2 _ O O isAgg78 sizeOf78 sm ej O O<|Fa 0 O underlying209 O sizeOf78<|aw 3 _ O O isAgg78 sizeOf78 sm ej O O<|Ca O (dG _ _)<|Fa 12 O underlying209 O sizeOf78<|aw 2 _ O O isAgg78 sizeOf78 sm (km sm) O O<|Fa 12 O underlying209 O sizeOf78<|aw 3 _ O O isAgg78 sizeOf78 sm (km sm) O O<|Ca O (dG _ _)<|Fa 24 O underlying209 O sizeOf78<|aw 2 _ O O isAgg78 sizeOf78 sm (gc (m:=12) (n:=12) sm sm O) O O<|Fa 24 O underlying209 O sizeOf78<|aw 3 _ O O isAgg78 sizeOf78 sm (gc (m:=12) (n:=12) sm sm O) O O<|Ca O (dG _ _)<|aa<|?_
 refine ⟨_,_,rfl,hGF,by intro x hx;simp only[List.mem_cons,List.not_mem_nil,or_false]at hx;rcases hx with rfl|rfl|rfl<;>rfl,by intro x hx;simp only[List.mem_cons,List.not_mem_nil,or_false]at hx;rcases hx with rfl|rfl|rfl<;>rfl,λadr=> ?_⟩
 refine Sa 5 hGF O O O aW<|Sa 6 hGF O O O aW<|Sa 7 hGF O O O aW<|aa<|Xa [0,1,2,3,4,5,6,7,8,9,10,11,12,13,14] ⟨15,8,78,(fe 0++fe 0).map U64⟩ [16] (bD O zv78 O)<|Fa 0 O underlying209 O sizeOf78<|aw 2 _ O O isAgg78 sizeOf78 sm ej O O<|Fa 12 O underlying209 O sizeOf78<|aw 2 _ O O isAgg78 sizeOf78 sm (km sm) O O<|Ca O (fw _ _)<|Fa 0 O underlying209 O sizeOf78<|aw 3 _ O O isAgg78 sizeOf78 sm ej O O<|Fa 12 O underlying209 O sizeOf78<|aw 3 _ O O isAgg78 sizeOf78 sm (km sm) O O<|Ca O (fw _ _)<|Ca O (dG _ _)<|La 5 O O aW<|Ca O (ku _ _)<|La 6 O O aW<|Ca O (ku _ _)<|aa<|?_;refine ⟨_,_,rfl,hGF,by intro x hx;simp only[List.mem_cons,List.not_mem_nil,or_false]at hx;subst hx;rfl,by intro x hx;simp only[List.mem_cons,List.not_mem_nil,or_false]at hx;subst hx;rfl,λadr=> ?_⟩
 refine Sa 8 hGF O O O aW<|aa<|Xa [0,1,2,3,4,5,6,7,8,9,10,11,12,13,14] ⟨15,9,78,(fe 0++fe 0).map U64⟩ [16] (bD O zv78 O)<|Fa 0 O underlying209 O sizeOf78<|aw 2 _ O O isAgg78 sizeOf78 sm ej O O<|Fa 24 O underlying209 O sizeOf78<|aw 2 _ O O isAgg78 sizeOf78 sm (gc (m:=12) (n:=12) sm sm O) O O<|Ca O (fw _ _)<|Fa 0 O underlying209 O sizeOf78<|aw 3 _ O O isAgg78 sizeOf78 sm ej O O<|Fa 24 O underlying209 O sizeOf78<|aw 3 _ O O isAgg78 sizeOf78 sm (gc (m:=12) (n:=12) sm sm O) O O<|Ca O (fw _ _)<|Ca O (dG _ _)<|La 5 O O aW<|Ca O (ku _ _)<|La 7 O O aW<|Ca O (ku _ _)<|aa<|?_;refine ⟨_,_,rfl,hGF,by intro x hx;simp only[List.mem_cons,List.not_mem_nil,or_false]at hx;subst hx;rfl,by intro x hx;simp only[List.mem_cons,List.not_mem_nil,or_false]at hx;subst hx;rfl,λadr=> ?_⟩
 refine Sa 9 hGF O O O aW<|aa<|Xa [0,1,2,3,4,5,6,7,8,9,10,11,12,13,14] ⟨15,10,78,(fe 0++fe 0).map U64⟩ [16] (bD O zv78 O)<|Fa 12 O underlying209 O sizeOf78<|aw 2 _ O O isAgg78 sizeOf78 sm (km sm) O O<|Fa 24 O underlying209 O sizeOf78<|aw 2 _ O O isAgg78 sizeOf78 sm (gc (m:=12) (n:=12) sm sm O) O O<|Ca O (fw _ _)<|Fa 12 O underlying209 O sizeOf78<|aw 3 _ O O isAgg78 sizeOf78 sm (km sm) O O<|Fa 24 O underlying209 O sizeOf78<|aw 3 _ O O isAgg78 sizeOf78 sm (gc (m:=12) (n:=12) sm sm O) O O<|Ca O (fw _ _)<|Ca O (dG _ _)<|La 6 O O aW<|Ca O (ku _ _)<|La 7 O O aW<|Ca O (ku _ _)<|aa<|?_;refine ⟨_,_,rfl,hGF,by intro x hx;simp only[List.mem_cons,List.not_mem_nil,or_false]at hx;subst hx;rfl,by intro x hx;simp only[List.mem_cons,List.not_mem_nil,or_false]at hx;subst hx;rfl,λadr=> ?_⟩
 refine Sa 10 hGF O O O aW<|aa<|Xd []<|La 5 O O aW<|La 10 O O aW<|Ca O (BC _)<|Ca O (fw _ _)<|La 8 O O aW<|La 7 O O aW<|Ca O (BC _)<|Ca O (fw _ _)<|La 9 O O aW<|La 6 O O aW<|Ca O (fw _ _)<|ef kT O O O sm sm sm O O<|Sa 4 hGF O O O dx<|aa<|ak<|Rr<|?_;exact au 4 O O O isAgg209 sizeOf209 sm (λw hw=>⟨e6 (zq R2 [x.1,x.2.1,x.2.2,y.1,y.2.1,y.2.2,XI] (ta (tm j0 j3) (txi 6 (tsb (tsb (tm (ta j1 j2) (ta j4 j5)) (tm j1 j4)) (tm j2 j5)) O)) (ta (tm j0 j3) (tm j6 (ta (tm j1 j5) (tm j2 j4))))) (zq R2 [x.1,x.2.1,x.2.2,y.1,y.2.1,y.2.2,XI] (ta (tsb (tsb (tm (ta j0 j1) (ta j3 j4)) (tm j0 j3)) (tm j1 j4)) (txi 6 (tm j2 j5) O)) (ta (ta (tm j0 j4) (tm j1 j3)) (tm j6 (tm j2 j5)))) (zq R2 [x.1,x.2.1,x.2.2,y.1,y.2.1,y.2.2,XI] (ta (tsb (tsb (tm (ta j0 j2) (ta j3 j5)) (tm j0 j3)) (tm j2 j5)) (tm j1 j4)) (ta (ta (tm j0 j5) (tm j1 j4)) (tm j2 j3))),ab hw⟩)
def TO57:Tb prog Gt:=TO56.add (cx (g:=K6.mul) ent224 mY)
theorem mx(x:W6):PUR 258 [EV6 x] (EV6 (K6.mul x x)):=by
 intro w hw;refine Hf func258 O hw<|λhGF=>Xp<|Bx 1 hGF O<|λb1=>Al 2 hGF zv209<|λb2=>aa<|fG (E:=EE [2999999]) [0,1,2,3,4,5] [⟨6,3,78,(fe 0++fe 0).map U64⟩,⟨7,4,78,(fe 0++fe 0).map U64⟩] [8,9] cY O kr kr kr kr kr kr dc (by intro x hx;simp only[List.mem_cons,List.not_mem_nil,or_false]at hx;rcases hx with rfl|rfl<;>exact bD O zv78 O)<|Fa 0 O underlying209 O sizeOf78<|aw 1 _ O O isAgg78 sizeOf78 sm ej O O<|Ca O (iO _)<|Fa 24 O underlying209 O sizeOf78<|aw 1 _ O O isAgg78 sizeOf78 sm (gc (m:=12) (n:=12) sm sm O) O O<|Ca O (iO _)<|aa<|?_
 refine ⟨_,_,rfl,hGF,by intro x hx;simp only[List.mem_cons,List.not_mem_nil,or_false]at hx;rcases hx with rfl|rfl<;>rfl,by intro x hx;simp only[List.mem_cons,List.not_mem_nil,or_false]at hx;rcases hx with rfl|rfl<;>rfl,λadr=> ?_⟩
 refine Sa 3 hGF O O O aW<|Sa 4 hGF O O O aW<|aa<|fG (E:=EE [2999999]) [0,1,2,3,4,5,6,7,8,9] [⟨10,5,78,(fe 0++fe 0).map U64⟩,⟨11,6,78,(fe 0++fe 0).map U64⟩] [12,13] cY O kr kr kr kr kr kr dc (by intro x hx;simp only[List.mem_cons,List.not_mem_nil,or_false]at hx;rcases hx with rfl|rfl<;>exact bD O zv78 O)<|Fa 0 O underlying209 O sizeOf78<|aw 1 _ O O isAgg78 sizeOf78 sm ej O O<|Fa 12 O underlying209 O sizeOf78<|aw 1 _ O O isAgg78 sizeOf78 sm (km sm) O O<|Ca O (dG _ _)<|Fa 12 O underlying209 O sizeOf78<|aw 1 _ O O isAgg78 sizeOf78 sm (km sm) O O<|Fa 24 O underlying209 O sizeOf78<|aw 1 _ O O isAgg78 sizeOf78 sm (gc (m:=12) (n:=12) sm sm O) O O<|Ca O (dG _ _)<|aa<|?_
 refine ⟨_,_,rfl,hGF,by intro x hx;simp only[List.mem_cons,List.not_mem_nil,or_false]at hx;rcases hx with rfl|rfl<;>rfl,by intro x hx;simp only[List.mem_cons,List.not_mem_nil,or_false]at hx;rcases hx with rfl|rfl<;>rfl,λadr=> ?_⟩
 refine Sa 5 hGF O O O aW<|Sa 6 hGF O O O aW<|aa<|Xd []<|La 5 O O aW<|La 5 O O aW<|Ca O (fw _ _)<|La 6 O O aW<|La 6 O O aW<|Ca O (fw _ _)<|Sa 5 hGF O O O aW<|Sa 6 hGF O O O aW<|aa<|Xa [0,1,2,3,4,5,6,7,8] ⟨9,7,78,(fe 0++fe 0).map U64⟩ [10] (bD O zv78 O)<|Fa 0 O underlying209 O sizeOf78<|aw 1 _ O O isAgg78 sizeOf78 sm ej O O<|Fa 12 O underlying209 O sizeOf78<|aw 1 _ O O isAgg78 sizeOf78 sm (km sm) O O<|Ca O (ku _ _)<|Fa 24 O underlying209 O sizeOf78<|aw 1 _ O O isAgg78 sizeOf78 sm (gc (m:=12) (n:=12) sm sm O) O O<|Ca O (fw _ _)<|Ca O (iO _)<|aa<|?_;refine ⟨_,_,rfl,hGF,by intro x hx;simp only[List.mem_cons,List.not_mem_nil,or_false]at hx;subst hx;rfl,by intro x hx;simp only[List.mem_cons,List.not_mem_nil,or_false]at hx;subst hx;rfl,λadr=> ?_⟩
 refine Sa 7 hGF O O O aW<|aa<|Xd []<|La 3 O O aW<|La 6 O O aW<|Ca O (BC _)<|Ca O (fw _ _)<|La 5 O O aW<|La 4 O O aW<|Ca O (BC _)<|Ca O (fw _ _)<|La 7 O O aW<|La 5 O O aW<|Ca O (fw _ _)<|La 6 O O aW<|Ca O (fw _ _)<|La 3 O O aW<|Ca O (ku _ _)<|La 4 O O aW<|Ca O (ku _ _)<|ef kT O O O sm sm sm O O<|Sa 2 hGF O O O dx<|aa<|ak<|Rr<|?_;exact au 2 O O O isAgg209 sizeOf209 sm (λw hw=>⟨e6 (zq R2 [x.1,x.2.1,x.2.2,XI] (ta (tm j0 j0) (txi 3 (ta (tm j1 j2) (tm j1 j2)) O)) (ta (tm j0 j0) (tm j3 (ta (tm j1 j2) (tm j2 j1))))) (zq R2 [x.1,x.2.1,x.2.2,XI] (ta (ta (tm j0 j1) (tm j0 j1)) (txi 3 (tm j2 j2) O)) (ta (ta (tm j0 j1) (tm j1 j0)) (tm j3 (tm j2 j2)))) (zq R2 [x.1,x.2.1,x.2.2,XI] (tsb (tsb (ta (ta (tm (ta (tsb j0 j1) j2) (ta (tsb j0 j1) j2)) (ta (tm j0 j1) (tm j0 j1))) (ta (tm j1 j2) (tm j1 j2))) (tm j0 j0)) (tm j2 j2)) (ta (ta (tm j0 j2) (tm j1 j1)) (tm j2 j0))),ab hw⟩)
def TO58:Tb prog Gt:=TO57.add (cN (g:=λx=>K6.mul x x) ent258 mx)
theorem zY(x:W6)(c:W2):PUR 231 [EV6 x,EV2 c] (EV6 (sc6 x c)):=by
 intro w hw;have hGF:BOk Gt (pl w):=gt_low.plain hw;refine cw (G:=Gt) func231 O O (Hp (pl w) []) (ci (pl w) trivial am) (ay hGF)<|ac (E:=EE [234])<|Bx 2 hGF O<|λb2=>Bx 3 hGF O<|λb3=>Al 4 hGF zv209<|λb4=>aa<|ac (E:=EE [234])<|Al 5 hGF zv264<|λb5=>aa<|ae<|ac (E:=EE [234])<|La 2 O O dx<|?_;refine dy O O ent234 O O (λw' hw'=>(lD x w' (hGF.g _ _ _ hw')).mono λe' w'' h=> ?_);obtain ⟨c1,rfl,hg,h1,ho⟩:=h;refine ⟨_,_,rfl,ay hGF,hw'.news am hg [(33,c1,((fe (x.1).1++fe (x.1).2)++((fe (x.2.1).1++fe (x.2.1).2)++(fe (x.2.2).1++fe (x.2.2).2))).map U64,209)] ?_ bQ, ?_⟩
 ·intro n' b' c' t' hl
  rcases aI hl with ⟨_,e⟩|⟨_,hl⟩
  ·cases e;exact ⟨h1,ho⟩
  ·cases hl
 clear hw' hg h1 ho;refine aa<|ah<|?_;refine fc (λ_=>pl w) (λ_ _=>pl w) (λ_=>hGF) (λ_ _=>hGF) (λ_=>rfl) (λ_ _=>rfl) O O ent262 (Li c1 x) (λv hv=>by obtain ⟨k,hk,rfl⟩:=List.mem_map.1 hv;rfl) O (λk=>[(2,b2,((fe (x.1).1++fe (x.1).2)++((fe (x.2.1).1++fe (x.2.1).2)++(fe (x.2.2).1++fe (x.2.2).2))).map U64,209),(3,b3,(fe c.1++fe c.2).map U64,78),(4,b4,((fe 0++fe 0)++((fe 0++fe 0)++(fe 0++fe 0))).map U64,209),(5,b5,(FM (FF (λj=>if j<k then ml2 (p3 x j) c else ze2)) 3).map U64,264),(33,c1,((fe (x.1).1++fe (x.1).2)++((fe (x.2.1).1++fe (x.2.1).2)++(fe (x.2.2).1++fe (x.2.2).2))).map U64,209)]) (λ_ _ _=>False) ⟨rfl,rfl,rfl,congrArg (λl=>some (b5,l,_)) (congrArg (List.map U64) (wy λj _=>(if_neg (Nat.not_lt_zero j)).symm)),rfl,trivial⟩ (λk _ w' h=>aG (n:=33) O w' h) ?_ ?_ (λ_ _ _ _ _ h=>h.elim)
 ·intro k v hx R hR
  obtain ⟨hk,rfl⟩:=MT x k v hx;refine ac (E:=EE [234])<|Asg O<|aa<|bF (E:=EE [234])<|dN 7 (hR (pl w) O hGF).1 zv78 O O<|λb7=>az 7 (hR (pl w) O hGF).1 O O O sizeOf78 sm sm (ba _) O<|aa<|?_;refine ⟨rfl,_,rfl, ?_⟩;refine ah<|bF (E:=EE [234])<|Mv O<|La 7 O O aW<|La 3 O O aW<|Ca O (dG _ _)<|fx (k) (12*(k)) O O underlying264 sizeOf78 om om om O O<|lh 5 ((FM (FF (λj=>if j<k+1 then ml2 (p3 x j) c else ze2)) 3).map U64) (hR (pl w) O hGF).2.1 O O O sizeOf78 sm (ba _) (by simp;omega) (tw _ _ (ml2 (p3 x k) c) 3 (k) _ om O (λj _=>xU (λj=>ml2 (p3 x j) c) (λ_=>ze2) k j)) O<|aa<|?_
  repeat (refine aL ?_)
  exact ⟨_,rfl,trv⟩
 ·intro D hD
  rw[sD];refine ac (E:=EE [234])<|La 5 O O ET<|Ca O (k6of _)<|Sa 4 hD O O O dx<|aa<|ak<|Rr<|?_;exact dR (.inl O) am (au 4 O O O isAgg209 sizeOf209 sm (λw hw=>⟨e6 O O O,ab hw⟩))
theorem k6v(x:W6):PUR 226 [EV6 x] (EV6 (v6 x)):=(bT (l1 (V6 _)) (V6 _) (pE TO58 func226 [.inl [x.1.1,x.1.2,x.2.1.1,x.2.1.2,x.2.2.1,x.2.2.2]] (.inl (.inl [(v6 x).1.1,(v6 x).1.2,(v6 x).2.1.1,(v6 x).2.1.2,(v6 x).2.2.1,(v6 x).2.2.2])) (let t0:=xi2 (x.2.2.1,x.2.2.2);(.inl (.inl [t0.1,t0.2,x.1.1,x.1.2,x.2.1.1,x.2.1.2]),[])) [] kr aD O))
def TO59:Tb prog Gt:=TO58.add (cN (g:=v6) ent226 k6v)
def oth(x:W6):W6:=(i3a x.1 x.2.1 x.2.2,i3b x.1 x.2.1 x.2.2,i3c x.1 x.2.1 x.2.2)
theorem qP(x:W6):PUR 274 [EV6 x] (EV6 (oth x)):=(bT (l1 (V6 _)) (V6 _) (pE TO59 func274 [.inl [x.1.1,x.1.2,x.2.1.1,x.2.1.2,x.2.2.1,x.2.2.2]] (.inl (.inl [(oth x).1.1,(oth x).1.2,(oth x).2.1.1,(oth x).2.1.2,(oth x).2.2.1,(oth x).2.2.2])) (let t0:=ml2 (x.1.1,x.1.2) (x.1.1,x.1.2);let t1:=ml2 (x.2.1.1,x.2.1.2) (x.2.2.1,x.2.2.2);let t2:=xi2 (t1.1,t1.2);let t3:=sb2 (t0.1,t0.2) (t2.1,t2.2);let t4:=ml2 (x.2.2.1,x.2.2.2) (x.2.2.1,x.2.2.2);let t5:=xi2 (t4.1,t4.2);let t6:=ml2 (x.1.1,x.1.2) (x.2.1.1,x.2.1.2);let t7:=sb2 (t5.1,t5.2) (t6.1,t6.2);let t8:=ml2 (x.2.1.1,x.2.1.2) (x.2.1.1,x.2.1.2);let t9:=ml2 (x.1.1,x.1.2) (x.2.2.1,x.2.2.2);let t10:=sb2 (t8.1,t8.2) (t9.1,t9.2);(.inl (.inl [t3.1,t3.2,t7.1,t7.2,t10.1,t10.2]),[])) [] kr aD O))
def TO60:Tb prog Gt:=TO59.add (cN (g:=oth) ent274 qP)
theorem XE(x:W6):ad2 (xi2 (ad2 (ml2 x.2.1 (oth x).2.2) (ml2 x.2.2 (oth x).2.1))) (ml2 x.1 (oth x).1)=i3n x.1 x.2.1 x.2.2:=by
 show R2.add (xi2 (R2.add _ _)) _=R2.add _ (xi2 (R2.add _ _));rw[R2.add_comm,R2.add_comm (ml2 x.2.1 (oth x).2.2)];rfl
theorem Gh(x:W6)(c:W2):PUR 231 [EV6 (oth x),EV2 c] (EV6 (sc6 (oth x) c)):=zY (oth x) c
theorem Gi(x:W6):PUR 259 [EV6 x] (EV6 (iv6 x)):=by
 intro w hw;refine Hf func259 O hw<|λhGF=>Xp<|Bx 1 hGF O<|λb1=>Al 2 hGF zv209<|λb2=>aa<|Xp<|La 1 O O dx<|Ca O (qP _)<|Al 3 hGF zv209<|λb3=>Sa 3 hGF O O O dx<|aa<|Xa [0,1,2,3,4,5,6,7,8,9,10,11,12,13,14,15,16,17] ⟨18,4,78,(fe 0++fe 0).map U64⟩ [19] (bD O zv78 O)<|Fa 12 O underlying209 O sizeOf78<|aw 1 _ O O isAgg78 sizeOf78 sm (km sm) O O<|Fa 24 O underlying209 O sizeOf78<|aw 3 _ O O isAgg78 sizeOf78 sm (gc (m:=12) (n:=12) sm sm O) O O<|Ca O (dG _ _)<|Fa 24 O underlying209 O sizeOf78<|aw 1 _ O O isAgg78 sizeOf78 sm (gc (m:=12) (n:=12) sm sm O) O O<|Fa 12 O underlying209 O sizeOf78<|aw 3 _ O O isAgg78 sizeOf78 sm (km sm) O O<|Ca O (dG _ _)<|Ca O (fw _ _)<|Ca O (BC _)<|Fa 0 O underlying209 O sizeOf78<|aw 1 _ O O isAgg78 sizeOf78 sm ej O O<|Fa 0 O underlying209 O sizeOf78<|aw 3 _ O O isAgg78 sizeOf78 sm ej O O<|Ca O (dG _ _)<|Ca O (fw _ _)<|aa<|?_;refine ⟨_,_,rfl,hGF,by intro x hx;simp only[List.mem_cons,List.not_mem_nil,or_false]at hx;subst hx;rfl,by intro x hx;simp only[List.mem_cons,List.not_mem_nil,or_false]at hx;subst hx;rfl,λadr=> ?_⟩
 refine Sa 4 hGF O O O aW<|aa<|Xd []<|La 3 O O dx<|La 4 O O aW<|Ca O (FC _)<|Ca O (Gh x _)<|Sa 2 hGF O O O dx<|aa<|ak<|Rr<|?_;exact au 2 O O O isAgg209 sizeOf209 sm (λw hw=>⟨by rw[XE];rfl,ab hw⟩)
def TO61:Tb prog Gt:=TO60.add (cN (g:=iv6) ent259 Gi)
end Q6
end
theorem Sv(a:Zp):a+0=a:=by grind
theorem ym(x:W2): ∀n,nm2 (pw2 x n)=nm2 x^n
 |0=>by
  show nm2 on2=_;rw[p0,nm2,on2];show (1:Zp)*1+0*0=1;rw[oe,jX];exact Sv 1
 |n+1=>by rw[nR,iZ,ym x n,ps]
theorem D4(x:W2):cj2 (cj2 x)=x:=bU O (AV _)
theorem Io(c g:W2):ml2 (cj2 (ml2 (cj2 c) g)) g=ml2 c (nm2 g,0):=by
 rw[ir,D4,show ml2 (ml2 c (cj2 g)) g=ml2 c (ml2 (cj2 g) g)from R2.mul_assoc _ _ _,show ml2 (cj2 g) g=ml2 g (cj2 g)from R2.mul_comm _ _,NO]
theorem Xw(a:Zp):a-0=a:=by grind
theorem WT(a:Zp):0-a= -a:=by grind
theorem Vt(a:Zp):0+a=a:=by grind
theorem uw{a b:Zp}(h:a+b=0): -a=b:=by grind
theorem UK:pw2 XI 2=(0,zp 2):=by decide+kernel
theorem H8(a b:Zp):ml2 (a,0) (0,b)=(0,a*b):=bU (by simp only[ml2];rw[jX,rc,Xw]) (by simp only[ml2];rw[jX,Sv])
theorem Hz(a b:Zp):ml2 (0,a) (0,b)=(-(a*b),0):=bU (by simp only[ml2];rw[jX,WT]) (by simp only[ml2];rw[rc,jX,Sv])
theorem im_4(c:Zp):pw2 (0,c) 4=(c^4,0):=by
 show ml2 (ml2 (ml2 (ml2 on2 (0,c)) (0,c)) (0,c)) (0,c)=_;rw[show ml2 on2 (0,c)=(0,c)from R2.one_mul _,Hz,H8,Hz];exact bU (by grind) O
theorem im_3(c:Zp):pw2 (0,c) 3=(0,-(c^3)):=by
 show ml2 (ml2 (ml2 on2 (0,c)) (0,c)) (0,c)=_;rw[show ml2 on2 (0,c)=(0,c)from R2.one_mul _,Hz,H8];exact bU O (by grind)
theorem M8(c:Zp): ∀s,pw2 (0,c) (4*s)=(c^(4*s),0)
 |0=>by show on2=_;rw[Nat.mul_zero,p0];rfl
 |s+1=>by rw[Nat.mul_succ,um,M8 c s,im_4,nc,n7]
theorem Vo(c:Zp)(s:Nat):pw2 (0,c) (4*s+3)=(0,-(c^(4*s+3))):=by
 rw[um,M8,im_3,H8,n7];exact bU O (by grind)
def cjn(n:Nat)(x:W2):W2:=if n % 2=1 then cj2 x else x
theorem WE(n:Nat)(x:W2):cj2 (cjn n x)=cjn (n+1) x:=by
 rw[cjn,cjn];by_cases h:n % 2=1
 ·rw[if_pos h,if_neg om,D4]
 ·rw[if_neg h,if_pos om]
theorem xE(a b c:W2):ml2 (ml2 a b) c=ml2 a (ml2 b c):=R2.mul_assoc a b c
/-! ### The powers of p -/
theorem EQ(x y:W12):d8 (K12.mul x y)=K12.mul (d8 x) (d8 y):=by
 rw[<-uF,<-uF,<-uF,K12.mul_pw]
def o3(x:W12):Nat->W12
 |0=>x
 |n+1=>d8 (o3 x n)
theorem vF(x y:W12): ∀n,o3 (K12.mul x y) n=K12.mul (o3 x n) (o3 y n)
 |0=>rfl
 |n+1=>by rw[o3,vF x y n,EQ];rfl
def Cz(z:Zp)(x:W12):W12:=((ml2 x.1.1 (z^0,0),ml2 x.1.2.1 (z^2,0),ml2 x.1.2.2 (z^4,0)),(ml2 x.2.1 (z^1,0),ml2 x.2.2.1 (z^3,0),ml2 x.2.2.2 (z^5,0)))
theorem m7(c:W2)(a b:Zp)(k:Nat):ml2 (ml2 c (b^k,0)) (a^k,0)=ml2 c ((a*b)^k,0):=by
 rw[xE,nc];have e:b^k*a^k=(a*b)^k:=by
  induction k with
  |zero=>rw[p0,p0,p0];exact oe
  |succ k ih=>rw[ps,ps,ps,<-ih];grind
 rw[e]
theorem Bz(a b:Zp)(x:W12):Cz a (Cz b x)=Cz (a*b) x:=
 Prod.ext (Prod.ext (m7 _ _ _ _) (Prod.ext (m7 _ _ _ _) (m7 _ _ _ _))) (Prod.ext (m7 _ _ _ _) (Prod.ext (m7 _ _ _ _) (m7 _ _ _ _)))
def ZE:Zp:=nm2 GA
theorem SY(k:Nat):nm2 (pw2 GA k)=ZE^k:=ym GA k
theorem ld(c:W2)(k:Nat):ml2 (cj2 (ml2 (cj2 c) (pw2 GA k))) (pw2 GA k)=ml2 c (ZE^k,0):=by rw[Io,SY]
theorem pN(x:W12):d8 (d8 x)=Cz ZE x:=
 Prod.ext (Prod.ext (ld _ _) (Prod.ext (ld _ _) (ld _ _))) (Prod.ext (ld _ _) (Prod.ext (ld _ _) (ld _ _)))
theorem QX:ZE=zp 2^sx:=by rw[ZE,GA,ym,Wo]
theorem Th:sx*3=hf:=by decide+kernel
theorem Oz{a:Zp}(h:a*a=1)(h1:a≠1):a= -1:=by
 have e:(a-1)*(a+1)=0:=by grind
 rcases mV e with e|e
 ·exact absurd (by grind) h1
 ·grind
theorem O5:hf+hf=PP-1:=by decide+kernel
theorem I6:zp 2^hf= -1:=Oz (by rw[<-n7,O5,fermat yp]) QM
theorem Hc:ZE*(ZE*ZE)= -1:=by
 have e:ZE*(ZE*ZE)=ZE^3:=by generalize ZE=a;grind
 rw[e,QX,<-It,Th,I6]
theorem Ch(x:W12):o3 x 6=Cz (ZE*(ZE*ZE)) x:=by
 show d8 (d8 (d8 (d8 (d8 (d8 x)))))=_;rw[pN x,pN (Cz ZE x),pN,Bz ZE ZE x,Bz]
def dd(x:W12):W12:=(x.1,K6.neg x.2)
theorem uu(c:W2)(n:Nat):ml2 c ((-1:Zp)^(2*n),0)=c:=by
 have e:(-1:Zp)^(2*n)=1:=by
  induction n with
  |zero=>exact p0 _
  |succ n ih=>rw[Nat.mul_succ,n7,ih];generalize hm:(-1:Zp)=a;have:a*a=1:=by rw[<-hm,z_nn,oe]
              grind
 rw[e];exact R2.mul_one c
theorem wZ(c:W2)(n:Nat):ml2 c ((-1:Zp)^(2*n+1),0)=ng2 c:=by
 have e:ml2 c ((-1:Zp)^(2*n+1),0)=ml2 (ml2 c ((-1:Zp)^(2*n),0)) (-1,0):=by rw[xE,nc,ps]
 rw[e,uu];generalize hm:(-1:Zp)=a;refine bU ?_ ?_
 ·show c.1*a-c.2*0= -c.1
  rw[jX,Xw,<-hm];grind
 ·show c.1*0+c.2*a= -c.2
  rw[jX,Vt,<-hm];grind
theorem mF(x:W12):o3 x 6=dd x:=by
 rw[Ch,Hc];exact Prod.ext (Prod.ext (uu _ 0) (Prod.ext (uu _ 1) (uu _ 2))) (Prod.ext (wZ _ 0) (Prod.ext (wZ _ 1) (wZ _ 2)))
theorem AT(x:W12):dd (dd x)=x:=Prod.ext O (K6.neg_neg x.2)
/-! ### The conjugate's laws -/
theorem wu(x y:W12):dd (K12.mul x y)=K12.mul (dd x) (dd y):=by rw[<-mF,<-mF,<-mF,vF]
theorem tvv{ρ:Nat->W6}{p:Po}{a:W6}(k:Nat)(ha:K6.d ρ p=a)(hk:ρ k=VV):K6.d ρ (kk p (pv k))=v6 a:=by rw[K6.d_mul,ha,K6.d_var,hk];exact zE a
theorem E3{ρ:Nat->W6}{p q:Po}{a b:W6}(ha:K6.d ρ p=a)(hb:K6.d ρ q=b):K6.d ρ (ik p (lx q))=sb6 a b:=by rw[K6.d_add,K6.d_neg,ha,hb,yI]
section
open Go.RowKit
theorem ent218:ai prog 218:=λ_ _=>kr
theorem ent201:ai prog 201:=λ_ _=>kr
theorem ent217:ai prog 217:=λ_ _=>kr
theorem ent197:ai prog 197:=λ_ _=>kr
theorem ent165:ai prog 165:=λ_ _=>kr
theorem ent256:ai prog 256:=λ_ _=>kr
theorem ent164:ai prog 164:=λ_ _=>kr
theorem ent220:ai prog 220:=λ_ _=>kr
namespace Q6
attribute [local simp] a6 bv aH aA aQ aY aR aK aM PLl cJ cH N1l cI cL cK bf bB a7 bu gi
attribute [local simp] qh cQ
abbrev cz(x:W12):Value:=aJ (((fe (x.1.1).1++fe (x.1.1).2)++((fe (x.1.2.1).1++fe (x.1.2.1).2)++(fe (x.1.2.2).1++fe (x.1.2.2).2)))++((fe (x.2.1).1++fe (x.2.1).2)++((fe (x.2.2.1).1++fe (x.2.2.1).2)++(fe (x.2.2.2).1++fe (x.2.2.2).2))))
theorem zv211(w:World):(zeroValue 211).run prog w=.ok (aJ (((fe 0++fe 0)++((fe 0++fe 0)++(fe 0++fe 0)))++((fe 0++fe 0)++((fe 0++fe 0)++(fe 0++fe 0))))) w:=by rw[i2];exact (zeroValue211 w).trans rr
theorem uc:Two prog 211 ⟨ "C0",209,0,false, "", "",0⟩ ⟨ "C1",209,36,false, "", "",288⟩ 36 36 ((fe 0++fe 0)++((fe 0++fe 0)++(fe 0++fe 0))) ((fe 0++fe 0)++((fe 0++fe 0)++(fe 0++fe 0))):=⟨underlying211,rfl,rfl,sizeOf209,sizeOf209,zv211,sm,sm⟩
theorem e12{a b a' b':W6}(h1:a=a')(h2:b=b'):Ending.returned (cz (a,b))=.returned (cz (a',b')):=by rw[h1,h2]
theorem Ky{x y:W12}(h:x.1=y.1):decide (x.2=y.2)=decide (x=y):=decide_eq_decide.2 ⟨λe=>Prod.ext h e,λe=>by rw[e]⟩
theorem IA{x y:W12}(h: ¬x.1=y.1):false=decide (x=y):=(decide_eq_false λe=>h (by rw[e])).symm
def p12(x:W12):Nat->W2
 |0=>x.1.1
 |1=>x.2.1
 |2=>x.1.2.1
 |3=>x.2.2.1
 |4=>x.1.2.2
 |_=>x.2.2.2
def q12:Sh W12:=q6.two q6 6
theorem V12(x:W12):cz x=dn rid (.inl [x.1.1.1,x.1.1.2,x.1.2.1.1,x.1.2.1.2,x.1.2.2.1,x.1.2.2.2,x.2.1.1,x.2.1.2,x.2.2.1.1,x.2.2.1.2,x.2.2.2.1,x.2.2.2.2]):=by
 show Value.agg _=Value.agg _;rw[clv,show cel [x.1.1.1,x.1.1.2,x.1.2.1.1,x.1.2.1.2,x.1.2.2.1,x.1.2.2.2,x.2.1.1,x.2.1.2,x.2.2.1.1,x.2.2.1.2,x.2.2.2.1,x.2.2.2.2]=fe x.1.1.1++(fe x.1.1.2++(fe x.1.2.1.1++(fe x.1.2.1.2++(fe x.1.2.2.1++(fe x.1.2.2.2++(fe x.2.1.1++(fe x.2.1.2++(fe x.2.2.1.1++(fe x.2.2.1.2++(fe x.2.2.2.1++fe x.2.2.2.2))))))))))from O];simp only[List.append_assoc]
end Q6
end
section
open Go.RowKit
namespace Q6
attribute [local simp] a6 bv aH aA aQ aY aR aK aM PLl cJ cH N1l cI cL cK bf bB a7 bu gi
attribute [local simp] qh cQ
theorem tr  :PUR 165 [] (cz K12.one):=(bT O (V12 _) (pE TO61 func165 [] (.inl (.inl [K12.one.1.1.1,K12.one.1.1.2,K12.one.1.2.1.1,K12.one.1.2.1.2,K12.one.1.2.2.1,K12.one.1.2.2.2,K12.one.2.1.1,K12.one.2.1.2,K12.one.2.2.1.1,K12.one.2.2.1.2,K12.one.2.2.2.1,K12.one.2.2.2.2])) (let t0:=K6.one;(.inl (.inl [t0.1.1,t0.1.2,t0.2.1.1,t0.2.1.2,t0.2.2.1,t0.2.2.2,0,0,0,0,0,0]),[])) [] kr aD O))
theorem Hs{f:Nat}{g:W12}(en:ai prog f)(h:PUR f [] (cz g)):Snd prog Gt f (c0 q12.rd g):=vJ q12.rd en (bT O (V12 _).symm h)
def TO62:Tb prog Gt:=TO61.add (Hs (g:=K12.one) ent165 tr)
theorem pH(x y:W12):PUR 164 [cz x,cz y] (.bool (decide (x=y))):=by
 intro w hw;refine Hf func164 O hw<|λhGF=>Xp<|Bx 2 hGF O<|λb2=>Bx 3 hGF O<|λb3=>Asg O<|aa<|Xp<|Fa 0 O underlying211 O sizeOf209<|aw 2 _ O O isAgg209 sizeOf209 sm ej O O<|Fa 0 O underlying211 O sizeOf209<|aw 3 _ O O isAgg209 sizeOf209 sm ej O O<|?_;by_cases h:x.1=y.1
 ·refine Cbl true O ent202 (oC _ _) (decide_eq_true h)<|Mv O<|Fa 36 O underlying211 O sizeOf209<|aw 2 _ O O isAgg209 sizeOf209 sm (jf sm) O O<|Fa 36 O underlying211 O sizeOf209<|aw 3 _ O O isAgg209 sizeOf209 sm (jf sm) O O<|Ca O (oC _ _)<|Pk O O O<|Asg O<|aa<|ak<|Rr<|?_
  exact aE O O (λw hw=>⟨rb (Ky h),ab hw⟩)
 ·refine Cbl false O ent202 (oC _ _) (decide_eq_false h)<|Mv O<|Sk<|Sk<|Sk<|Sk<|Sk<|Pk O O O<|Asg O<|aa<|ak<|Rr<|?_
  exact aE O O (λw hw=>⟨rb (IA h),ab hw⟩)
theorem jk{f:Nat}{g:W12->W12->Bool}(en:ai prog f)(h: ∀a b,PUR f [cz a,cz b] (.bool (g a b))):Snd prog Gt f (c2 q12.ag q12.ag rdB g):=gv q12.ag q12.ag rdB en (λa b=>bT (l2 (V12 _).symm (V12 _).symm) O (h a b))
def TO63:Tb prog Gt:=TO62.add (jk (g:=λx y=>decide (x=y)) ent164 pH)
theorem lT{f:Nat}{g:W12->W12->W12}(en:ai prog f)(h: ∀a b,PUR f [cz a,cz b] (cz (g a b))):Snd prog Gt f (c2 q12.ag q12.ag q12.rd g):=gv q12.ag q12.ag q12.rd en (λa b=>bT (l2 (V12 _).symm (V12 _).symm) (V12 _).symm (h a b))
theorem AN(x:W12):PUR 201 [cz x] (cz (dd x)):=(bT (l1 (V12 _)) (V12 _) (pE TO63 func201 [.inl [x.1.1.1,x.1.1.2,x.1.2.1.1,x.1.2.1.2,x.1.2.2.1,x.1.2.2.2,x.2.1.1,x.2.1.2,x.2.2.1.1,x.2.2.1.2,x.2.2.2.1,x.2.2.2.2]] (.inl (.inl [(dd x).1.1.1,(dd x).1.1.2,(dd x).1.2.1.1,(dd x).1.2.1.2,(dd x).1.2.2.1,(dd x).1.2.2.2,(dd x).2.1.1,(dd x).2.1.2,(dd x).2.2.1.1,(dd x).2.2.1.2,(dd x).2.2.2.1,(dd x).2.2.2.2])) (let t0:=K6.neg ((x.2.1.1,x.2.1.2),(x.2.2.1.1,x.2.2.1.2),(x.2.2.2.1,x.2.2.2.2));(.inl (.inl [x.1.1.1,x.1.1.2,x.1.2.1.1,x.1.2.1.2,x.1.2.2.1,x.1.2.2.2,t0.1.1,t0.1.2,t0.2.1.1,t0.2.1.2,t0.2.2.1,t0.2.2.2]),[])) [] kr aD O))
theorem eh{f:Nat}{g:W12->W12}(en:ai prog f)(h: ∀a,PUR f [cz a] (cz (g a))):Snd prog Gt f (c1 q12.ag q12.rd g):=gt q12.ag q12.rd en (λa=>bT (l1 (V12 _).symm) (V12 _).symm (h a))
theorem Du(x y:W12):PUR 218 [cz x,cz y] (cz (K12.mul x y)):=by
 intro w hw;refine Hf func218 O hw<|λhGF=>Xp<|Bx 2 hGF O<|λb2=>Bx 3 hGF O<|λb3=>Al 4 hGF zv211<|λb4=>aa<|fG (E:=EE [2999999]) [0,1,2,3,4,5,6,7,8,9] [⟨10,5,209,((fe 0++fe 0)++((fe 0++fe 0)++(fe 0++fe 0))).map U64⟩,⟨11,6,209,((fe 0++fe 0)++((fe 0++fe 0)++(fe 0++fe 0))).map U64⟩] [12,13] cY O kr kr kr kr kr kr dc (by intro x hx;simp only[List.mem_cons,List.not_mem_nil,or_false]at hx;rcases hx with rfl|rfl<;>exact bD O zv209 O)<|Fa 0 O underlying211 O sizeOf209<|aw 2 _ O O isAgg209 sizeOf209 sm ej O O<|Fa 0 O underlying211 O sizeOf209<|aw 3 _ O O isAgg209 sizeOf209 sm ej O O<|Ca O (mY _ _)<|Fa 36 O underlying211 O sizeOf209<|aw 2 _ O O isAgg209 sizeOf209 sm (jf sm) O O<|Fa 36 O underlying211 O sizeOf209<|aw 3 _ O O isAgg209 sizeOf209 sm (jf sm) O O<|Ca O (mY _ _)<|aa<|?_
 refine ⟨_,_,rfl,hGF,by intro x hx;simp only[List.mem_cons,List.not_mem_nil,or_false]at hx;rcases hx with rfl|rfl<;>rfl,by intro x hx;simp only[List.mem_cons,List.not_mem_nil,or_false]at hx;rcases hx with rfl|rfl<;>rfl,λadr=> ?_⟩
 refine Sa 5 hGF O O O dx<|Sa 6 hGF O O O dx<|aa<|Xa [0,1,2,3,4,5,6,7,8,9,10] ⟨11,7,209,((fe 0++fe 0)++((fe 0++fe 0)++(fe 0++fe 0))).map U64⟩ [12] (bD O zv209 O)<|Fa 0 O underlying211 O sizeOf209<|aw 2 _ O O isAgg209 sizeOf209 sm ej O O<|Fa 36 O underlying211 O sizeOf209<|aw 2 _ O O isAgg209 sizeOf209 sm (jf sm) O O<|Ca O (nT _ _)<|Fa 0 O underlying211 O sizeOf209<|aw 3 _ O O isAgg209 sizeOf209 sm ej O O<|Fa 36 O underlying211 O sizeOf209<|aw 3 _ O O isAgg209 sizeOf209 sm (jf sm) O O<|Ca O (nT _ _)<|Ca O (mY _ _)<|aa<|?_;refine ⟨_,_,rfl,hGF,by intro x hx;simp only[List.mem_cons,List.not_mem_nil,or_false]at hx;subst hx;rfl,by intro x hx;simp only[List.mem_cons,List.not_mem_nil,or_false]at hx;subst hx;rfl,λadr=> ?_⟩
 refine Sa 7 hGF O O O dx<|aa<|Xd []<|La 5 O O dx<|La 6 O O dx<|Ca O (k6v _)<|Ca O (nT _ _)<|La 7 O O dx<|La 5 O O dx<|Ca O (o5 _ _)<|La 6 O O dx<|Ca O (o5 _ _)<|co uc O O sm sm O O<|Sa 4 hGF O O O gN<|aa<|ak<|Rr<|?_;exact au 4 O O O isAgg211 sizeOf211 sm (λw hw=>⟨e12 (zq K6 [x.1,x.2,y.1,y.2,VV] (ta (tm j0 j2) (tvv 4 (tm j1 j3) O)) (ta (tm j0 j2) (tm j4 (tm j1 j3)))) (zq K6 [x.1,x.2,y.1,y.2,VV] (E3 (E3 (tm (ta j0 j1) (ta j2 j3)) (tm j0 j2)) (tm j1 j3)) (ta (tm j0 j3) (tm j1 j2))),ab hw⟩)
theorem nn(x:W12):PUR 197 [cz x] (cz (K12.mul x x)):=by
 intro w hw;refine Hf func197 O hw<|λhGF=>Xp<|Bx 1 hGF O<|λb1=>Al 2 hGF zv211<|λb2=>aa<|Xp<|Fa 0 O underlying211 O sizeOf209<|aw 1 _ O O isAgg209 sizeOf209 sm ej O O<|Fa 36 O underlying211 O sizeOf209<|aw 1 _ O O isAgg209 sizeOf209 sm (jf sm) O O<|Ca O (mY _ _)<|Al 3 hGF zv209<|λb3=>Sa 3 hGF O O O dx<|aa<|Xa [0,1,2,3,4,5,6,7,8,9,10,11] ⟨12,4,209,((fe 0++fe 0)++((fe 0++fe 0)++(fe 0++fe 0))).map U64⟩ [13] (bD O zv209 O)<|Fa 0 O underlying211 O sizeOf209<|aw 1 _ O O isAgg209 sizeOf209 sm ej O O<|Fa 36 O underlying211 O sizeOf209<|aw 1 _ O O isAgg209 sizeOf209 sm (jf sm) O O<|Ca O (nT _ _)<|Fa 0 O underlying211 O sizeOf209<|aw 1 _ O O isAgg209 sizeOf209 sm ej O O<|Fa 36 O underlying211 O sizeOf209<|aw 1 _ O O isAgg209 sizeOf209 sm (jf sm) O O<|Ca O (k6v _)<|Ca O (nT _ _)<|Ca O (mY _ _)<|aa<|?_;refine ⟨_,_,rfl,hGF,by intro x hx;simp only[List.mem_cons,List.not_mem_nil,or_false]at hx;subst hx;rfl,by intro x hx;simp only[List.mem_cons,List.not_mem_nil,or_false]at hx;subst hx;rfl,λadr=> ?_⟩
 refine Sa 4 hGF O O O dx<|aa<|Xd []<|La 4 O O dx<|La 3 O O dx<|Ca O (o5 _ _)<|La 3 O O dx<|Ca O (k6v _)<|Ca O (o5 _ _)<|La 3 O O dx<|La 3 O O dx<|Ca O (nT _ _)<|co uc O O sm sm O O<|Sa 2 hGF O O O gN<|aa<|ak<|Rr<|?_;exact au 2 O O O isAgg211 sizeOf211 sm (λw hw=>⟨e12 (zq K6 [x.1,x.2,VV] (E3 (E3 (tm (ta j0 j1) (ta j0 (tvv 2 j1 O))) (tm j0 j1)) (tvv 2 (tm j0 j1) O)) (ta (tm j0 j0) (tm j2 (tm j1 j1)))) (zq K6 [x.1,x.2,VV] (ta (tm j0 j1) (tm j0 j1)) (ta (tm j0 j1) (tm j1 j0))),ab hw⟩)
theorem Py(x:W12):sb6 (K6.mul x.1 x.1) (v6 (K6.mul x.2 x.2))=qnm K6 VV x:=zq K6 [x.1,x.2,VV] (E3 (tm j0 j0) (tvv 2 (tm j1 j1) O)) (ta (tm j0 j0) (tn (tm j2 (tm j1 j1))))
theorem VQ(x:W12)(n:W6):K6.mul x.1 n=K6.add (K6.mul x.1 n) (K6.mul VV (K6.mul (K6.neg x.2) K6.zero)):=zq K6 [x.1,x.2,n,VV] (tm j0 j2) (ta (tm j0 j2) (tm j3 (tm (tn j1) tz0)))
theorem T7(x:W12)(n:W6):K6.neg (K6.mul x.2 n)=K6.add (K6.mul x.1 K6.zero) (K6.mul (K6.neg x.2) n):=zq K6 [x.1,x.2,n] (tn (tm j1 j2)) (ta (tm j0 tz0) (tm (tn j1) j2))
theorem Rn(x:W12):PUR 220 [cz x] (cz (BK x)):=by
 intro w hw;refine Hf func220 O hw<|λhGF=>Xp<|Bx 1 hGF O<|λb1=>Al 2 hGF zv211<|λb2=>aa<|Xa [0,1,2,3,4,5,6,7] ⟨8,3,209,((fe 0++fe 0)++((fe 0++fe 0)++(fe 0++fe 0))).map U64⟩ [9] (bD O zv209 O)<|Fa 0 O underlying211 O sizeOf209<|aw 1 _ O O isAgg209 sizeOf209 sm ej O O<|Ca O (mx _)<|Fa 36 O underlying211 O sizeOf209<|aw 1 _ O O isAgg209 sizeOf209 sm (jf sm) O O<|Ca O (mx _)<|Ca O (k6v _)<|Ca O (o5 _ _)<|aa<|?_;refine ⟨_,_,rfl,hGF,by intro x hx;simp only[List.mem_cons,List.not_mem_nil,or_false]at hx;subst hx;rfl,by intro x hx;simp only[List.mem_cons,List.not_mem_nil,or_false]at hx;subst hx;rfl,λadr=> ?_⟩
 refine Sa 3 hGF O O O dx<|aa<|Xp<|La 3 O O dx<|Ca O (Gi _)<|Al 4 hGF zv209<|λb4=>Sa 4 hGF O O O dx<|aa<|Xd []<|Fa 0 O underlying211 O sizeOf209<|aw 1 _ O O isAgg209 sizeOf209 sm ej O O<|La 4 O O dx<|Ca O (mY _ _)<|Fa 36 O underlying211 O sizeOf209<|aw 1 _ O O isAgg209 sizeOf209 sm (jf sm) O O<|La 4 O O dx<|Ca O (mY _ _)<|Ca O (EA _)<|co uc O O sm sm O O<|Sa 2 hGF O O O gN<|aa<|ak<|Rr<|?_;exact au 2 O O O isAgg211 sizeOf211 sm (λw hw=>⟨by rw[Py];exact e12 (VQ _ _) (T7 _ _),ab hw⟩)
end Q6
end
def GV:Nat->W2
 |0=>on2
 |n+1=>ml2 (cj2 (GV n)) GA
theorem Qg:cj2 on2=on2:=by decide+kernel
theorem Ee(y:W2): ∀k,cj2 (pw2 y k)=pw2 (cj2 y) k
 |0=>Qg
 |k+1=>by rw[nR,ir,Ee y k,nR]
theorem wS(a b:W2)(k:Nat):ml2 (pw2 a k) (pw2 b k)=pw2 (ml2 a b) k:=(R2.mul_pw a b k).symm
def frq(c:W2)(n k:Nat):W2:=ml2 (cjn n c) (pw2 (GV n) k)
theorem r9(c:W2)(n k:Nat):ml2 (cj2 (frq c n k)) (pw2 GA k)=frq c (n+1) k:=by
 rw[frq,ir,WE,xE,Ee,wS];rfl
theorem rM(c:W2)(k:Nat):frq c 0 k=c:=by
 have e:pw2 (GV 0) k=on2:=R2.one_pw k;rw[frq,e];exact R2.mul_one c
theorem AC(x:W12): ∀n,o3 x n=((frq x.1.1 n 0,frq x.1.2.1 n 2,frq x.1.2.2 n 4),(frq x.2.1 n 1,frq x.2.2.1 n 3,frq x.2.2.2 n 5))
 |0=>by rw[rM,rM,rM,rM,rM,rM];rfl
 |n+1=>by
  rw[o3,AC x n];exact Prod.ext (Prod.ext (r9 _ _ _) (Prod.ext (r9 _ _ _) (r9 _ _ _))) (Prod.ext (r9 _ _ _) (Prod.ext (r9 _ _ _) (r9 _ _ _)))
/-! ### The sixth root, as numbers -/
def sxh:Nat:=(sx-1) / 2
def CNn:Nat:=151655185184498381465642749684540099398075398968325446656007613510403227271200139370504932015952886146304766135027
theorem zF:2*sxh+1=sx:=by decide+kernel
theorem Fx:4*(sxh / 4)+3=sxh:=by decide+kernel
theorem R4(c:Zp):pw2 (0,c) sxh=(0,-(c^sxh)):=by
 have h:=Vo c (sxh / 4);rw[Fx]at h;exact h
theorem P1:pm 2 PP (64*6) sxh+CNn=PP:=by decide+kernel
theorem Ph: -(zp 2^sxh)=zp CNn:=uw (by
 rw[Ev 2 sxh (64*6) (Lo eB (by have:=sx_val;have:=zF;have:=nj;omega)),<-ga,P1,mI])
theorem Gu:GA=(-(zp CNn),zp CNn):=by
 have e:pw2 XI sx=ml2 (pw2 (pw2 XI 2) sxh) XI:=by rw[<-zQ,<-zF];rfl
 rw[GA,e,UK,R4,Ph];generalize zp CNn=a;refine bU ?_ ?_
 ·show 0*1-a*1= -a
  rw[rq,rq,WT]
 ·show 0*1+a*1=a
  rw[rq,rq,Vt]
theorem M2(x:W12): ∀n,K12.pw x (PP^n)=o3 x n
 |0=>by rw[Nat.pow_zero,K12.pw_one];rfl
 |n+1=>by rw[Nat.pow_succ,K12.pw_mul,M2 x n,uF];rfl
theorem P7(x:W12):K12.pw x (PP^6)=dd x:=(M2 x 6).trans (mF x)
/-! ### As the reference reckons it -/
def tnd(u:Nat)(x:W12):W12:=dd (K12.pw x u)
def fi1(x:W12):W12:=K12.mul (dd x) (BK x)
def fi2(x:W12):W12:=K12.mul (d8 (d8 x)) x
def fi3(u:Nat)(x:W12):W12:=K12.mul (tnd u x) (dd x)
def fi4(u:Nat)(x:W12):W12:=K12.mul (tnd u x) (d8 x)
def fi5(u:Nat)(x:W12):W12:=K12.mul (K12.mul (tnd u (tnd u x)) (d8 (d8 x))) (dd x)
def fi6(u:Nat)(x:W12):W12:=K12.mul (K12.mul (K12.mul (fi5 u (fi4 u (fi3 u (fi3 u x)))) x) x) x
def xm(u:Nat)(x:W12):W12:=fi6 u (fi2 (fi1 x))
section
variable {u p2 p6 n:Nat} (h2: ∀x,d8 (d8 x)=K12.pw x p2) (h6: ∀x,dd x=K12.pw x p6)
end
section
variable {e:Nat}
end
/-! ### Upright lines -/
section
set_option maxRecDepth 1000000
def L63:List Bool:=(List.range 63).map λi=>(0x5201000000010000:Nat).testBit (62-i)
theorem WM:nZ L63 1=UG:=by decide+kernel
/-! ### The power -/
end
section
variable {α:Type} (C:Ec α)
def Ec.t3(x:α):α:=C.R.add (C.R.add (C.R.mul x x) (C.R.mul x x)) (C.R.mul x x)
def Ec.wdL(J:α×α×α):α×α×α:=(C.sub (C.R.mul (C.t3 J.1) J.1) (C.R.mul (C.R.add J.2.1 J.2.1) J.2.1),C.R.mul (C.t3 J.1) (C.R.mul J.2.2 J.2.2),C.R.mul (C.R.mul J.2.2 (C.R.add J.2.1 J.2.1)) (C.R.mul J.2.2 J.2.2))
def Ec.wdJ(J:α×α×α):α×α×α:=
 let u:=C.t3 J.1
 let d:=C.R.mul (C.R.add J.2.1 J.2.1) J.2.1
 let h:=C.R.add d d
 let b:=C.R.mul h J.1
 let X:=C.sub (C.sub (C.R.mul u u) b) b
 (X,C.sub (C.R.mul u (C.sub b X)) (C.R.mul h d),C.R.mul J.2.2 (C.R.add J.2.1 J.2.1))
def Ec.wjU(J:α×α×α)(q:α×α):α:=C.sub (C.R.mul (C.R.mul q.2 (C.R.mul J.2.2 J.2.2)) J.2.2) J.2.1
def Ec.wjA(J:α×α×α)(q:α×α):α:=C.sub (C.R.mul q.1 (C.R.mul J.2.2 J.2.2)) J.1
def Ec.wjL(J:α×α×α)(q:α×α):α×α×α:=(C.sub (C.R.mul (C.wjU J q) q.1) (C.R.mul (C.R.mul J.2.2 (C.wjA J q)) q.2),C.wjU J q,C.R.mul J.2.2 (C.wjA J q))
def Ec.wjJ(J:α×α×α)(q:α×α):α×α×α:=
 let u:=C.wjU J q
 let a:=C.wjA J q
 let s:=C.R.mul a a
 let t:=C.R.mul s a
 let b:=C.R.mul s J.1
 let X:=C.sub (C.sub (C.sub (C.R.mul u u) t) b) b
 (X,C.sub (C.R.mul u (C.sub b X)) (C.R.mul t J.2.1),C.R.mul J.2.2 a)
end
section
variable {α:Type} [DecidableEq α] (C:Ec α)
end
abbrev WK:=(Zp×Zp)×(W2×W2)×W6
def LNR(L:W2×W2×W2)(p:Zp×Zp):W6:=(L.1,ng2 (sc2 L.2.1 p.1),sc2 L.2.2 p.2)
def lel(t:W6):W12:=((t.1,t.2.1,ze2),(ze2,t.2.2,ze2))
def wDb(w:WK):WK:=(w.1,w.2.1,E2w.wdJ w.2.2)
def rDb(w:WK):W6:=LNR (E2w.wdL w.2.2) w.1
def wJn(w:WK):WK:=if w.2.2.2.2=ze2 then (w.1,w.2.1,(w.2.1.1,w.2.1.2,on2))else (w.1,w.2.1,E2w.wjJ w.2.2 w.2.1)
def rJn(w:WK):W6:=if w.2.2.2.2=ze2 then (on2,ze2,ze2)else LNR (E2w.wjL w.2.2 w.2.1) w.1
def iM(g:WK->W6):List WK->W12->W12
 |[],f=>f
 |w::l,f=>iM g l (K12.mul (lel (g w)) f)
def rdF(d:Bool)(S:List WK×W12):List WK×W12:=
 bif d then ((S.1.map wDb).map wJn,iM rJn (S.1.map wDb) (iM rDb S.1 (K12.mul S.2 S.2)))else (S.1.map wDb,iM rDb S.1 (K12.mul S.2 S.2))
def rdK(l:List Bool)(S:List WK×W12):List WK×W12:=l.foldl (λS d=>rdF d S) S
theorem Jh(l:List Bool)(d:Bool)(S:List WK×W12):rdK (l++[d]) S=rdF d (rdK l S):=by rw[rdK,List.foldl_append];rfl
/-! ### Products -/
/-! ### One round -/
theorem hrO{d:Nat}(h0:0<d)(h1:d<ORD): ∃e,(d*e) % ORD=1:=Q2 Oq h0 h1
/-! ### All rounds -/
theorem ns(d:Bool): ∀(l:List Bool) (n:Nat),nZ (l++[d]) n=2*nZ l n+d.toNat
 |[],n=>by cases d<;>rfl
 |e::l,n=>by rw[List.cons_append,Aq,Aq];exact ns d l _
def wkB(p:Zp×Zp)(q:W2×W2):WK:=(p,q,(q.1,q.2,on2))
section
open Go.RowKit
attribute [local simp] a6 bv aH aA aQ aY aR aK aM PLl cJ cH N1l cI cL cK bf bB a7 bu J1.bx J2.bx
theorem ent163:ai prog 163:=λ_ _=>kr
theorem ent228:ai prog 228:=λ_ _=>kr
theorem ent229:ai prog 229:=λ_ _=>kr
theorem ent195:ai prog 195:=λ_ _=>kr
theorem ent198:ai prog 198:=λ_ _=>kr
theorem ent199:ai prog 199:=λ_ _=>kr
theorem ent200:ai prog 200:=λ_ _=>kr
theorem ent230:ai prog 230:=λ_ _=>kr
theorem ent222:ai prog 222:=λ_ _=>kr
namespace Q6
def TO201:Tb prog Gt:=J2.TO68.add (zi (g:=K6.one) ent203 LI)
def TO202:Tb prog Gt:=TO201.add (pr (g:=λx y=>decide (x=y)) ent202 oC)
def TO203:Tb prog Gt:=TO202.add (cx (g:=K6.add) ent225 nT)
def TO204:Tb prog Gt:=TO203.add (cx (g:=sb6) ent227 o5)
def TO205:Tb prog Gt:=TO204.add (cN (g:=K6.neg) ent232 EA)
def TO206:Tb prog Gt:=TO205.add (cx (g:=K6.mul) ent224 mY)
def TO207:Tb prog Gt:=TO206.add (cN (g:=λx=>K6.mul x x) ent258 mx)
theorem oq{f:Nat}{g:W6->W2->W6}(en:ai prog f)(h: ∀a b,PUR f [EV6 a,EV2 b] (EV6 (g a b))):Snd prog Gt f (c2 q6.ag q2.ag q6.rd g):=gv q6.ag q2.ag q6.rd en (λa b=>bT (l2 (V6 _).symm O) (V6 _).symm (h a b))
def TO208:Tb prog Gt:=TO207.add (oq (g:=sc6) ent231 zY)
def TO209:Tb prog Gt:=TO208.add (cN (g:=v6) ent226 k6v)
def TO210:Tb prog Gt:=TO209.add (cN (g:=oth) ent274 qP)
def TO211:Tb prog Gt:=TO210.add (cN (g:=iv6) ent259 Gi)
def TO212:Tb prog Gt:=TO211.add (Hs (g:=K12.one) ent165 tr)
def TO213:Tb prog Gt:=TO212.add (jk (g:=λx y=>decide (x=y)) ent164 pH)
def TO215:Tb prog Gt:=TO213.add (eh (g:=dd) ent201 AN)
def TO216:Tb prog Gt:=TO215.add (lT (g:=K12.mul) ent218 Du)
def TO217:Tb prog Gt:=TO216.add (eh (g:=λx=>K12.mul x x) ent197 nn)
def TO218:Tb prog Gt:=TO217.add (eh (g:=BK) ent220 Rn)
def XY3(x:W6):W2×W2×Bool:=if x.2.2=ze2 then (ze2,ze2,false)else (ml2 x.1 (ml2 (iv2 x.2.2) (iv2 x.2.2)),ml2 x.2.1 (ml2 (ml2 (iv2 x.2.2) (iv2 x.2.2)) (iv2 x.2.2)),true)
theorem xy3(x:W6):PUR 80 [EV6 x] (.tuple #[EV2 (XY3 x).1,EV2 (XY3 x).2.1,.bool (XY3 x).2.2]):=by
 by_cases h:x.2.2=ze2
 ·rw[show XY3 x=(ze2,ze2,false)from if_pos h];exact J2.zP x h
 ·rw[show XY3 x=_ from if_neg h];exact J2.zd x h
theorem sH{f:Nat}{g:W6->W2×W2×Bool}(en:ai prog f)(h: ∀a,PUR f [EV6 a] (.tuple #[EV2 (g a).1,EV2 (g a).2.1,.bool (g a).2.2])):Snd prog Gt f (c1 q6.ag q2.rdBB g):=gt q6.ag q2.rdBB en (λa=>bT (l1 (V6 _).symm) O (h a))
def TO219:Tb prog Gt:=TO218.add (sH (g:=XY3) ent80 xy3)
def TG2(x y:W2):W2×W2:=(ad2 (ad2 (ml2 x x) (ml2 x x)) (ml2 x x),ad2 y y)
theorem mtan(x y:W2):PUR 228 [EV2 x,EV2 y] (.tuple #[EV2 (TG2 x y).1,EV2 (TG2 x y).2]):=pE TO219 func228 [.inl [x.1,x.2],.inl [y.1,y.2]] (.inr [.inl [((TG2 x y).1).1,((TG2 x y).1).2],.inl [((TG2 x y).2).1,((TG2 x y).2).2]]) (let t0:=ml2 x x;let t1:=ad2 (t0.1,t0.2) (t0.1,t0.2);let t2:=ad2 (t1.1,t1.2) (t0.1,t0.2);let t3:=ad2 y y;(.inr [.inl [t2.1,t2.2],.inl [t3.1,t3.2]],[])) [] kr aD O
theorem ni{f:Nat}{g:W2->W2->W2×W2}(en:ai prog f)(h: ∀a b,PUR f [EV2 a,EV2 b] (.tuple #[EV2 (g a b).1,EV2 (g a b).2])):Snd prog Gt f (c2 q2.ag q2.ag q2.rd2 g):=gv q2.ag q2.ag q2.rd2 en h
def TO220:Tb prog Gt:=TO219.add (ni (g:=TG2) ent228 mtan)
def LR5(p q:Zp)(a b c:W2):W6:=(a,ng2 (sc2 b p),sc2 c q)
theorem JU(p q:Zp)(a b c:W2):PUR 229 [EV p,EV q,EV2 a,EV2 b,EV2 c] (EV6 (LR5 p q a b c)):=(bT O (V6 _) (pE TO220 func229 [.inl [p],.inl [q],.inl [a.1,a.2],.inl [b.1,b.2],.inl [c.1,c.2]] (.inl (.inl [(LR5 p q a b c).1.1,(LR5 p q a b c).1.2,(LR5 p q a b c).2.1.1,(LR5 p q a b c).2.1.2,(LR5 p q a b c).2.2.1,(LR5 p q a b c).2.2.2])) (let t0:=sc2 b p;let t1:=ng2 (t0.1,t0.2);let t2:=sc2 c q;(.inl (.inl [a.1,a.2,t1.1,t1.2,t2.1,t2.2]),[])) [] kr aD O))
theorem gB{f:Nat}{g:Zp->Zp->W2->W2->W2->W6}(en:ai prog f)(h: ∀a b c d e,PUR f [EV a,EV b,EV2 c,EV2 d,EV2 e] (EV6 (g a b c d e))):Snd prog Gt f (c5 q1.ag q1.ag q2.ag q2.ag q2.ag q6.rd g):=Wx q1.ag q1.ag q2.ag q2.ag q2.ag q6.rd en (λa b c d e=>bT O (V6 _).symm (h a b c d e))
def TO221:Tb prog Gt:=TO220.add (gB (g:=LR5) ent229 JU)
def SHT(a:W6)(b c:W2):W6:=(ad2 (ml2 a.1 b) (xi2 (ml2 a.2.2 c)),E2w.sub (E2w.sub (ml2 (ad2 a.1 a.2.1) (ad2 b c)) (ml2 a.1 b)) (ml2 a.2.1 c),ad2 (ml2 a.2.1 c) (ml2 a.2.2 b))
theorem O9(a:W6)(b c:W2):PUR 230 [EV6 a,EV2 b,EV2 c] (EV6 (SHT a b c)):=(bT (l3 (V6 _) O O) (V6 _) (pE TO221 func230 [.inl [a.1.1,a.1.2,a.2.1.1,a.2.1.2,a.2.2.1,a.2.2.2],.inl [b.1,b.2],.inl [c.1,c.2]] (.inl (.inl [(SHT a b c).1.1,(SHT a b c).1.2,(SHT a b c).2.1.1,(SHT a b c).2.1.2,(SHT a b c).2.2.1,(SHT a b c).2.2.2])) (let t0:=ml2 (a.1.1,a.1.2) b;let t1:=ml2 (a.2.1.1,a.2.1.2) c;let t2:=ad2 (a.1.1,a.1.2) (a.2.1.1,a.2.1.2);let t3:=ad2 b c;let t4:=ml2 (t2.1,t2.2) (t3.1,t3.2);let t5:=E2w.sub (t4.1,t4.2) (t0.1,t0.2);let t6:=E2w.sub (t5.1,t5.2) (t1.1,t1.2);let t7:=ml2 (a.2.2.1,a.2.2.2) c;let t8:=xi2 (t7.1,t7.2);let t9:=ad2 (t0.1,t0.2) (t8.1,t8.2);let t10:=ml2 (a.2.2.1,a.2.2.2) b;let t11:=ad2 (t1.1,t1.2) (t10.1,t10.2);(.inl (.inl [t9.1,t9.2,t6.1,t6.2,t11.1,t11.2]),[])) [] kr aD O))
theorem kK{f:Nat}{g:W6->W2->W2->W6}(en:ai prog f)(h: ∀a b c,PUR f [EV6 a,EV2 b,EV2 c] (EV6 (g a b c))):Snd prog Gt f (c3 q6.ag q2.ag q2.ag q6.rd g):=VI q6.ag q2.ag q2.ag q6.rd en (λa b c=>bT (l3 (V6 _).symm O O) (V6 _).symm (h a b c))
def TO222:Tb prog Gt:=TO221.add (kK (g:=SHT) ent230 O9)
end Q6
end
end Go.Proofs.YtjookodjbjabbaaGreatDoor
