/- L3 -/
import Derived.Test.YtjookodjbjabbaaGreatDoorL2
set_option maxRecDepth 100000
set_option maxHeartbeats 1000000
namespace Go.Proofs.YtjookodjbjabbaaGreatDoor
open Go.Proofs.Tryz
theorem bv_a: ∀b:BitVec 8,b &&& 224#8=0#8->(b|||128#8) &&& 31#8=b/\((b|||128#8)|||32#8) &&& 31#8=b/\¬((b|||128#8) &&& 224#8) &&& 128#8=0#8/\¬(((b|||128#8)|||32#8) &&& 224#8) &&& 128#8=0#8/\((b|||128#8) &&& 224#8) &&& 64#8=0#8/\(((b|||128#8)|||32#8) &&& 224#8) &&& 64#8=0#8/\((b|||128#8) &&& 224#8) &&& 32#8=0#8/\¬(((b|||128#8)|||32#8) &&& 224#8) &&& 32#8=0#8:=by decide+kernel
def ENF(B:L8)(l:Bool):L8:=if l=true then OR0 (OR0 B 128#8) 32#8 else OR0 B 128#8
theorem XK(b:BitVec 8)(r:L8):MK (b::r)=(b &&& 31#8)::r:=rfl
theorem Di(b:BitVec 8)(r:L8):FG (b::r)=b &&& 224#8:=rfl
theorem AE(b:BitVec 8)(r:L8):ENF (b::r) true=((b|||128#8)|||32#8)::r:=rfl
theorem A2(b:BitVec 8)(r:L8):ENF (b::r) false=(b|||128#8)::r:=rfl
theorem oO(B:L8)(l:Bool):(ENF B l).length=B.length:=by
 cases l<;>simp[ENF,fk]
structure Top(B:L8):Prop where
 ne:0<B.length
 lt:B.getD 0 0 &&& 224#8=0#8
theorem zX{B:L8}(h:Top B)(l:Bool):MK (ENF B l)=B/\¬FG (ENF B l) &&& 128#8=0#8/\FG (ENF B l) &&& 64#8=0#8/\LB (ENF B l)=l:=by
 cases B with
 |nil=>exact absurd h.ne dc
 |cons b r=>
  obtain ⟨h1,h2,h3,h4,h5,h6,h7,h8⟩:=bv_a b h.lt
  cases l with
  |true=>exact ⟨by rw[AE,XK,h2],by rw[AE,Di];exact h4,by rw[AE,Di];exact h6,by rw[LB,AE,Di];exact bne_iff_ne.2 h8⟩
  |false=>exact ⟨by rw[A2,XK,h1],by rw[A2,Di];exact h3,by rw[A2,Di];exact h5,by rw[LB,A2,Di];exact bne_eq_false_iff_eq.2 h7⟩
/-! ### Numbers below p have noughts there -/
theorem Ix(bs:L8): ∀n,(bs.getD 0 0).toNat*256^n<=BN bs (n+1)
 |0=>by rw[BN,BN];omega
 |n+1=>by
  have:=Ix bs n;rw[BN,Nat.pow_succ];generalize 256^n=p at*;generalize BN bs (n+1)=q at*;generalize (bs.getD 0 0).toNat=t at*;have:t*(p*256)=t*p*256:=by rw[Nat.mul_assoc]
  omega
theorem OS:PP<32*256^47:=by decide+kernel
theorem bv_t: ∀b:BitVec 8,b.toNat<32->b &&& 224#8=0#8:=by decide+kernel
theorem O2{bs:L8}(h:bs.length=48)(hl:BN bs 48<PP):Top bs:=by
 refine ⟨om,bv_t _ ?_⟩;have h1:=Ix bs 47;have h2:=OS;generalize (bs.getD 0 0).toNat=t at*;have h3:t*256^47<32*256^47:=Nat.lt_of_le_of_lt h1 (Nat.lt_trans hl h2);exact Nat.lt_of_mul_lt_mul_right h3
theorem oN(x:Zp):BN (cH x) 48<PP:=by rw[Bo];exact x.isLt
theorem vD(x:Zp):Top (cH x):=O2 (aM x) (oN x)
theorem uF(x:Zp):zp (BN (cH x) 48)=x:=by
 rw[Bo];exact r3 x
def EN1:Pt Zp->L8
 |none=>(List.replicate 48 0#8).set 0 192#8
 |some p=>ENF (cH p.1) (LG2 (p.2,0))
def EN2:Pt W2->L8
 |none=>(List.replicate 96 0#8).set 0 192#8
 |some p=>ENF (cH p.1.2++cH p.1.1) (LG2 p.2)
theorem Nk(x y:Zp):EN1 (some (x,y))=ENF (cH x) (LG2 (y,0)):=rfl
theorem Mr(x y:W2):EN2 (some (x,y))=ENF (cH x.2++cH x.1) (LG2 y):=rfl
theorem UO(y:Zp):ng2 (y,0)=(-y,0):=bT O (by show-(0:Zp)=0;exact z_n0')
theorem Lo{y:Zp}(h:y≠0):LG2 (-y,0)= !LG2 (y,0):=by
 rw[<-UO];exact oK (λe=>h (yz1.1 e))
/-! ### Roots -/
theorem Ob{x y:Zp}(h:y*y=J1.RS4 x):J1.LQ x:=by
 show SQr (J1.RS4 x)*SQr (J1.RS4 x)=J1.RS4 x;rw[<-h];exact yJ y
theorem Ya{x y:Zp}(h:y*y=J1.RS4 x):J1.LY x (LG2 (y,0))=y:=by
 have hq:=Ob h;have s:=WJ y;have sm:LG2 (SQ (J1.RS4 x),0)=false:=NG (kN hq);rw[h]at s
 cases hl:LG2 (y,0)with
 |false=>
  rw[J1.WP hq];generalize SQ (J1.RS4 x)=t at*;rcases s with e|e
  ·exact e
  ·by_cases h0:y=0
   ·rw[e,h0];exact z_n0'
   ·rw[e,Lo h0,hl]at sm;cases sm
 |true=>
  rw[J1.Yb hq];generalize SQ (J1.RS4 x)=t at*;rcases s with e|e
  ·rw[e,hl]at sm;cases sm
  ·rw[e];exact J1.Ek y
theorem UX{x y:W2}(h:ml2 y y=J2.RS4 x): ∃r,ml2 r r=J2.RS4 x/\LG2 r=false/\J2.sgY r (LG2 y)=y:=by
 cases hl:LG2 y with
 |false=>exact ⟨y,h,hl,rfl⟩
 |true=>
  have h0:y≠ze2:=λe=>by rw[e,ut]at hl;cases hl
  exact ⟨ng2 y,(J2.Nl y).trans h,by rw[oK h0,hl];rfl,R2.neg_neg y⟩
/-! ### Written and read -/
theorem Lq{bs:L8}(h:bs.length=48):LO bs 0=MK bs:=by
 rw[LO,List.drop_zero];exact List.take_of_length_le (by rw[ce];omega)
theorem QT{x y:Zp}(on:E1.on (x,y)){c:Int}{Q:Pt Zp}(h:NY 0 (λQ=>IG1 Q) (LG2 (y,0)) x y c Q):D1 (EN1 (some (x,y))) c Q:=by
 have hy:=J1.nP.1 on;obtain ⟨m,f,s,l⟩:=zX (vD x) (LG2 (y,0));have hlen:(EN1 (some (x,y))).length=48:=(oO _ _).trans (aM x);have lo:LO (EN1 (some (x,y))) 0=cH x:=(Lq hlen).trans m;have ex:X1 (EN1 (some (x,y)))=x:=by rw[X1,lo,uF]
 refine .inr ⟨hlen,.inr ⟨f,.inr ⟨s,.inr ⟨by rw[lo];exact oN x,.inr ?_⟩⟩⟩⟩
 rw[ex,show LB (EN1 (some (x,y)))=LG2 (y,0)from l,Ya hy];exact ⟨Ob hy,h⟩
theorem LO_2{a b:L8}{bs:L8}(ha:a.length=48)(hb:b.length=48)(h:MK bs=a++b):LO bs 0=a/\LO bs 48=b:=by
 rw[LO,LO,h,List.drop_zero];exact ⟨List.take_left' ha,by rw[List.drop_left' ha];exact List.take_of_length_le om⟩
theorem I8{a b:L8}(h:Top a):Top (a++b):=by
 cases a with
 |nil=>exact absurd h.ne dc
 |cons x r=>exact ⟨sm,h.lt⟩
theorem R8{x y:W2}(on:E2w.on (x,y)){c:Int}{Q:Pt W2}(h:NY ze2 (λQ=>IG2 Q) (LG2 y) x y c Q):D2 (EN2 (some (x,y))) c Q:=by
 have hy:=J2.nP.1 on;obtain ⟨m,f,s,l⟩:=zX (I8 (b:=cH x.1) (vD x.2)) (LG2 y);have hlen:(EN2 (some (x,y))).length=96:=(oO _ _).trans (by rw[List.length_append,aM,aM])
 obtain ⟨l0,l48⟩:=LO_2 (bs:=EN2 (some (x,y))) (aM x.2) (aM x.1) m;have ex:X2 (EN2 (some (x,y)))=x:=by rw[X2,l0,l48,uF,uF]
 obtain ⟨r,hr,hs,e⟩:=UX hy;refine .inr ⟨hlen,.inr ⟨f,.inr ⟨s,.inr ⟨by rw[l0,l48];exact ⟨oN _,oN _⟩,.inr ⟨r, ?_⟩⟩⟩⟩⟩
 rw[ex,show LB (EN2 (some (x,y)))=LG2 y from l,e];exact ⟨hr,hs,h⟩
theorem Lp:D1 (EN1 none) 0 none:=.inr ⟨dc,.inr ⟨dc,.inl ⟨dc,by decide+kernel,rfl⟩⟩⟩
theorem Kt:D2 (EN2 none) 0 none:=.inr ⟨dc,.inr ⟨dc,.inl ⟨dc,by decide+kernel,rfl⟩⟩⟩
theorem NS{α:Type}{z:α}{inG:Option (α×α)->Prop}{l:Bool}{x y:α}(h: ¬(l=true/\y=z))(g:inG (some (x,y))):NY z inG l x y 0 (some (x,y)):=.inr ⟨h,.inr ⟨g,rfl,rfl⟩⟩
theorem Sn{y:Zp}: ¬(LG2 (y,0)=true/\y=0):=λ⟨h,e⟩=>by
 rw[e,show ((0,0):W2)=ze2 from O,ut]at h;cases h
theorem S4{y:W2}: ¬(LG2 y=true/\y=ze2):=λ⟨h,e⟩=>by
 rw[e,ut]at h;cases h
theorem pI{P:Pt Zp}(on:E1.onP P)(g:IG1 P):D1 (EN1 P) 0 P:=by
 cases P with
 |none=>exact Lp
 |some p=>exact QT (x:=p.1) (y:=p.2) on (NS Sn g)
theorem Wb{P:Pt W2}(on:E2w.onP P)(g:IG2 P):D2 (EN2 P) 0 P:=by
 cases P with
 |none=>exact Kt
 |some p=>exact R8 (x:=p.1) (y:=p.2) on (NS S4 g)
section
open Go.RowKit
attribute [local simp] a6 bj aH aB aP aZ aQ aI aM be bz a5 bv J1.bB J2.bB ce fk
theorem qs(xs:L8)(a1:Option Addr)(len1 cap1:Nat)(a2:Option Addr)(len2 cap2:Nat)(hl1:xs.length=len1)(hl2:xs.length=len2)(w:World)(hw:Gt w)(h1:BytesAt w a1 xs)(h2:BytesAt w a2 xs):
 CLS 15 [.slice a1 len1 cap1,.slice a2 len2 cap2].toArray w (λe w'=>e=.returned (.bool true)/\Grow w w'):=by
 refine Hf func15 O hw<|λhGF=>Xp<|Asg O<|aa<|Xp<|Mv O<|wG O O (λw' hw'=>wA underlying22 underlying5 underlying9 (h1.grow (ac hw')) _ _ hl1) O O<|Mv O<|wG O O (λw' hw'=>wA underlying22 underlying5 underlying9 (h2.grow (ac hw')) _ _ hl2) O O<|Bnr (v:=.bool true) O O (λw=>xw _ _ w)<|Asg O<|aa<|am<|Rr<|?_;exact aF O O (λw hw=>⟨rfl,ac hw⟩)
end
section
open Go.RowKit
attribute [local simp] a6 bj aH aB aP aZ aQ aI aM be bz a5 bv J1.bB J2.bB ce fk
theorem ent93:ak prog 93:=λ_ _=>kr
theorem ent150:ak prog 150:=λ_ _=>kr
theorem ent92:ak prog 92:=λ_ _=>kr
theorem ent45:ak prog 45:=λ_ _=>kr
theorem ent161:ak prog 161:=λ_ _=>kr
theorem NK(h:Bool):PUR 72 [.bool false,.bool h] (U8 192#8):=by
 intro w hw;refine Hf func72 O hw<|λhGF=>Xp<|Asg O<|aa<|ah<|ai<|Xp<|Mv O<|bp O (λ_=>a8 _) O O<|Asg O<|aa<|aT O<|Xp<|Asg O<|aa<|am<|Rr<|?_;exact aF O O (λw hw=>⟨rfl,ac hw⟩)
theorem NU  :PUR 72 [.bool true,.bool true] (U8 160#8):=by
 intro w hw;refine Hf func72 O hw<|λhGF=>Xp<|Asg O<|aa<|ah<|ai<|Xp<|Mv O<|bp O (λ_=>a8 _) O O<|Asg O<|aa<|aD O<|Xp<|Mv O<|Asg O<|aa<|aT O<|Xp<|Asg O<|aa<|am<|Rr<|?_;exact aF O O (λw hw=>⟨rfl,ac hw⟩)
theorem NI  :PUR 72 [.bool true,.bool false] (U8 128#8):=by
 intro w hw;refine Hf func72 O hw<|λhGF=>Xp<|Asg O<|aa<|ah<|ai<|Xp<|Mv O<|bp O (λ_=>a8 _) O O<|Asg O<|aa<|aD O<|Xp<|Mv O<|Asg O<|aa<|aD O<|aq<|Xp<|Asg O<|aa<|am<|Rr<|?_;exact aF O O (λw hw=>⟨rfl,ac hw⟩)
theorem MS{bs:L8}(h:0<bs.length):[bs.getD 0 0 &&& 31#8]++bs.drop 1=MK bs:=by
 cases bs with
 |nil=>cases h
 |cons a r=>rfl
theorem BytesAt.cut3{w:World}{a:Option Addr}{rs:L8}(h:BytesAt w a rs)(l k m:Nat)(hm: ¬m=l):BytesAt w (if m=l then a else a.map (·.add (l*1))) ((rs.drop l).take k):=by
 have e:=h.cut (cap:=rs.length+l+1) l k om;rw[if_neg om]at e;rw[if_neg hm];exact e
theorem BytesAt.tail{w:World}{a:Option Addr}{rs:L8}(h:BytesAt w a rs):BytesAt w (if rs.length=1 then a else a.map (·.add (1*1))) (rs.drop 1):=by
 have e:=h.cut (cap:=rs.length) 1 rs.length (Nat.le_refl _);rw[List.take_of_length_le (by rw[List.length_drop];omega)]at e
 exact e
theorem xp(e:Option Addr)(cap:Nat)(bs:L8)(h0:0<bs.length)(hl:bs.length<=1000)(hcap:bs.length<=cap)(w:World)(hw:Gt w)(hby:BytesAt w e bs):CLS 93 [.slice e bs.length cap].toArray w (λr w'=> ∃b7 c7 k7,r=.returned (.slice (spt b7) bs.length k7)/\Grow w w'/\w.heap.size<=b7/\OwnB w' b7 c7 5/\c7.take bs.length=(MK bs).map U8/\bs.length<=k7):=by
 refine Hf func93 O hw<|λhGF=>Xp<|Asg O<|aa<|F5 (E:=EE []) [0,1,2,3,5,6,7,8,9,10,4,11,12] cT O kr kr kr<|Mv O<|?_;obtain ⟨ad,rfl,_⟩:=hby 0 _ (gm U8 bs 0 0 om);refine gw 0 O O underlying22 sizeOf5 O om O O<|bO O isAgg5 (λw' h=>by obtain ⟨ad',e,hc⟩:=(hby.grow (ac h)) 0 _ (gm U8 bs 0 0 om);cases e;exact hc) O O<|Bnr (v:=U8 (bs.getD 0 0 &&& 31#8)) O O (λ_=>rP _ _ 224#8)<|Mv O<|Mv O<|bf O (λ_=>aG underlying22 _ _ _ _) O O<|Mv O<|bf O (λ_=>aG underlying22 _ _ _ _) O O<|gh (l:=1) (h':=bs.length) (m:=bs.length) O underlying22 sizeOf5 O O O ⟨om,Nat.le_refl _,hcap⟩ O O<|dU 7 [bs.getD 0 0 &&& 31#8] hGF O O O dc dc underlying22 sizeOf5 zeroValue5 O O<|?_
 intro b7;refine cq (xs:=[bs.getD 0 0 &&& 31#8]) (ys:=bs.drop 1) 7 hGF O (by rw[List.length_drop];rfl) underlying22 underlying22 ti5 (.inr ⟨b7,_,rfl,rfl,rfl,Nat.le_refl _,rfl⟩) (λw' h=>(hby.grow (ac h)).tail) (by simp;omega) O O (λh0=>absurd h0 (List.cons_ne_nil _ _)) (λb8 c8 k8 q1 q2 q3=> ?_)
 rw[MS h0]at q2 q3;rw[ce]at q2 q3;refine Asg O<|aa<|am<|Rr<|?_;exact aF O O (λw hw=>⟨b8,c8,k8,by rw[MS h0,ce],ac hw,(hw.own 7 b8 _ _ O).2.elim id False.elim,(hw.own 7 b8 _ _ O).1,q3,q2⟩)
def NQ(bs:L8):Bool:=decide (∀j,j<bs.length->bs.getD j 0=0#8)
theorem YG{bs:L8}(h: ∀j,j<bs.length->bs.getD j 0=0#8):NQ bs=true:=decide_eq_true h
theorem NQ_f{bs:L8}{i:Nat}(hi:i<bs.length)(h: ¬bs.getD i 0=0#8):NQ bs=false:=decide_eq_false (λk=>h (k i hi))
theorem Ft(e:Option Addr)(cap:Nat)(bs:L8)(hL:bs.length<=1000)(w:World)(hw:Gt w)(hby:BytesAt w e bs):CLS 150 [.slice e bs.length cap].toArray w (λr w'=>r=.returned (.bool (NQ bs))/\Grow w w'):=by
 refine Hf func150 O hw<|λhGF=>Xp<|Asg O<|aa<|ah<|Xp<|Mv O<|bf O (λ_=>aG underlying22 _ _ _ _) O O<|Mv O<|aa<|ai<|bH (ι:={i:Nat // i<=bs.length/\∀j,j<i->bs.getD j 0=0#8}) (λy=>[(5,.slice e bs.length cap),(6,I (bs.length:Int)),(7,I (y.1:Int))]) (λy=>[]) (λy=>bs.length-y.1) ⟨0,Nat.zero_le _,λ_ h=>absurd h (Nat.not_lt_zero _)⟩ hGF trv trivial<|?_;rintro ⟨i,hi,hall⟩;dsimp only;by_cases hz:bs.getD i 0=0#8
 ·refine Xp<|Bnr O O (λ_=>aw _ _ _)<|aa<|ah<|?_
  refine bD O (λhc=> ?_) (λhc=> ?_)
  ·have hi2:i<bs.length:=by simp at hc;omega
   refine aq<|ah<|ai<|Xp<|?_;obtain ⟨ad,rfl,_⟩:=hby i _ (gm U8 bs 0 i om);refine gw i O O underlying22 sizeOf5 O om O O<|bO (v:=U8 (bs.getD i 0)) O isAgg5 (λw' h=>by obtain ⟨ad',e,hc⟩:=(hby.grow (ac h)) i _ (gm U8 bs 0 i om);cases e;exact hc) O O<|Asg O<|aa<|Xp<|Mv O<|Bnb false O O (λ_=>dh _ _ 0#8) (bne_eq_false_iff_eq.2 hz)<|aa<|aD O<|aq<|Xq<|Bnr O O (λ_=>au _ _ _ oi)<|Mv O<|aa<|?_
   repeat (refine aO ?_)
   refine aC ?_;have hall': ∀j,j<i+1->bs.getD j 0=0#8:=λj hj=>by
    rcases Nat.lt_or_ge j i with h|h
    ·exact hall j h
    ·obtain rfl:j=i:=om
     exact hz
   exact ⟨rfl,⟨i+1,om,hall'⟩,_,by show bs.length-(i+1)<bs.length-i;omega,rfl,trv,trivial⟩
  ·obtain rfl:i=bs.length:=by simp at hc;omega
   refine aV<|Xp<|Asg O<|aa<|am<|Rr<|?_;exact aF O O (λw hw=>⟨by rw[YG hall];rfl,ac hw⟩)
 ·refine Xp<|Bnr O O (λ_=>aw _ _ _)<|aa<|ah<|?_
  refine bD O (λhc=> ?_) (λhc=> ?_)
  ·have hi2:i<bs.length:=by simp at hc;omega
   refine aq<|ah<|ai<|Xp<|?_;obtain ⟨ad,rfl,_⟩:=hby i _ (gm U8 bs 0 i om);refine gw i O O underlying22 sizeOf5 O om O O<|bO (v:=U8 (bs.getD i 0)) O isAgg5 (λw' h=>by obtain ⟨ad',e,hc⟩:=(hby.grow (ac h)) i _ (gm U8 bs 0 i om);cases e;exact hc) O O<|Asg O<|aa<|Xp<|Mv O<|Bnb true O O (λ_=>dh _ _ 0#8) (bne_iff_ne.2 hz)<|aa<|aT O<|Xp<|Asg O<|aa<|am<|Rr<|?_
   exact aF O O (λw hw=>⟨by rw[NQ_f hi2 hz];rfl,ac hw⟩)
  ·obtain rfl:i=bs.length:=by simp at hc;omega
   refine aV<|Xp<|Asg O<|aa<|am<|Rr<|?_;exact aF O O (λw hw=>⟨by rw[YG hall];rfl,ac hw⟩)
theorem vH(b k len:Nat)(c:List Value)(bs:L8)(hn:bs.length=len)(hL:len<=1000)(q:Bool)(hq:NQ bs=q)(w:World)(hw:Gt w)(h:w.rangeAt b 0 c)(ht:c.take bs.length=bs.map U8):CLS 150 [.slice (spt b) len k].toArray w (λr w'=>r=.returned (.bool q)/\Grow w w'):=by
 subst hn;subst hq;exact Ft _ k bs hL w hw (cD h ht)
def RdV(bs:L8)(N:Nat)(f:BitVec 8)(c:Int):Prop:=(¬bs.length=N/\f=0#8/\c=100)\/(bs.length=N/\((FG bs=128#8/\f=FG bs/\c=0)\/(¬FG bs=128#8/\((FG bs=160#8/\f=FG bs/\c=0)\/(¬FG bs=160#8/\((FG bs=192#8/\((NQ (MK bs)=true/\f=FG bs/\c=0)\/(NQ (MK bs)=false/\f=0#8/\c=101)))\/(¬FG bs=192#8/\f=0#8/\c=101)))))))
theorem nq(e:Option Addr)(cap N:Nat)(bs:L8)(h0:0<N)(hL:N<=1000)(hcap:bs.length<=cap)(f:BitVec 8)(c:Int)(h:RdV bs N f c)(w:World)(hw:Gt w)(hby:BytesAt w e bs):
 CLS 92 [.slice e bs.length cap,I (N:Int)].toArray w (λr w'=>r=.returned (.tuple #[U8 f,I c])/\Grow w w'):=by
 refine Hf func92 O hw<|λhGF=>ae (E:=EE [93,2000093])<|Asg O<|Asg O<|aa<|ah<|ae (E:=EE [93,2000093])<|Mv O<|bf O (λ_=>aG underlying22 _ _ _ _) O O<|Mv O<|?_;rcases h with ⟨hN,rfl,rfl⟩|⟨hN,h⟩
 ·refine Bnb true O O (λ_=>bC _ _ _) (bne_iff_ne.2 om)<|aa<|aT O<|ae (E:=EE [93,2000093])<|Asg O<|Asg O<|aa<|am<|Rr<|?_
  exact ch O O O (λw hw=>⟨rfl,ac hw⟩)
 ·refine Bnb false O O (λ_=>bC _ _ _) (bne_eq_false_iff_eq.2 om)<|aa<|aD O<|aq<|ah<|ae (E:=EE [93,2000093])<|Mv O<|?_
  obtain ⟨ad,he,_⟩:=hby 0 _ (gm U8 bs 0 0 om);refine gw (ad:=ad) 0 (by rw[<-he];rfl) O underlying22 sizeOf5 O om O O<|bO (v:=U8 (bs.getD 0 0)) O isAgg5 (λw' h=>by obtain ⟨ad',e',hc⟩:=(hby.grow (ac h)) 0 _ (gm U8 bs 0 0 om);rw[he]at e';cases e';exact hc) O O<|Bnr (v:=U8 (FG bs)) O O (λ_=>cC _ _ 224#8)<|Asg O<|aa<|ae (E:=EE [93,2000093])<|Mv O<|aa<|ai<|ah<|ae (E:=EE [93,2000093])<|?_
  rcases h with ⟨hf,rfl,rfl⟩|⟨hf,h⟩
  ·refine Bnb true O O (λ_=>cM _ _ 128#8) (beq_iff_eq.2 hf)<|Asg O<|aa<|aT O<|aq<|aT O<|ae (E:=EE [93,2000093])<|Mv O<|Asg O<|Asg O<|aa<|am<|Rr<|?_
   exact ch O O O (λw hw=>⟨rfl,ac hw⟩)
  ·refine Bnb false O O (λ_=>cM _ _ 128#8) (beq_eq_false_iff_ne.2 hf)<|Asg O<|aa<|aD O<|bG (E:=EE [93,2000093])<|?_
   rcases h with ⟨hf,rfl,rfl⟩|⟨hf,h⟩
   ·refine Bnb true O O (λ_=>cM _ _ 160#8) (beq_iff_eq.2 hf)<|Asg O<|aa<|aT O<|ae (E:=EE [93,2000093])<|Mv O<|Asg O<|Asg O<|aa<|am<|Rr<|?_
    exact ch O O O (λw hw=>⟨rfl,ac hw⟩)
   ·refine Bnb false O O (λ_=>cM _ _ 160#8) (beq_eq_false_iff_ne.2 hf)<|Asg O<|aa<|aD O<|ae (E:=EE [93,2000093])<|?_
    rcases h with ⟨hf,h⟩|⟨hf,rfl,rfl⟩
    ·refine Bnb true O O (λ_=>cM _ _ 192#8) (beq_iff_eq.2 hf)<|Asg O<|aa<|aT O<|ae (E:=EE [93,2000093])<|Mv O<|?_
     refine bI O O ent93 O O (λw' hw'=>(xp e cap bs om om hcap w' (hGF.g _ _ _ hw') (hby.grow (ac hw'))).mono λe' w'' h=> ?_);obtain ⟨b7,c7,k7,rfl,hg,hb7,hob,q3,q2⟩:=h;refine ⟨_,_,rfl,az hGF,hw'.news ao hg [(33,b7,c7,5)] ?_ bR,bP ao O, ?_⟩
     ·intro n' b' c' t' hl
      rcases aK hl with ⟨_,e⟩|⟨_,hl⟩
      ·cases e;exact ⟨hb7,hob⟩
      ·cases hl
     clear hw' hg hb7 hob;rcases h with ⟨hq,rfl,rfl⟩|⟨hq,rfl,rfl⟩
     ·refine Cc O ent150 (λw' hC hG=>vH b7 k7 bs.length c7 (MK bs) (ce bs) om true hq w' hG (aJ (n:=33) O w' hC) (by rw[ce];exact q3))<|aa<|aT O<|ae (E:=EE [93,2000093])<|Mv O<|Asg O<|Asg O<|aa<|am<|Rr<|?_
      exact ch O O O (λw hw=>⟨rfl,ac hw⟩)
     ·refine Cc O ent150 (λw' hC hG=>vH b7 k7 bs.length c7 (MK bs) (ce bs) om false hq w' hG (aJ (n:=33) O w' hC) (by rw[ce];exact q3))<|aa<|aD O<|aq<|ae (E:=EE [93,2000093])<|Asg O<|Asg O<|aa<|am<|Rr<|?_
      exact ch O O O (λw hw=>⟨rfl,ac hw⟩)
    ·refine Bnb false O O (λ_=>cM _ _ 192#8) (beq_eq_false_iff_ne.2 hf)<|Asg O<|aa<|aD O<|aq<|ae (E:=EE [93,2000093])<|Asg O<|Asg O<|aa<|am<|Rr<|?_
     exact ch O O O (λw hw=>⟨rfl,ac hw⟩)
theorem yX:mP prog 54 "Neg" 112:=λ_ _=>kr
theorem mY:mP prog 54 "Equal" 310:=λ_ _=>kr
theorem f9:mP prog 54 "InGroup" 311:=λ_ _=>kr
theorem yx(p t:J1.GP)(f:BitVec 8)(c:Int)(h:(¬f &&& 32#8=0#8/\((p.P=(J1.ku p).P/\t=J1.gInf/\c=103)\/(¬p.P=(J1.ku p).P/\((¬IG1 p.P/\t=J1.gInf/\c=104)\/(IG1 p.P/\p=t/\c=0)))))\/(f &&& 32#8=0#8/\((¬IG1 p.P/\t=J1.gInf/\c=104)\/(IG1 p.P/\p=t/\c=0)))):PUR 95 [J1.PtV p,.bool true,U8 f] (.tuple #[J1.PtV t,I c]):=by
 intro w hw;refine Hf func95 O hw<|λhGF=>Xp<|Bx 3 hGF O<|λb3=>Al 6 hGF J1.zv54<|λb6=>Asg O<|aa<|Xp<|Al 8 hGF J1.zv54<|λb8=>aa<|ah<|ai<|Xp<|Mv O<|bp O (λ_=>a8 _) O O<|Asg O<|aa<|aD O<|Xd []<|Mv O<|Bnr (v:=U8 (f &&& 32#8)) O O (λ_=>cC _ _ 32#8)<|?_;rcases h with ⟨hf,h⟩|⟨hf,h⟩
 ·refine Bnb true O O (λ_=>dh _ _ 0#8) (bne_iff_ne.2 hf)<|Mv O<|La 3 O O ck<|iu O underlying54 O O<|La 3 O O ck<|iu O underlying54 O O<|uH O O yX O ent112 (J1.u9 p) O O<|?_
  rcases h with ⟨he,rfl,rfl⟩|⟨he,h⟩
  ·refine fI true O O mY O ent310 (J1.m3 p (J1.ku p)) (decide_eq_true he) O O<|Pk O O O<|Asg O<|aa<|aT O<|Xp<|La 8 O O ck<|Sa 6 hGF O O O ck<|Asg O<|aa<|am<|Rr<|?_
   exact a7 6 O O O O isAgg54 sizeOf54 sm (λw hw=>⟨rfl,ac hw⟩)
  ·refine fI false O O mY O ent310 (J1.m3 p (J1.ku p)) (decide_eq_false he) O O<|Pk O O O<|Asg O<|aa<|aD O<|Xp<|La 3 O O ck<|iu O underlying54 O O<|?_
   rcases h with ⟨hg,rfl,rfl⟩|⟨hg,rfl,rfl⟩
   ·refine fI false O O f9 O ent311 (J1.fh p) (decide_eq_false hg) O O<|bp O (λ_=>a8 _) O O<|Asg O<|aa<|aT O<|Xp<|La 8 O O ck<|Sa 6 hGF O O O ck<|Asg O<|aa<|am<|Rr<|?_
    exact a7 6 O O O O isAgg54 sizeOf54 sm (λw hw=>⟨rfl,ac hw⟩)
   ·refine fI true O O f9 O ent311 (J1.fh p) (decide_eq_true hg) O O<|bp O (λ_=>a8 _) O O<|Asg O<|aa<|aD O<|aq<|Xp<|La 3 O O ck<|Sa 6 hGF O O O ck<|Asg O<|aa<|am<|Rr<|?_
    exact a7 6 O O O O isAgg54 sizeOf54 sm (λw hw=>⟨rfl,ac hw⟩)
 ·refine Bnb false O O (λ_=>dh _ _ 0#8) (bne_eq_false_iff_eq.2 hf)<|Mv O<|Sk<|Sk<|Sk<|Sk<|Sk<|Sk<|Pk O O O<|Asg O<|aa<|aD O<|Xp<|La 3 O O ck<|iu O underlying54 O O<|?_
  rcases h with ⟨hg,rfl,rfl⟩|⟨hg,rfl,rfl⟩
  ·refine fI false O O f9 O ent311 (J1.fh p) (decide_eq_false hg) O O<|bp O (λ_=>a8 _) O O<|Asg O<|aa<|aT O<|Xp<|La 8 O O ck<|Sa 6 hGF O O O ck<|Asg O<|aa<|am<|Rr<|?_
   exact a7 6 O O O O isAgg54 sizeOf54 sm (λw hw=>⟨rfl,ac hw⟩)
  ·refine fI true O O f9 O ent311 (J1.fh p) (decide_eq_true hg) O O<|bp O (λ_=>a8 _) O O<|Asg O<|aa<|aD O<|aq<|Xp<|La 3 O O ck<|Sa 6 hGF O O O ck<|Asg O<|aa<|am<|Rr<|?_
   exact a7 6 O O O O isAgg54 sizeOf54 sm (λw hw=>⟨rfl,ac hw⟩)
theorem OC(p:J1.GP)(f:BitVec 8):PUR 95 [J1.PtV p,.bool false,U8 f] (.tuple #[J1.PtV J1.gInf,I 103]):=by
 intro w hw;refine Hf func95 O hw<|λhGF=>Xp<|Bx 3 hGF O<|λb3=>Al 6 hGF J1.zv54<|λb6=>Asg O<|aa<|Xp<|Al 8 hGF J1.zv54<|λb8=>aa<|ah<|ai<|Xp<|Mv O<|bp O (λ_=>a8 _) O O<|Asg O<|aa<|aT O<|Xp<|La 8 O O ck<|Sa 6 hGF O O O ck<|Asg O<|aa<|am<|Rr<|?_;exact a7 6 O O O O isAgg54 sizeOf54 sm (λw hw=>⟨rfl,ac hw⟩)
theorem zm:mP prog 80 "Neg" 318:=λ_ _=>kr
theorem mD:mP prog 80 "Equal" 316:=λ_ _=>kr
theorem ga:mP prog 80 "InGroup" 317:=λ_ _=>kr
theorem yW(p t:J2.GP)(f:BitVec 8)(c:Int)(h:(¬f &&& 32#8=0#8/\((p.P=(J2.ku p).P/\t=J2.gInf/\c=103)\/(¬p.P=(J2.ku p).P/\((¬IG2 p.P/\t=J2.gInf/\c=104)\/(IG2 p.P/\p=t/\c=0)))))\/(f &&& 32#8=0#8/\((¬IG2 p.P/\t=J2.gInf/\c=104)\/(IG2 p.P/\p=t/\c=0)))):PUR 192 [J2.PtV p,.bool true,U8 f] (.tuple #[J2.PtV t,I c]):=by
 intro w hw;refine Hf func192 O hw<|λhGF=>Xp<|Bx 3 hGF O<|λb3=>Al 6 hGF J2.zv80<|λb6=>Asg O<|aa<|Xp<|Al 8 hGF J2.zv80<|λb8=>aa<|ah<|ai<|Xp<|Mv O<|bp O (λ_=>a8 _) O O<|Asg O<|aa<|aD O<|Xd []<|Mv O<|Bnr (v:=U8 (f &&& 32#8)) O O (λ_=>cC _ _ 32#8)<|?_;rcases h with ⟨hf,h⟩|⟨hf,h⟩
 ·refine Bnb true O O (λ_=>dh _ _ 0#8) (bne_iff_ne.2 hf)<|Mv O<|La 3 O O cn<|iu O underlying80 O O<|La 3 O O cn<|iu O underlying80 O O<|uH O O zm O ent318 (J2.u9 p) O O<|?_
  rcases h with ⟨he,rfl,rfl⟩|⟨he,h⟩
  ·refine fI true O O mD O ent316 (J2.m3 p (J2.ku p)) (decide_eq_true he) O O<|Pk O O O<|Asg O<|aa<|aT O<|Xp<|La 8 O O cn<|Sa 6 hGF O O O cn<|Asg O<|aa<|am<|Rr<|?_
   exact a7 6 O O O O isAgg80 sizeOf80 sm (λw hw=>⟨rfl,ac hw⟩)
  ·refine fI false O O mD O ent316 (J2.m3 p (J2.ku p)) (decide_eq_false he) O O<|Pk O O O<|Asg O<|aa<|aD O<|Xp<|La 3 O O cn<|iu O underlying80 O O<|?_
   rcases h with ⟨hg,rfl,rfl⟩|⟨hg,rfl,rfl⟩
   ·refine fI false O O ga O ent317 (J2.fh p) (decide_eq_false hg) O O<|bp O (λ_=>a8 _) O O<|Asg O<|aa<|aT O<|Xp<|La 8 O O cn<|Sa 6 hGF O O O cn<|Asg O<|aa<|am<|Rr<|?_
    exact a7 6 O O O O isAgg80 sizeOf80 sm (λw hw=>⟨rfl,ac hw⟩)
   ·refine fI true O O ga O ent317 (J2.fh p) (decide_eq_true hg) O O<|bp O (λ_=>a8 _) O O<|Asg O<|aa<|aD O<|aq<|Xp<|La 3 O O cn<|Sa 6 hGF O O O cn<|Asg O<|aa<|am<|Rr<|?_
    exact a7 6 O O O O isAgg80 sizeOf80 sm (λw hw=>⟨rfl,ac hw⟩)
 ·refine Bnb false O O (λ_=>dh _ _ 0#8) (bne_eq_false_iff_eq.2 hf)<|Mv O<|Sk<|Sk<|Sk<|Sk<|Sk<|Sk<|Pk O O O<|Asg O<|aa<|aD O<|Xp<|La 3 O O cn<|iu O underlying80 O O<|?_
  rcases h with ⟨hg,rfl,rfl⟩|⟨hg,rfl,rfl⟩
  ·refine fI false O O ga O ent317 (J2.fh p) (decide_eq_false hg) O O<|bp O (λ_=>a8 _) O O<|Asg O<|aa<|aT O<|Xp<|La 8 O O cn<|Sa 6 hGF O O O cn<|Asg O<|aa<|am<|Rr<|?_
   exact a7 6 O O O O isAgg80 sizeOf80 sm (λw hw=>⟨rfl,ac hw⟩)
  ·refine fI true O O ga O ent317 (J2.fh p) (decide_eq_true hg) O O<|bp O (λ_=>a8 _) O O<|Asg O<|aa<|aD O<|aq<|Xp<|La 3 O O cn<|Sa 6 hGF O O O cn<|Asg O<|aa<|am<|Rr<|?_
   exact a7 6 O O O O isAgg80 sizeOf80 sm (λw hw=>⟨rfl,ac hw⟩)
theorem Te(p:J2.GP)(f:BitVec 8):PUR 192 [J2.PtV p,.bool false,U8 f] (.tuple #[J2.PtV J2.gInf,I 103]):=by
 intro w hw;refine Hf func192 O hw<|λhGF=>Xp<|Bx 3 hGF O<|λb3=>Al 6 hGF J2.zv80<|λb6=>Asg O<|aa<|Xp<|Al 8 hGF J2.zv80<|λb8=>aa<|ah<|ai<|Xp<|Mv O<|bp O (λ_=>a8 _) O O<|Asg O<|aa<|aT O<|Xp<|La 8 O O cn<|Sa 6 hGF O O O cn<|Asg O<|aa<|am<|Rr<|?_;exact a7 6 O O O O isAgg80 sizeOf80 sm (λw hw=>⟨rfl,ac hw⟩)
theorem I0:cH 0=List.replicate 48 0#8:=by decide+kernel
theorem Cd(bs:L8):OR0 bs 160#8=OR0 (OR0 bs 128#8) 32#8:=by
 cases bs with
 |nil=>rfl
 |cons a r=>show (a|||160#8)::r=((a|||128#8)|||32#8)::r;rw[BitVec.or_assoc];rfl
theorem zv32(w:World):(zeroValue 32).run prog w=.ok (.agg ((List.replicate 96 (0#8)).map U8).toArray) w:=(zeroValue32 w).trans rr
theorem yM(p:J1.GP)(X Y:Zp)(ok:Bool)(v:BitVec 8)(hx:PUR 70 [J1.PtV p] (.tuple #[EV X,EV Y,.bool ok]))(hv:PUR 72 [.bool ok,.bool (decide (hf<Y.val))] (U8 v)):PUR 31 [J1.PtV p] (.agg ((OR0 (cH X) v).map U8).toArray):=by
 intro w hw;refine Hf func31 O hw<|λhGF=>Xp<|Bx 1 hGF O<|λb1=>Al 2 hGF zv29<|λb2=>aa<|Xp<|La 1 O O ck<|Ca O (hx)<|Mv O<|Ext O O<|Ext O O<|Ext O O<|Al 3 hGF zv52<|λb3=>Al 4 hGF zv52<|λb4=>Sa 3 hGF O O O bN<|Sa 4 hGF O O O bN<|Asg O<|aa<|Xp<|La 3 O O bN<|Ca O (kJ _)<|Al 6 hGF zv29<|λb6=>aA 6 hGF O O O sizeOf29 sm sm (bZ _) O<|aa<|Xd []<|pt 0 O O underlying29 sizeOf5 dc dc O O<|Lm 6 U8 0 O O isAgg5 sm<|Mv O<|La 4 O O bN<|Ca O (kF _)<|Ca O (hv)<|Bnr (v:=U8 ((cH X).getD 0 0|||v)) O O (λ_=>gC _ _ v)<|pt 0 O O underlying29 sizeOf5 dc dc O O<|aY 6 U8 hGF O O O sizeOf5 O sm O<|aa<|Xp<|La 6 O O wd<|aA 2 hGF O O O sizeOf29 sm sm (bZ _) O<|aa<|am<|?_;refine Rr ?_;exact av 2 O O O isAgg29 sizeOf29 sm (λw hw=>⟨rfl,ac hw⟩)
theorem yi(p:J2.GP)(X Y:W2)(ok:Bool)(v:BitVec 8)(hx:PUR 80 [J2.PtV p] (.tuple #[EV2 X,EV2 Y,.bool ok]))(hv:PUR 72 [.bool ok,.bool (LG2 Y)] (U8 v)):PUR 35 [J2.PtV p] (.agg ((OR0 (cH X.2++cH X.1) v).map U8).toArray):=by
 intro w hw;refine Hf func35 O hw<|λhGF=>Xp<|Bx 1 hGF O<|λb1=>Al 2 hGF zv32<|λb2=>aa<|Xp<|La 1 O O cn<|Ca O (hx)<|Mv O<|Ext O O<|Ext O O<|Ext O O<|Al 3 hGF zv78<|λb3=>Al 4 hGF zv78<|λb4=>Sa 3 hGF O O O aX<|Sa 4 hGF O O O aX<|Asg O<|aa<|fH (E:=EE [2999999]) [0,1,2,3,4,5] [⟨6,6,29,(List.replicate 48 (0#8)).map U8⟩,⟨7,7,29,(List.replicate 48 (0#8)).map U8⟩] [8,9] cT O kr kr kr kr kr kr dc (by intro x hx;simp only[List.mem_cons,List.not_mem_nil,or_false]at hx;rcases hx with rfl|rfl<;>exact bE O zv29 O)<|Fa 6 O underlying78 O sizeOf52<|ay 3 _ O O isAgg52 sizeOf52 sm (jf sm) O O<|Ca O (kJ _)<|Fa 0 O underlying78 O sizeOf52<|ay 3 _ O O isAgg52 sizeOf52 sm el O O<|Ca O (kJ _)<|aa<|?_
 refine ⟨_,_,rfl,hGF,by intro x hx;simp only[List.mem_cons,List.not_mem_nil,or_false]at hx;rcases hx with rfl|rfl<;>rfl,by intro x hx;simp only[List.mem_cons,List.not_mem_nil,or_false]at hx;rcases hx with rfl|rfl<;>rfl,λadr=> ?_⟩
 refine aA 6 hGF O O O sizeOf29 sm sm (bZ _) O<|aA 7 hGF O O O sizeOf29 sm sm (bZ _) O<|aa<|Xp<|Al 8 hGF zv32<|λb8=>aa<|Xd []<|sf (l:=0) (h':=48) (m:=48) O underlying32 sizeOf5 O O O dc dc O O<|bQ (l:=0) (h':=48) O underlying29 sizeOf5 O O dc dc O O<|gL 8 (o:=0) (cs:=cH X.2) hGF O O O underlying22 sz5 sm (λw' h=>BytesAt.range (aJ (n:=6) O w' h)) sm O O<|?_;rw[ED];refine aa<|Xd []<|sf (l:=48) (h':=96) (m:=96) O underlying32 sizeOf5 O O O dc dc O O<|bQ (l:=0) (h':=48) O underlying29 sizeOf5 O O dc dc O O<|gL 8 (o:=48) (cs:=cH X.1) hGF O O O underlying22 sz5 sm (λw' h=>BytesAt.range (aJ (n:=7) O w' h)) sm O O<|?_;rw[DM];refine aa<|Xd []<|pt 0 O O underlying32 sizeOf5 dc dc O O<|Lm 8 U8 0 O O isAgg5 sm<|Mv O<|La 4 O O aX<|Ca O (zP _)<|Ca O (hv)<|Bnr (v:=U8 ((cH X.2++cH X.1).getD 0 0|||v)) O O (λ_=>gC _ _ v)<|pt 0 O O underlying32 sizeOf5 dc dc O O<|aY 8 U8 hGF O O O sizeOf5 O sm O<|aa<|Xp<|La 8 O O t32t<|aA 2 hGF O O O sizeOf32 sm sm (bZ _) O<|aa<|am<|Rr<|?_;exact av 2 O O O isAgg32 sizeOf32 sm (λw hw=>⟨rfl,ac hw⟩)
theorem Wz:OR0 (cH 0) 192#8=EN1 none:=by rw[I0];rfl
theorem WV:OR0 (cH 0++cH 0) 192#8=EN2 none:=by rw[I0];rfl
theorem Th(p:J1.GP):PUR 31 [J1.PtV p] (.agg ((EN1 p.P).map U8).toArray):=by
 by_cases h:p.P=none
 ·have k:=yM p 0 0 false 192#8 (J1.EJ p h) (NK _)
  rw[Wz]at k;rw[h];exact k
 ·obtain ⟨v,hv⟩: ∃v,p.P=some v:=by
   cases e:p.P with
   |none=>exact absurd e h
   |some v=>exact ⟨v,rfl⟩
  have ex:J1.PX p.P=v.1:=by rw[hv];rfl
  have ey:J1.PY p.P=v.2:=by rw[hv];rfl
  have e1:EN1 p.P=ENF (cH v.1) (LG2 (v.2,0)):=by rw[hv];rfl
  have lg:decide (hf<v.2.val)=LG2 (v.2,0):=Fi (x:=(v.2,0)) O
  cases hl:LG2 (v.2,0)with
  |true=>
   have k:=yM p (J1.PX p.P) (J1.PY p.P) true 160#8 (J1.vB p h) (by rw[ey,lg,hl];exact NU)
   rw[ex,Cd]at k;rw[e1,hl];exact k
  |false=>
   have k:=yM p (J1.PX p.P) (J1.PY p.P) true 128#8 (J1.vB p h) (by rw[ey,lg,hl];exact NI)
   rw[ex]at k;rw[e1,hl];exact k
theorem Q7(p:J2.GP):PUR 35 [J2.PtV p] (.agg ((EN2 p.P).map U8).toArray):=by
 by_cases h:p.P=none
 ·have k:=yi p (0,0) (0,0) false 192#8 (J2.EJ p h) (NK _)
  rw[show OR0 (cH ((0:Zp),(0:Zp)).2++cH ((0:Zp),(0:Zp)).1) 192#8=EN2 none from WV]at k;rw[h];exact k
 ·obtain ⟨v,hv⟩: ∃v,p.P=some v:=by
   cases e:p.P with
   |none=>exact absurd e h
   |some v=>exact ⟨v,rfl⟩
  have ex:J2.PX p.P=v.1:=by rw[hv];rfl
  have ey:J2.PY p.P=v.2:=by rw[hv];rfl
  have e1:EN2 p.P=ENF (cH v.1.2++cH v.1.1) (LG2 v.2):=by rw[hv];rfl
  cases hl:LG2 v.2 with
  |true=>
   have k:=yi p (J2.PX p.P) (J2.PY p.P) true 160#8 (J2.vB p h) (by rw[ey,hl];exact NU)
   rw[ex,Cd]at k;rw[e1,hl];exact k
  |false=>
   have k:=yi p (J2.PX p.P) (J2.PY p.P) true 128#8 (J2.vB p h) (by rw[ey,hl];exact NI)
   rw[ex]at k;rw[e1,hl];exact k
end
section
open Go.RowKit
attribute [local simp] a6 bj aH aB aP aZ aQ aI aM be bz a5 bv J1.bB J2.bB ce fk
theorem nW{bs:L8}{c:Int}{P:Pt Zp}(h:D1 bs c P):E1.onP P:=by
 rcases h with ⟨_,_,rfl⟩|⟨_,⟨_,_,rfl⟩|⟨_,⟨_,_,rfl⟩|⟨_,⟨_,_,rfl⟩|⟨_,⟨_,_,rfl⟩|⟨q,h⟩⟩⟩⟩⟩
 ·exact True.intro
 ·exact True.intro
 ·exact True.intro
 ·exact True.intro
 ·exact True.intro
 ·rcases h with ⟨_,_,rfl⟩|⟨_,⟨_,_,rfl⟩|⟨_,_,rfl⟩⟩
  ·exact True.intro
  ·exact True.intro
  ·exact J1.NN q _
theorem n4{bs:L8}{c:Int}{P:Pt W2}(h:D2 bs c P):E2w.onP P:=by
 rcases h with ⟨_,_,rfl⟩|⟨_,⟨_,_,rfl⟩|⟨_,⟨_,_,rfl⟩|⟨_,⟨_,_,rfl⟩|⟨_,⟨_,_,rfl⟩|⟨r,hr,_,h⟩⟩⟩⟩⟩
 ·exact True.intro
 ·exact True.intro
 ·exact True.intro
 ·exact True.intro
 ·exact True.intro
 ·rcases h with ⟨_,_,rfl⟩|⟨_,⟨_,_,rfl⟩|⟨_,_,rfl⟩⟩
  ·exact True.intro
  ·exact True.intro
  ·exact J2.fY (J2.nP.2 (J2.DO hr _))
def cA1(P:Pt Zp)(on:E1.onP P):J1.GP:=⟨match P with|none=>(0,0,0)|some p=>(p.1,p.2,1),P,on,by
 cases P with
 |none=>rfl
 |some p=>exact E1.jr_at p kd⟩
def cA2(P:Pt W2)(on:E2w.onP P):J2.GP:=⟨match P with|none=>(ze2,ze2,ze2)|some p=>(p.1,p.2,on2),P,on,by
 cases P with
 |none=>rfl
 |some p=>exact kD p⟩
theorem qE(a:Option Addr)(len k:Nat)(xs:L8)(h48:xs.length=48)(hn:len=48)(hl:BN xs 48<PP)(x:Zp)(hx:zp (BN xs 48)=x)(w:World)(hw:Gt w)(hby:BytesAt w a xs):CLS 74 [.slice a len k].toArray w (λr w'=>r=.returned (.tuple #[EV x,.bool true])/\Grow w w'):=by
 have h:=ed a k xs w hw hby;rw[h48,show FV xs=x from (if_pos ⟨h48,hl⟩).trans hx,show FO xs=true from decide_eq_true ⟨h48,hl⟩]at h;subst hn;exact h
theorem rm(a:Option Addr)(len k:Nat)(xs:L8)(h48:xs.length=48)(hn:len=48)(hl: ¬BN xs 48<PP)(w:World)(hw:Gt w)(hby:BytesAt w a xs):CLS 74 [.slice a len k].toArray w (λr w'=>r=.returned (.tuple #[EV 0,.bool false])/\Grow w w'):=by
 have h:=ed a k xs w hw hby;rw[h48,show FV xs=0 from if_neg (λe=>hl e.2),show FO xs=false from decide_eq_false (λe=>hl e.2)]at h;subst hn;exact h
theorem Ec.ne_iff{α:Type}(C:Ec α){x y:α}:(some (x,y):Pt α)=C.ne (some (x,y))↔y=C.R.zero:=by
 constructor
 ·intro h
  have e:y=C.R.neg y:=congrArg Prod.snd (Option.some.inj h);have k:=C.R.add_neg y;rw[<-e]at k;exact C.dbl0 k
 ·intro h
  show some (x,y)=some (x,C.R.neg y);rw[h,C.R.neg_zero]
theorem J1.ptv_eq{p r:J1.GP}(h:p.J=r.J):J1.PtV p=J1.PtV r:=by rw[J1.PtV,J1.PtV,J1.GL,J1.GL,h]
theorem J2.ptv_eq{p r:J2.GP}(h:p.J=r.J):J2.PtV p=J2.PtV r:=by rw[J2.PtV,J2.PtV,J2.GL,J2.GL,h]
theorem l_t{f:BitVec 8}(h:(f &&& 32#8 !=0#8)=true): ¬f &&& 32#8=0#8:=bne_iff_ne.1 h
theorem l_f{f:BitVec 8}(h:(f &&& 32#8 !=0#8)=false):f &&& 32#8=0#8:=bne_eq_false_iff_eq.1 h
theorem U2: ∀b:BitVec 8,(b &&& 224#8) &&& 128#8=0#8->¬b &&& 224#8=128#8/\¬b &&& 224#8=160#8/\¬b &&& 224#8=192#8:=by decide+kernel
theorem Xo: ∀b:BitVec 8,¬(b &&& 224#8) &&& 128#8=0#8->¬(b &&& 224#8) &&& 64#8=0#8->¬b &&& 224#8=128#8/\¬b &&& 224#8=160#8/\(b &&& 224#8=192#8↔(b &&& 224#8) &&& 32#8=0#8):=by decide+kernel
theorem Ut: ∀b:BitVec 8,¬(b &&& 224#8) &&& 128#8=0#8->(b &&& 224#8) &&& 64#8=0#8->b &&& 224#8=128#8\/b &&& 224#8=160#8:=by decide+kernel
theorem f160{f:BitVec 8}(h:f=160#8): ¬f=128#8:=by rw[h];decide
theorem rd3{bs:L8}{N:Nat}{α:Type}{c:Int}{P:Option α}{R:Prop}(h:FLG bs N c P R):(¬c=0/\P=none/\RdV bs N 0#8 c)\/(c=0/\P=none/\RdV bs N (FG bs) 0/\¬FG bs &&& 64#8=0#8)\/(bs.length=N/\FG bs &&& 64#8=0#8/\RdV bs N (FG bs) 0/\R):=by
 rcases h with ⟨h48,rfl,rfl⟩|⟨h48,⟨f,rfl,rfl⟩|⟨f,⟨s,rfl,rfl⟩|⟨s,r⟩⟩⟩
 ·exact .inl ⟨dc,rfl,.inl ⟨h48,rfl,rfl⟩⟩
 ·obtain ⟨h1,h2,h3⟩:=U2 (bs.getD 0 0) f
  exact .inl ⟨dc,rfl,.inr ⟨h48,.inr ⟨h1,.inr ⟨h2,.inr ⟨h3,rfl,rfl⟩⟩⟩⟩⟩
 ·obtain ⟨h1,h2,h3⟩:=Xo (bs.getD 0 0) f s
  by_cases k:FG bs &&& 32#8=0#8
  ·have h4:FG bs=192#8:=h3.2 k
   cases q:NQ (MK bs)with
   |true=>exact .inr (.inl ⟨if_pos ⟨λj hj=>of_decide_eq_true q j (by rw[ce];omega),k⟩,rfl,.inr ⟨h48,.inr ⟨h1,.inr ⟨h2,.inl ⟨h4,.inl ⟨q,rfl,rfl⟩⟩⟩⟩⟩,s⟩)
   |false=>
    have e:INF bs N=101:=if_neg (λz=>of_decide_eq_false q (λj hj=>z.1 j (by rw[ce]at hj;omega)))
    rw[e];exact .inl ⟨dc,rfl,.inr ⟨h48,.inr ⟨h1,.inr ⟨h2,.inl ⟨h4,.inr ⟨q,rfl,rfl⟩⟩⟩⟩⟩⟩
  ·have e:INF bs N=101:=if_neg (λz=>k z.2)
   rw[e];exact .inl ⟨dc,rfl,.inr ⟨h48,.inr ⟨h1,.inr ⟨h2,.inr ⟨λh=>k (h3.1 h),rfl,rfl⟩⟩⟩⟩⟩
 ·refine .inr (.inr ⟨h48,s, ?_,r⟩)
  rcases Ut (bs.getD 0 0) f s with h|h
  ·exact .inr ⟨h48,.inl ⟨h,rfl,rfl⟩⟩
  ·exact .inr ⟨h48,.inr ⟨f160 h,.inl ⟨h,rfl,rfl⟩⟩⟩
theorem r4w{A B C D:Prop}(h:(¬(A/\B)/\C)\/((A/\B)/\D)):(¬B/\A/\C)\/(B/\¬A/\C)\/(¬B/\¬A/\C)\/(B/\A/\D):=by
 rcases h with ⟨h,c⟩|⟨⟨a,b⟩,d⟩
 ·by_cases a:A
  ·exact .inl ⟨λb=>h ⟨a,b⟩,a,c⟩
  ·by_cases b:B
   ·exact .inr (.inl ⟨b,a,c⟩)
   ·exact .inr (.inr (.inl ⟨b,a,c⟩))
 ·exact .inr (.inr (.inr ⟨b,a,d⟩))
theorem I5(p:J1.GP)(x y:Zp)(hP:p.P=some (x,y))(hJ:p.J=(x,y,1))(f:BitVec 8)(l:Bool)(hl:(f &&& 32#8 !=0#8)=l)(c:Int)(P:Pt Zp)(h:NY 0 (λQ=>IG1 Q) l x y c P)(on:E1.onP P):PUR 95 [J1.PtV p,.bool true,U8 f] (.tuple #[J1.PtV (cA1 P on),I c]):=by
 have hne:p.P=(J1.ku p).P↔y=0:=by
  show p.P=E1.ne p.P↔y=0;rw[hP];exact Ec.ne_iff E1
 have lf:(¬f &&& 32#8=0#8/\l=true)\/(f &&& 32#8=0#8/\l=false):=by
  cases l with
  |true=>exact .inl ⟨l_t hl,rfl⟩
  |false=>exact .inr ⟨l_f hl,rfl⟩
 have gp: ∀{t:J1.GP} {k:Int},((¬IG1 (some (x,y))/\t=J1.gInf/\k=104)\/(IG1 (some (x,y))/\p=t/\k=0))->¬(l=true/\y=0)->PUR 95 [J1.PtV p,.bool true,U8 f] (.tuple #[J1.PtV t,I k]):=λg hn=>by
  rw[<-hP]at g;rcases lf with ⟨h1,h2⟩|⟨h1,_⟩
  ·exact yx p _ f _ (.inl ⟨h1,.inr ⟨λk=>hn ⟨h2,hne.1 k⟩,g⟩⟩)
  ·exact yx p _ f _ (.inr ⟨h1,g⟩)
 rcases h with ⟨⟨rfl,hy⟩,rfl,rfl⟩|⟨hn,⟨g,rfl,rfl⟩|⟨g,rfl,rfl⟩⟩
 ·exact yx p _ f _ (.inl ⟨l_t hl,.inl ⟨hne.2 hy,rfl,rfl⟩⟩)
 ·exact gp (.inl ⟨g,rfl,rfl⟩) hn
 ·have e:J1.PtV (cA1 (some (x,y)) on)=J1.PtV p:=J1.ptv_eq hJ.symm
  rw[e];exact gp (.inr ⟨g,rfl,rfl⟩) hn
theorem PZ(e:Option Addr)(cap:Nat)(bs:L8)(c:Int)(P:Pt Zp)(h:D1 bs c P)(on:E1.onP P)(hc:bs.length<=cap)(w:World)(hw:Gt w)(hby:BytesAt w e bs):CLS 45 [.slice e bs.length cap].toArray w (λr w'=>r=.returned (.tuple #[J1.PtV (cA1 P on),I c])/\Grow w w'):=by
 refine Hf func45 O hw<|λhGF=>ae (E:=EE [93,2000093])<|Al 2 hGF J1.zv54<|λb2=>Asg O<|aa<|ae (E:=EE [93,2000093])<|Mv O<|?_;rcases rd3 h with ⟨h0,rfl,hR⟩|⟨rfl,rfl,hR,h6⟩|⟨h48,h6,hR,h⟩
 ·refine Cc O ent92 (λw' hC hG=>nq e cap 48 bs dc dc hc _ _ hR w' hG (hby.grow (ac hC)))<|Mv O<|Ext O O<|Ext O O<|Asg O<|Asg O<|aa<|ah<|ae (E:=EE [93,2000093])<|Mv O<|Bnb true O O (λ_=>bC _ _ _) (bne_iff_ne.2 h0)<|Mv O<|Sk<|Sk<|Sk<|Pk O O O<|aa<|aT O<|ae (E:=EE [93,2000093])<|Ca O (J1.lH)<|Mv O<|Sa 2 hGF O O O ck<|Asg O<|aa<|am<|Rr<|?_
  exact a7 2 O O O O isAgg54 sizeOf54 sm (λw hw=>⟨rfl,ac hw⟩)
 ·refine Cc O ent92 (λw' hC hG=>nq e cap 48 bs dc dc hc _ _ hR w' hG (hby.grow (ac hC)))<|Mv O<|Ext O O<|Ext O O<|Asg O<|Asg O<|aa<|ah<|ae (E:=EE [93,2000093])<|Mv O<|Bnb false O O (λ_=>bC _ _ _) (rfl)<|Mv O<|Mv O<|Bnr (v:=U8 (FG bs &&& 64#8)) O O (λ_=>cC _ _ 64#8)<|Bnb true O O (λ_=>dh _ _ 0#8) (bne_iff_ne.2 h6)<|Pk O O O<|aa<|aT O<|ae (E:=EE [93,2000093])<|Ca O (J1.lH)<|Mv O<|Sa 2 hGF O O O ck<|Asg O<|aa<|am<|Rr<|?_
  exact a7 2 O O O O isAgg54 sizeOf54 sm (λw hw=>⟨rfl,ac hw⟩)
 ·refine Cc O ent92 (λw' hC hG=>nq e cap 48 bs dc dc hc _ _ hR w' hG (hby.grow (ac hC)))<|Mv O<|Ext O O<|Ext O O<|Asg O<|Asg O<|aa<|ah<|ae (E:=EE [93,2000093])<|Mv O<|Bnb false O O (λ_=>bC _ _ _) (rfl)<|Mv O<|Mv O<|Bnr (v:=U8 (FG bs &&& 64#8)) O O (λ_=>cC _ _ 64#8)<|Bnb false O O (λ_=>dh _ _ 0#8) (bne_eq_false_iff_eq.2 h6)<|Pk O O O<|aa<|aD O<|aq<|ae (E:=EE [93,2000093])<|Mv O<|?_
  refine bI O O ent93 O O (λw' hw'=>(xp e cap bs om om hc w' (hGF.g _ _ _ hw') (hby.grow (ac hw'))).mono λe' w'' h=> ?_);obtain ⟨b7,c7,k7,rfl,hg,hb7,hob,q3,q2⟩:=h;refine ⟨_,_,rfl,az hGF,hw'.news ao hg [(33,b7,c7,5)] ?_ bR,bP ao O, ?_⟩
  ·intro n' b' c' t' hl
   rcases aK hl with ⟨_,e⟩|⟨_,hl⟩
   ·cases e;exact ⟨hb7,hob⟩
   ·cases hl
  clear hw' hg hb7 hob;rcases h with ⟨hp,rfl,rfl⟩|⟨hp,h⟩
  ·refine Cc O ent74 (λw' hC hG=>rm _ _ _ (MK bs) (by rw[ce];exact h48) h48 (Lq h48▸hp) w' hG (cD (aJ (n:=33) O w' hC) (by rw[ce];exact q3)))<|Mv O<|Ext O O<|Ext O O<|Al 6 hGF zv52<|λb6=>Sa 6 hGF O O O bN<|Asg O<|aa<|ah<|ae (E:=EE [93,2000093])<|Mv O<|bp O (λ_=>a8 _) O O<|aa<|aT O<|ae (E:=EE [93,2000093])<|Ca O (J1.lH)<|Sa 2 hGF O O O ck<|Asg O<|aa<|am<|Rr<|?_
   exact a7 2 O O O O isAgg54 sizeOf54 sm (λw hw=>⟨rfl,ac hw⟩)
  ·refine Cc O ent74 (λw' hC hG=>qE _ _ _ (MK bs) (by rw[ce];exact h48) h48 (Lq h48▸hp) (X1 bs) (by rw[<-Lq h48];rfl) w' hG (cD (aJ (n:=33) O w' hC) (by rw[ce];exact q3)))<|Mv O<|Ext O O<|Ext O O<|Al 6 hGF zv52<|λb6=>Sa 6 hGF O O O bN<|Asg O<|aa<|ah<|ae (E:=EE [93,2000093])<|Mv O<|bp O (λ_=>a8 _) O O<|aa<|aD O<|aq<|ae (E:=EE [93,2000093])<|La 6 O O bN<|Mv O<|Bnr (v:=U8 (FG bs &&& 32#8)) O O (λ_=>cC _ _ 32#8)<|Bnr (v:=.bool (LB bs)) O O (λ_=>dh _ _ 0#8)<|?_
   rcases h with ⟨hq,rfl,rfl⟩|⟨hq,h⟩
   ·refine Ca O (J1.y4 (X1 bs) (LB bs) hq)<|Mv O<|Ext O O<|Ext O O<|Al 8 hGF J1.zv54<|λb8=>Sa 8 hGF O O O ck<|Asg O<|aa<|ae (E:=EE [93,2000093])<|La 8 O O ck<|Mv O<|Mv O<|Ca O (OC _ _)<|Ext O O<|Ext O O<|Sa 2 hGF O O O ck<|Asg O<|aa<|am<|Rr<|?_
    exact a7 2 O O O O isAgg54 sizeOf54 sm (λw hw=>⟨rfl,ac hw⟩)
   ·refine Ca O (J1.xx (X1 bs) (LB bs) hq)<|Mv O<|Ext O O<|Ext O O<|Al 8 hGF J1.zv54<|λb8=>Sa 8 hGF O O O ck<|Asg O<|aa<|ae (E:=EE [93,2000093])<|La 8 O O ck<|Mv O<|Mv O<|Ca O (I5 (J1.DX (X1 bs) (LB bs) hq) _ _ O O _ _ O c P h on)<|Ext O O<|Ext O O<|Sa 2 hGF O O O ck<|Asg O<|aa<|am<|Rr<|?_
    exact a7 2 O O O O isAgg54 sizeOf54 sm (λw hw=>⟨rfl,ac hw⟩)
theorem GR(e:Option Addr)(cap len:Nat)(bs:L8)(hn:bs.length=len)(c:Int)(P:Pt Zp)(h:D1 bs c P)(hc:len<=cap)(w:World)(hw:Gt w)(hby:BytesAt w e bs):CLS 45 [.slice e len cap].toArray w (λr w'=>r=.returned (.tuple #[J1.PtV (cA1 P (nW h)),I c])/\Grow w w'):=by
 subst hn;exact PZ e cap bs c P h (nW h) hc w hw hby
theorem JP(p:J2.GP)(x y:W2)(hP:p.P=some (x,y))(hJ:p.J=(x,y,on2))(f:BitVec 8)(l:Bool)(hl:(f &&& 32#8 !=0#8)=l)(c:Int)(P:Pt W2)(h:NY ze2 (λQ=>IG2 Q) l x y c P)(on:E2w.onP P):PUR 192 [J2.PtV p,.bool true,U8 f] (.tuple #[J2.PtV (cA2 P on),I c]):=by
 have hne:p.P=(J2.ku p).P↔y=ze2:=by
  show p.P=E2w.ne p.P↔y=ze2;rw[hP];exact Ec.ne_iff E2w
 have lf:(¬f &&& 32#8=0#8/\l=true)\/(f &&& 32#8=0#8/\l=false):=by
  cases l with
  |true=>exact .inl ⟨l_t hl,rfl⟩
  |false=>exact .inr ⟨l_f hl,rfl⟩
 have gp: ∀{t:J2.GP} {k:Int},((¬IG2 (some (x,y))/\t=J2.gInf/\k=104)\/(IG2 (some (x,y))/\p=t/\k=0))->¬(l=true/\y=ze2)->PUR 192 [J2.PtV p,.bool true,U8 f] (.tuple #[J2.PtV t,I k]):=λg hn=>by
  rw[<-hP]at g;rcases lf with ⟨h1,h2⟩|⟨h1,_⟩
  ·exact yW p _ f _ (.inl ⟨h1,.inr ⟨λk=>hn ⟨h2,hne.1 k⟩,g⟩⟩)
  ·exact yW p _ f _ (.inr ⟨h1,g⟩)
 rcases h with ⟨⟨rfl,hy⟩,rfl,rfl⟩|⟨hn,⟨g,rfl,rfl⟩|⟨g,rfl,rfl⟩⟩
 ·exact yW p _ f _ (.inl ⟨l_t hl,.inl ⟨hne.2 hy,rfl,rfl⟩⟩)
 ·exact gp (.inl ⟨g,rfl,rfl⟩) hn
 ·have e:J2.PtV (cA2 (some (x,y)) on)=J2.PtV p:=J2.ptv_eq hJ.symm
  rw[e];exact gp (.inr ⟨g,rfl,rfl⟩) hn
theorem R4(e:Option Addr)(cap:Nat)(bs:L8)(c:Int)(P:Pt W2)(h:D2 bs c P)(on:E2w.onP P)(hc:bs.length<=cap)(w:World)(hw:Gt w)(hby:BytesAt w e bs):CLS 161 [.slice e bs.length cap].toArray w (λr w'=>r=.returned (.tuple #[J2.PtV (cA2 P on),I c])/\Grow w w'):=by
 refine Hf func161 O hw<|λhGF=>ae (E:=EE [93,2000093])<|Al 2 hGF J2.zv80<|λb2=>Asg O<|aa<|ae (E:=EE [93,2000093])<|Mv O<|?_;rcases rd3 h with ⟨h0,rfl,hR⟩|⟨rfl,rfl,hR,h6⟩|⟨h48,h6,hR,h⟩
 ·refine Cc O ent92 (λw' hC hG=>nq e cap 96 bs dc dc hc _ _ hR w' hG (hby.grow (ac hC)))<|Mv O<|Ext O O<|Ext O O<|Asg O<|Asg O<|aa<|ah<|ae (E:=EE [93,2000093])<|Mv O<|Bnb true O O (λ_=>bC _ _ _) (bne_iff_ne.2 h0)<|Mv O<|Sk<|Sk<|Sk<|Pk O O O<|aa<|aT O<|ae (E:=EE [93,2000093])<|Ca O (J2.lH)<|Mv O<|Sa 2 hGF O O O cn<|Asg O<|aa<|am<|Rr<|?_
  exact a7 2 O O O O isAgg80 sizeOf80 sm (λw hw=>⟨rfl,ac hw⟩)
 ·refine Cc O ent92 (λw' hC hG=>nq e cap 96 bs dc dc hc _ _ hR w' hG (hby.grow (ac hC)))<|Mv O<|Ext O O<|Ext O O<|Asg O<|Asg O<|aa<|ah<|ae (E:=EE [93,2000093])<|Mv O<|Bnb false O O (λ_=>bC _ _ _) (rfl)<|Mv O<|Mv O<|Bnr (v:=U8 (FG bs &&& 64#8)) O O (λ_=>cC _ _ 64#8)<|Bnb true O O (λ_=>dh _ _ 0#8) (bne_iff_ne.2 h6)<|Pk O O O<|aa<|aT O<|ae (E:=EE [93,2000093])<|Ca O (J2.lH)<|Mv O<|Sa 2 hGF O O O cn<|Asg O<|aa<|am<|Rr<|?_
  exact a7 2 O O O O isAgg80 sizeOf80 sm (λw hw=>⟨rfl,ac hw⟩)
 ·refine Cc O ent92 (λw' hC hG=>nq e cap 96 bs dc dc hc _ _ hR w' hG (hby.grow (ac hC)))<|Mv O<|Ext O O<|Ext O O<|Asg O<|Asg O<|aa<|ah<|ae (E:=EE [93,2000093])<|Mv O<|Bnb false O O (λ_=>bC _ _ _) (rfl)<|Mv O<|Mv O<|Bnr (v:=U8 (FG bs &&& 64#8)) O O (λ_=>cC _ _ 64#8)<|Bnb false O O (λ_=>dh _ _ 0#8) (bne_eq_false_iff_eq.2 h6)<|Pk O O O<|aa<|aD O<|aq<|ae (E:=EE [93,2000093])<|Mv O<|?_
  refine bI O O ent93 O O (λw' hw'=>(xp e cap bs om om hc w' (hGF.g _ _ _ hw') (hby.grow (ac hw'))).mono λe' w'' h=> ?_);obtain ⟨b7,c7,k7,rfl,hg,hb7,hob,q3,q2⟩:=h;refine ⟨_,_,rfl,az hGF,hw'.news ao hg [(33,b7,c7,5)] ?_ bR,bP ao O, ?_⟩
  ·intro n' b' c' t' hl
   rcases aK hl with ⟨_,e⟩|⟨_,hl⟩
   ·cases e;exact ⟨hb7,hob⟩
   ·cases hl
  clear hw' hg hb7 hob;refine Asg O<|aa<|ae (E:=EE [93,2000093])<|Mv O<|gh (l:=0) (h':=48) (m:=48) O underlying22 sizeOf5 O O O ⟨dc,Nat.le_refl _,om⟩ O O<|?_;rcases r4w h with ⟨hp2,hp,rfl,rfl⟩|⟨hp2,hp,rfl,rfl⟩|⟨hp2,hp,rfl,rfl⟩|⟨hp2,hp,h⟩
  ·refine Cc O ent74 (λw' hC hG=>rm _ _ _ (LO bs 0) (kU om) O hp2 w' hG (BytesAt.cut3 (cD (aJ (n:=33) O w' hC) (by rw[ce];exact q3)) 0 48 48 dc))<|Mv O<|Ext O O<|Ext O O<|Al 7 hGF zv52<|λb7=>Sa 7 hGF O O O bN<|Asg O<|aa<|ae (E:=EE [93,2000093])<|Mv O<|gh (l:=48) (h':=96) (m:=96) O underlying22 sizeOf5 O O O ⟨dc,Nat.le_refl _,om⟩ O O<|Cc O ent74 (λw' hC hG=>qE _ _ _ (LO bs 48) (kU om) O hp (X2 bs).1 O w' hG (BytesAt.cut3 (cD (aJ (n:=33) O w' hC) (by rw[ce];exact q3)) 48 48 96 dc))<|Mv O<|Ext O O<|Ext O O<|Al 9 hGF zv52<|λb9=>Sa 9 hGF O O O bN<|Asg O<|aa<|ah<|ae (E:=EE [93,2000093])<|Mv O<|bp O (λ_=>a8 _) O O<|Mv O<|Sk<|Sk<|Pk O O O<|aa<|aT O<|ae (E:=EE [93,2000093])<|Ca O (J2.lH)<|Sa 2 hGF O O O cn<|Asg O<|aa<|am<|Rr<|?_
   exact a7 2 O O O O isAgg80 sizeOf80 sm (λw hw=>⟨rfl,ac hw⟩)
  ·refine Cc O ent74 (λw' hC hG=>qE _ _ _ (LO bs 0) (kU om) O hp2 (X2 bs).2 O w' hG (BytesAt.cut3 (cD (aJ (n:=33) O w' hC) (by rw[ce];exact q3)) 0 48 48 dc))<|Mv O<|Ext O O<|Ext O O<|Al 7 hGF zv52<|λb7=>Sa 7 hGF O O O bN<|Asg O<|aa<|ae (E:=EE [93,2000093])<|Mv O<|gh (l:=48) (h':=96) (m:=96) O underlying22 sizeOf5 O O O ⟨dc,Nat.le_refl _,om⟩ O O<|Cc O ent74 (λw' hC hG=>rm _ _ _ (LO bs 48) (kU om) O hp w' hG (BytesAt.cut3 (cD (aJ (n:=33) O w' hC) (by rw[ce];exact q3)) 48 48 96 dc))<|Mv O<|Ext O O<|Ext O O<|Al 9 hGF zv52<|λb9=>Sa 9 hGF O O O bN<|Asg O<|aa<|ah<|ae (E:=EE [93,2000093])<|Mv O<|bp O (λ_=>a8 _) O O<|Mv O<|Mv O<|bp O (λ_=>a8 _) O O<|Pk O O O<|aa<|aT O<|ae (E:=EE [93,2000093])<|Ca O (J2.lH)<|Sa 2 hGF O O O cn<|Asg O<|aa<|am<|Rr<|?_
   exact a7 2 O O O O isAgg80 sizeOf80 sm (λw hw=>⟨rfl,ac hw⟩)
  ·refine Cc O ent74 (λw' hC hG=>rm _ _ _ (LO bs 0) (kU om) O hp2 w' hG (BytesAt.cut3 (cD (aJ (n:=33) O w' hC) (by rw[ce];exact q3)) 0 48 48 dc))<|Mv O<|Ext O O<|Ext O O<|Al 7 hGF zv52<|λb7=>Sa 7 hGF O O O bN<|Asg O<|aa<|ae (E:=EE [93,2000093])<|Mv O<|gh (l:=48) (h':=96) (m:=96) O underlying22 sizeOf5 O O O ⟨dc,Nat.le_refl _,om⟩ O O<|Cc O ent74 (λw' hC hG=>rm _ _ _ (LO bs 48) (kU om) O hp w' hG (BytesAt.cut3 (cD (aJ (n:=33) O w' hC) (by rw[ce];exact q3)) 48 48 96 dc))<|Mv O<|Ext O O<|Ext O O<|Al 9 hGF zv52<|λb9=>Sa 9 hGF O O O bN<|Asg O<|aa<|ah<|ae (E:=EE [93,2000093])<|Mv O<|bp O (λ_=>a8 _) O O<|Mv O<|Sk<|Sk<|Pk O O O<|aa<|aT O<|ae (E:=EE [93,2000093])<|Ca O (J2.lH)<|Sa 2 hGF O O O cn<|Asg O<|aa<|am<|Rr<|?_
   exact a7 2 O O O O isAgg80 sizeOf80 sm (λw hw=>⟨rfl,ac hw⟩)
  ·refine Cc O ent74 (λw' hC hG=>qE _ _ _ (LO bs 0) (kU om) O hp2 (X2 bs).2 O w' hG (BytesAt.cut3 (cD (aJ (n:=33) O w' hC) (by rw[ce];exact q3)) 0 48 48 dc))<|Mv O<|Ext O O<|Ext O O<|Al 7 hGF zv52<|λb7=>Sa 7 hGF O O O bN<|Asg O<|aa<|ae (E:=EE [93,2000093])<|Mv O<|gh (l:=48) (h':=96) (m:=96) O underlying22 sizeOf5 O O O ⟨dc,Nat.le_refl _,om⟩ O O<|Cc O ent74 (λw' hC hG=>qE _ _ _ (LO bs 48) (kU om) O hp (X2 bs).1 O w' hG (BytesAt.cut3 (cD (aJ (n:=33) O w' hC) (by rw[ce];exact q3)) 48 48 96 dc))<|Mv O<|Ext O O<|Ext O O<|Al 9 hGF zv52<|λb9=>Sa 9 hGF O O O bN<|Asg O<|aa<|ah<|ae (E:=EE [93,2000093])<|Mv O<|bp O (λ_=>a8 _) O O<|Mv O<|Mv O<|bp O (λ_=>a8 _) O O<|Pk O O O<|aa<|aD O<|aq<|ae (E:=EE [93,2000093])<|La 9 O O bN<|La 7 O O bN<|co fS O O sm sm O O<|Mv O<|Bnr (v:=U8 (FG bs &&& 32#8)) O O (λ_=>cC _ _ 32#8)<|Bnr (v:=.bool (LB bs)) O O (λ_=>dh _ _ 0#8)<|?_
   rcases h with ⟨hq,rfl,rfl⟩|⟨r,hr,hlr,h⟩
   ·refine Ca O (J2.y4 (X2 bs) (LB bs) hq)<|Mv O<|Ext O O<|Ext O O<|Al 11 hGF J2.zv80<|λb11=>Sa 11 hGF O O O cn<|Asg O<|aa<|ae (E:=EE [93,2000093])<|La 11 O O cn<|Mv O<|Mv O<|Ca O (Te _ _)<|Ext O O<|Ext O O<|Sa 2 hGF O O O cn<|Asg O<|aa<|am<|Rr<|?_
    exact a7 2 O O O O isAgg80 sizeOf80 sm (λw hw=>⟨rfl,ac hw⟩)
   ·refine Ca O (J2.xx (X2 bs) r hr hlr (LB bs))<|Mv O<|Ext O O<|Ext O O<|Al 11 hGF J2.zv80<|λb11=>Sa 11 hGF O O O cn<|Asg O<|aa<|ae (E:=EE [93,2000093])<|La 11 O O cn<|Mv O<|Mv O<|Ca O (JP (J2.gRt (X2 bs) r hr (LB bs)) _ _ O O _ _ O c P h on)<|Ext O O<|Ext O O<|Sa 2 hGF O O O cn<|Asg O<|aa<|am<|Rr<|?_
    exact a7 2 O O O O isAgg80 sizeOf80 sm (λw hw=>⟨rfl,ac hw⟩)
theorem SX(e:Option Addr)(cap len:Nat)(bs:L8)(hn:bs.length=len)(c:Int)(P:Pt W2)(h:D2 bs c P)(hc:len<=cap)(w:World)(hw:Gt w)(hby:BytesAt w e bs):CLS 161 [.slice e len cap].toArray w (λr w'=>r=.returned (.tuple #[J2.PtV (cA2 P (n4 h)),I c])/\Grow w w'):=by
 subst hn;exact R4 e cap bs c P h (n4 h) hc w hw hby
end
section
open Go.RowKit
attribute [local simp] a6 bj aH aB aP aZ aQ aI aM be bz a5 bv
end
section
open Go.RowKit
namespace Q6
attribute [local simp] a6 bj aH aB aP aZ aQ aI aM be bz a5 bv
def FF(f:Nat->W2)(i:Nat):L6:=fe2 (f i)
theorem gG(f:Nat->W2)(v:W2)(n k o:Nat)(hk:k<n)(ho:o=12*k)(hv:f k=v): ∀j u,((fe v.1++fe v.2).map U64)[j]? =some u->((FM (FF f) n).map U64)[o+j]? =some u:=by
 subst hv;exact BY (FF f) n k hk (a5 _) o ho
theorem tZ(f g:Nat->W2)(v:W2)(n k o:Nat)(hk:k<n)(ho:o=12*k)(hg: ∀i,i<n->g i=if i=k then v else f i):lay o ((fe v.1++fe v.2).map U64) ((FM (FF f) n).map U64)=(FM (FF g) n).map U64:=by
 have h:=tk (FF f) n k (fe2 v) hk (a5 _) o ho;refine h.trans (congrArg (List.map U64) (mx λi hi=> ?_));show (if i=k then fe2 v else fe2 (f i))=fe2 (g i)
 rw[hg i hi];split<;>rfl
theorem w8{f g:Nat->W2}{n:Nat}(h: ∀i,i<n->f i=g i):FM (FF f) n=FM (FF g) n:=mx λi hi=>congrArg fe2 (h i hi)
theorem xD(A B:Nat->W2)(i j:Nat):(if j<i+1 then A j else B j)=if j=i then A i else (if j<i then A j else B j):=by
 by_cases h:j=i
 ·subst h;rw[if_pos (Nat.lt_succ_self _),if_pos O]
 ·rw[if_neg h]
  by_cases h':j<i
  ·rw[if_pos h',if_pos (Nat.lt_succ_of_lt h')]
  ·rw[if_neg h',if_neg (λe=>h' (Nat.lt_of_le_of_ne (Nat.le_of_lt_succ e) h))]
theorem wD(n:Nat):FM (FF λ_=>ze2) n=FM (λ_=>List.replicate 12 0#64) n:=mx λi _=>by
 show fe2 ze2=_;rw[show fe2 ze2=fe 0++fe 0 from O,i7];rfl
end Q6
end
section
open Go.RowKit
namespace Q6
attribute [local simp] a6 bj aH aB aP aZ aQ aI aM be bz a5 bv
end Q6
end
section
open Go.RowKit
namespace Q6
attribute [local simp] a6 bj aH aB aP aZ aQ aI aM be bz a5 bv
end Q6
end
section
open Go.RowKit
theorem ent224:ak prog 224:=λ_ _=>kr
theorem ent259:ak prog 259:=λ_ _=>kr
theorem ent226:ak prog 226:=λ_ _=>kr
theorem ent274:ak prog 274:=λ_ _=>kr
theorem ent227:ak prog 227:=λ_ _=>kr
theorem ent231:ak prog 231:=λ_ _=>kr
theorem ent203:ak prog 203:=λ_ _=>kr
theorem ent258:ak prog 258:=λ_ _=>kr
theorem ent225:ak prog 225:=λ_ _=>kr
theorem ent232:ak prog 232:=λ_ _=>kr
theorem ent202:ak prog 202:=λ_ _=>kr
theorem ent234:ak prog 234:=λ_ _=>kr
namespace Q6
attribute [local simp] a6 bj aH aB aP aZ aQ aI aM be bz a5 bv
abbrev EV6(x:W6):Value:=aL ((fe (x.1).1++fe (x.1).2)++((fe (x.2.1).1++fe (x.2.1).2)++(fe (x.2.2).1++fe (x.2.2).2)))
theorem zv209(w:World):(zeroValue 209).run prog w=.ok (aL ((fe 0++fe 0)++((fe 0++fe 0)++(fe 0++fe 0)))) w:=by rw[i7];exact (zeroValue209 w).trans rr
theorem kH:Three prog 209 ⟨ "C0",78,0,false, "", "",0⟩ ⟨ "C1",78,12,false, "", "",96⟩ ⟨ "C2",78,24,false, "", "",192⟩ 12 (fe 0++fe 0) (fe 0++fe 0) (fe 0++fe 0):=⟨underlying209,rfl,rfl,rfl,sizeOf78,sizeOf78,sizeOf78,zv209,sm,sm,sm⟩
theorem e6{a b c a' b' c':W2}(h1:a=a')(h2:b=b')(h3:c=c'):Ending.returned (aL ((fe (a).1++fe (a).2)++((fe (b).1++fe (b).2)++(fe (c).1++fe (c).2))))=.returned (aL ((fe (a').1++fe (a').2)++((fe (b').1++fe (b').2)++(fe (c').1++fe (c').2)))):=by rw[h1,h2,h3]
def q6:Sh W6:=q2.two (q2.two q2 2) 2
theorem V6(x:W6):EV6 x=dn rid (.inl [x.1.1,x.1.2,x.2.1.1,x.2.1.2,x.2.2.1,x.2.2.2]):=by
 show Value.agg _=Value.agg _;rw[clv,show cel [x.1.1,x.1.2,x.2.1.1,x.2.1.2,x.2.2.1,x.2.2.2]=fe x.1.1++(fe x.1.2++(fe x.2.1.1++(fe x.2.1.2++(fe x.2.2.1++fe x.2.2.2))))from O];rw[List.append_assoc,List.append_assoc]
theorem bU{f:Nat}{a a':List Value}{v v':Value}(ha:a=a')(hv:v=v')(h:PUR f a' v'):PUR f a v:=by rw[ha,hv];exact h
theorem l1{a b:Value}(h:a=b):[a]=[b]:=by rw[h]
theorem l2{a b c d:Value}(h:a=b)(k:c=d):[a,c]=[b,d]:=by rw[h,k]
theorem l3{a b c d e f:Value}(h:a=b)(k:c=d)(l:e=f):[a,c,e]=[b,d,f]:=by rw[h,k,l]
theorem t2{a b c:Value}(h:a=b):Value.tuple #[a,c]=.tuple #[b,c]:=by rw[h]
end Q6
end
section
open Go.RowKit
theorem ent262:ak prog 262:=λ_ _=>kr
namespace Q6
attribute [local simp] a6 bj aH aB aP aZ aQ aI aM be bz a5 bv
def p3(x:W6):Nat->W2
 |0=>x.1
 |1=>x.2.1
 |_=>x.2.2
theorem zv264(w:World):(zeroValue 264).run prog w=.ok (aL (FM (FF λ_=>ze2) 3)) w:=by
 rw[wD];exact (zeroValue264 w).trans rr
abbrev TV3(f:Nat->W2):Value:=aL (FM (FF f) 3)
theorem pz(f:Nat->W2)(i:Nat):(FF f i).length=12:=a5 _
attribute [local simp] pz
theorem Pi{x y:W6}(h: ∀j,j<3->p3 x j=p3 y j):x=y:=Prod.ext (h 0 dc) (Prod.ext (h 1 dc) (h 2 dc))
theorem lt_s{Q:Nat->Prop}{k:Nat}(h: ∀j,j<k->Q j)(hk:Q k): ∀j,j<k+1->Q j:=λj hj=>by
 rcases Nat.lt_or_ge j k with h1|h1
 ·exact h j h1
 ·obtain rfl:j=k:=om
  exact hk
theorem D6(x:W6):PUR 233 [EV6 x] (TV3 (p3 x)):=by
 intro w hw;refine Hf func233 O hw<|λhGF=>Xp<|Bx 1 hGF O<|λb1=>Al 2 hGF zv264<|λb2=>aa<|Xp<|Fa 0 O underlying209 O sizeOf78<|ay 1 _ O O isAgg78 sizeOf78 sm el O O<|Fa 12 O underlying209 O sizeOf78<|ay 1 _ O O isAgg78 sizeOf78 sm (kt sm) O O<|Fa 24 O underlying209 O sizeOf78<|ay 1 _ O O isAgg78 sizeOf78 sm (fX (m:=12) (n:=12) sm sm O) O O<|I3 (FF (p3 x)) O O O underlying264 sizeOf78 zv264 (a5 _) (a5 _) (a5 _) O O<|Sa 2 hGF O O O DS<|aa<|am<|Rr<|?_;exact av 2 O O O isAgg264 sizeOf264 sm (λw hw=>⟨rfl,ac hw⟩)
theorem k6of(f:Nat->W2):PUR 261 [TV3 f] (EV6 (f 0,f 1,f 2)):=by
 intro w hw;refine Hf func261 O hw<|λhGF=>Xp<|Bx 1 hGF O<|λb1=>Al 2 hGF zv209<|λb2=>aa<|Xp<|fC (0) (12*(0)) O O underlying264 sizeOf78 om om om O O<|ay 1 ((fe (f 0).1++fe (f 0).2).map U64) O O isAgg78 sizeOf78 sm (gG _ (f 0) 3 (0) _ om O (rfl)) O O<|fC (1) (12*(1)) O O underlying264 sizeOf78 om om om O O<|ay 1 ((fe (f 1).1++fe (f 1).2).map U64) O O isAgg78 sizeOf78 sm (gG _ (f 1) 3 (1) _ om O (rfl)) O O<|fC (2) (12*(2)) O O underlying264 sizeOf78 om om om O O<|ay 1 ((fe (f 2).1++fe (f 2).2).map U64) O O isAgg78 sizeOf78 sm (gG _ (f 2) 3 (2) _ om O (rfl)) O O<|ee kH O O O sm sm sm O O<|Sa 2 hGF O O O dr<|aa<|am<|Rr<|?_;exact av 2 O O O isAgg209 sizeOf209 sm (λw hw=>⟨rfl,ac hw⟩)
theorem lv(x:W6)(w:World)(hw:Gt w):CLS 234 [EV6 x].toArray w (λe w'=> ∃b1,e=.returned (.func (.func 262) #[] #[pnt b1])/\Grow w w'/\w.heap.size<=b1/\OwnB w' b1 (((fe (x.1).1++fe (x.1).2)++((fe (x.2.1).1++fe (x.2.1).2)++(fe (x.2.2).1++fe (x.2.2).2))).map U64) 209):=by
 refine Hf func234 O hw<|λhGF=>Xp<|Bx 1 hGF O<|λb1=>Asg O<|aa<|Xp<|gj O O O O<|Asg O<|aa<|am<|Rr<|?_;exact aF O O (λw hw=>⟨b1,rfl,ac hw,(hw.own 1 b1 _ _ O).2.elim id False.elim,(hw.own 1 b1 _ _ O).1⟩)
def PS(x:W6):List (List Value):=(List.range 3).map λ(k:Nat)=>[I (k:Int),EV2 (p3 x k)]
theorem tS(x:W6):(PS x).length=3:=by rw[PS,List.length_map,List.length_range]
theorem IF(x:W6)(k:Nat)(h:k<3):(PS x)[k]? =some [I (k:Int),EV2 (p3 x k)]:=by
 rw[PS,List.getElem?_map,List.getElem?_range h];rfl
theorem MC(x:W6)(k:Nat)(v:List Value)(h:(PS x)[k]? =some v):k<3/\v=[I (k:Int),EV2 (p3 x k)]:=by
 have hk:k<3:=by
  rcases Nat.lt_or_ge k 3 with hk|hk
  ·exact hk
  ·rw[List.getElem?_eq_none (by rw[tS];exact hk)]at h;cases h
 exact ⟨hk,(Option.some.inj ((IF x k hk).symm.trans h)).symm⟩
def RdP(bb:Nat)(x:W6):Cls:=λw=>w.rangeAt bb 0 (((fe (x.1).1++fe (x.1).2)++((fe (x.2.1).1++fe (x.2.1).2)++(fe (x.2.2).1++fe (x.2.2).2))).map U64)
theorem LV(bb:Nat)(x:W6):fF prog Gt 262 [pnt bb] (PS x) (RdP bb x):=by
 intro l J Jx hJ hJx hRd hGx hY w hj;have okJ: ∀k,BOk Gt (Bi w (λY=>J Y k)):=λk=>⟨λ_ _ _ h=>(hRd _ _ _ h.rid).1,hJ k⟩;have okX: ∀k,BOk Gt (Bi w (λY=>Jx Y k)):=λk=>⟨λ_ _ _ h=>hGx _ _ _ h.rid,hJx k⟩;have c1: ∀k L w',Hp (Bi w (λY=>J Y k)) L w'->RdP bb x w':=λk L w' h=>(hRd _ _ _ h.rid).2;refine cv (G:=Gt) func262 O O (Hp (Bi w (λY=>J Y 0)) []) (cj (Bi w _) hj (hJ 0)) (az (okJ 0))<|Xp<|cZ O isAgg209 sizeOf209 sm (λw h=>c1 _ _ w h) O O<|Ca O (D6 _)<|Mv O<|aa<|ai<|gz (ι:={i:Nat // i<=3}) (λy=>[(0,.func (.yield l) #[] #[]),(1,pnt bb),(6,TV3 (p3 x)),(7,I (y.1:Int))]) (λy=>Bi w (λY=>J Y y.1)) (λy=>[]) (λy=>3-y.1) ⟨0,Nat.zero_le _⟩ (λ_=>okJ _) O trv trivial<|?_;rintro ⟨i,hi⟩;dsimp only;refine Xp<|Bnr O O (λ_=>aw _ _ _)<|aa<|ah<|?_;refine bD O (λhc=> ?_) (λhc=> ?_)
 ·have hi2:i<3:=by simp at hc;omega
  refine aq<|ah<|ai<|Xp<|Mv O<|Am (FF (p3 x)) (i) O O underlying264 sizeOf78 isAgg78 om om (a5 _) O O<|Al 4 (okJ _) zv78<|λb4=>Asg O<|Sa 4 (okJ _) O O O aX<|aa<|Xp<|Mv O<|Mv O<|La 4 O O aX<|?_;refine du (hY.b (k:=i) (IF x i om) w) (okJ _) (okX _) O O O O O ?_ ?_
  ·refine bp O (λ_=>a8 _) O O<|aa<|aD O<|aq<|Xq<|Bnr O O (λ_=>au _ _ _ oi)<|Mv O<|aa<|?_
   repeat (refine aO ?_)
   exact aC<|⟨rfl,⟨i+1,om⟩,_,by show 3-(i+1)<3-i;omega,rfl,trv,trivial⟩
  ·refine bp O (λ_=>a8 _) O O<|aa<|aT O<|am<|Rr<|?_
   repeat (first|refine dv ?_|refine cm ?_|refine dJ O ?_|refine bJ ?_|refine bK ?_)
   exact dp O (λw hw=>⟨⟨_,rfl⟩,.inr ⟨_,cb (hJx _) hw.rid⟩⟩)
 ·obtain rfl:i=3:=by simp at hc;omega
  refine aV ?_
  repeat (first|refine dv ?_|refine cm ?_|refine dJ O ?_|refine bJ ?_|refine bK ?_)
  refine cO O (λw hw=>⟨⟨_,rfl⟩,.inl ?_⟩);have:=cb (hJ _) hw.rid;rw[tS];exact this
theorem Oo  :PUR 203 [] (EV6 K6.one):=(bU O (V6 _) (pE TO52 func203 [] (.inl (.inl [K6.one.1.1,K6.one.1.2,K6.one.2.1.1,K6.one.2.1.2,K6.one.2.2.1,K6.one.2.2.2])) (let t0:=on2;(.inl (.inl [t0.1,t0.2,0,0,0,0]),[])) [] kr aE O))
theorem Ad{f:Nat}{g:W6}(en:ak prog f)(h:PUR f [] (EV6 g)):Snd prog Gt f (c0 q6.rd g):=wc q6.rd en (bU O (V6 _).symm h)
def TO53:Tb prog Gt:=TO52.add (Ad (g:=K6.one) ent203 Oo)
theorem o9(x y:W6):PUR 202 [EV6 x,EV6 y] (.bool (decide (x=y))):=by
 intro w hw;have hGF:BOk Gt (pl w):=gt_low.plain hw;refine cw (G:=Gt) func202 O O (Hp (pl w) []) (cj (pl w) trivial ao) (az hGF)<|ae (E:=EE [234])<|Bx 2 hGF O<|λb2=>Bx 3 hGF O<|λb3=>hO 4 hGF zeroValue4 O O<|λb4=>aa<|ae (E:=EE [234])<|La 3 O O dr<|Ca O (D6 _)<|Al 5 hGF zv264<|λb5=>Sa 5 hGF O O O DS<|aa<|ah<|ae (E:=EE [234])<|La 2 O O dr<|?_;refine dw O O ent234 O O (λw' hw'=>(lv x w' (hGF.g _ _ _ hw')).mono λe' w'' h=> ?_);obtain ⟨c1,rfl,hg,h1,ho⟩:=h;refine ⟨_,_,rfl,az hGF,hw'.news ao hg [(33,c1,((fe (x.1).1++fe (x.1).2)++((fe (x.2.1).1++fe (x.2.1).2)++(fe (x.2.2).1++fe (x.2.2).2))).map U64,209)] ?_ bR, ?_⟩
 ·intro n' b' c' t' hl
  rcases aK hl with ⟨_,e⟩|⟨_,hl⟩
  ·cases e;exact ⟨h1,ho⟩
  ·cases hl
 clear hw' hg h1 ho;refine aa<|ai<|?_;refine vR (λk=> ∀j,j<k->p3 x j=p3 y j) (λ_=>pl w) (λ_ _=>pl w) (λ_=>hGF) (λ_ _=>hGF) (λ_=>rfl) (λ_ _=>rfl) O O ent262 (LV c1 x) (λv hv=>by obtain ⟨k,hk,rfl⟩:=List.mem_map.1 hv;rfl) O (λk=>[(2,b2,((fe (x.1).1++fe (x.1).2)++((fe (x.2.1).1++fe (x.2.1).2)++(fe (x.2.2).1++fe (x.2.2).2))).map U64,209),(3,b3,((fe (y.1).1++fe (y.1).2)++((fe (y.2.1).1++fe (y.2.1).2)++(fe (y.2.2).1++fe (y.2.2).2))).map U64,209),(4,b4,[.bool false],4),(5,b5,(FM (FF (p3 y)) 3).map U64,264),(33,c1,((fe (x.1).1++fe (x.1).2)++((fe (x.2.1).1++fe (x.2.1).2)++(fe (x.2.2).1++fe (x.2.2).2))).map U64,209)]) (λc _ L'=>c=.ret/\lkB L' 4=some (b4,[.bool false],4)/\¬x=y) (λj h=>absurd h (Nat.not_lt_zero j)) trv (λk _ w' h=>aJ (n:=33) O w' h) ?_ ?_ ?_ (λD c k L' hD h=>by obtain ⟨rfl,hl,hne⟩:=h;refine Eh ?_;refine bK ?_;refine bJ ?_;exact (dR (.inl O) ao (sU 4 O O hl isAgg4 (λw hw=>⟨congrArg (λb=>Ending.returned (.bool b)) (decide_eq_false hne).symm,ac hw⟩))))
 ·intro k v hx hQ R hR
  obtain ⟨hk,rfl⟩:=MC x k v hx;refine ae (E:=EE [234])<|Asg O<|aa<|bG (E:=EE [234])<|dN 7 (hR (pl w) O hGF).1 zv78 O O<|λb7=>aA 7 (hR (pl w) O hGF).1 O O O sizeOf78 sm sm (bc _) O<|aa<|?_;refine ⟨rfl,_,rfl, ?_⟩;refine ai<|Xd [234]<|La 7 O O aX<|Mv O<|fC (k) (12*(k)) O O underlying264 sizeOf78 om om om O O<|ay 5 ((fe (p3 y k).1++fe (p3 y k).2).map U64) O O isAgg78 sizeOf78 sm (gG _ (p3 y k) 3 (k) _ om O (rfl)) O O<|Ca O (tW _ _)<|bp O (λ_=>a8 _) O O<|aa<|?_;refine bD O (λhc=> ?_) (λhc=> ?_)
  ·have hc: ¬p3 x k=p3 y k:=by simpa using hc
   refine ae (E:=EE [234])<|dP 4 (hR (pl w) O hGF).2.1 O O O sizeOf4 O (by simp[*]) O<|aa<|am<|Rr<|?_
   refine Rr ?_;exact ⟨_,rfl,rfl,rfl,λe=>hc (by rw[e])⟩
  ·have hc:p3 x k=p3 y k:=by simpa using hc
   refine aq ?_
   repeat (refine aO ?_)
   exact ⟨_,rfl,P1 (lt_s hQ hc) trv⟩
 ·intro hQ D hD
  rw[tS]at*;have hxy:=Pi hQ;refine ae (E:=EE [234])<|dP 4 hD O O O sizeOf4 O (by simp[*]) O<|aa<|am<|Rr<|?_
  exact dR (.inl O) ao (sU 4 O O O isAgg4 (λw hw=>⟨congrArg (λb=>Ending.returned (.bool b)) (decide_eq_true hxy).symm,ac hw⟩))
 ·intro D hb
  exact aO<|aC<|pu hb
theorem n7(x y:W6):PUR 225 [EV6 x,EV6 y] (EV6 (K6.add x y)):=(bU (l2 (V6 _) (V6 _)) (V6 _) (pE TO53 func225 [.inl [x.1.1,x.1.2,x.2.1.1,x.2.1.2,x.2.2.1,x.2.2.2],.inl [y.1.1,y.1.2,y.2.1.1,y.2.1.2,y.2.2.1,y.2.2.2]] (.inl (.inl [(K6.add x y).1.1,(K6.add x y).1.2,(K6.add x y).2.1.1,(K6.add x y).2.1.2,(K6.add x y).2.2.1,(K6.add x y).2.2.2])) (let t0:=ad2 (x.1.1,x.1.2) (y.1.1,y.1.2);let t1:=ad2 (x.2.1.1,x.2.1.2) (y.2.1.1,y.2.1.2);let t2:=ad2 (x.2.2.1,x.2.2.2) (y.2.2.1,y.2.2.2);(.inl (.inl [t0.1,t0.2,t1.1,t1.2,t2.1,t2.2]),[])) [] kr aE O))
theorem cz{f:Nat}{g:W6->W6->W6}(en:ak prog f)(h: ∀a b,PUR f [EV6 a,EV6 b] (EV6 (g a b))):Snd prog Gt f (c2 q6.ag q6.ag q6.rd g):=gu q6.ag q6.ag q6.rd en (λa b=>bU (l2 (V6 _).symm (V6 _).symm) (V6 _).symm (h a b))
def TO54:Tb prog Gt:=TO53.add (cz (g:=K6.add) ent225 n7)
theorem pH(x y:W6):PUR 227 [EV6 x,EV6 y] (EV6 (sb6 x y)):=(bU (l2 (V6 _) (V6 _)) (V6 _) (pE TO54 func227 [.inl [x.1.1,x.1.2,x.2.1.1,x.2.1.2,x.2.2.1,x.2.2.2],.inl [y.1.1,y.1.2,y.2.1.1,y.2.1.2,y.2.2.1,y.2.2.2]] (.inl (.inl [(sb6 x y).1.1,(sb6 x y).1.2,(sb6 x y).2.1.1,(sb6 x y).2.1.2,(sb6 x y).2.2.1,(sb6 x y).2.2.2])) (let t0:=sb2 (x.1.1,x.1.2) (y.1.1,y.1.2);let t1:=sb2 (x.2.1.1,x.2.1.2) (y.2.1.1,y.2.1.2);let t2:=sb2 (x.2.2.1,x.2.2.2) (y.2.2.1,y.2.2.2);(.inl (.inl [t0.1,t0.2,t1.1,t1.2,t2.1,t2.2]),[])) [] kr aE O))
def TO55:Tb prog Gt:=TO54.add (cz (g:=sb6) ent227 pH)
theorem G3(x:W6):PUR 232 [EV6 x] (EV6 (K6.neg x)):=(bU (l1 (V6 _)) (V6 _) (pE TO55 func232 [.inl [x.1.1,x.1.2,x.2.1.1,x.2.1.2,x.2.2.1,x.2.2.2]] (.inl (.inl [(K6.neg x).1.1,(K6.neg x).1.2,(K6.neg x).2.1.1,(K6.neg x).2.1.2,(K6.neg x).2.2.1,(K6.neg x).2.2.2])) (let t0:=ng2 (x.1.1,x.1.2);let t1:=ng2 (x.2.1.1,x.2.1.2);let t2:=ng2 (x.2.2.1,x.2.2.2);(.inl (.inl [t0.1,t0.2,t1.1,t1.2,t2.1,t2.2]),[])) [] kr aE O))
theorem cN{f:Nat}{g:W6->W6}(en:ak prog f)(h: ∀a,PUR f [EV6 a] (EV6 (g a))):Snd prog Gt f (c1 q6.ag q6.rd g):=gt q6.ag q6.rd en (λa=>bU (l1 (V6 _).symm) (V6 _).symm (h a))
def TO56:Tb prog Gt:=TO55.add (cN (g:=K6.neg) ent232 G3)
theorem mQ(x y:W6):PUR 224 [EV6 x,EV6 y] (EV6 (K6.mul x y)):=by
 intro w hw;refine Hf func224 O hw<|λhGF=>Xp<|Bx 2 hGF O<|λb2=>Bx 3 hGF O<|λb3=>Al 4 hGF zv209<|λb4=>aa<|fH (E:=EE [2999999]) [0,1,2,3,4,5,6,7,8,9,10,11,12,13,14] [⟨15,5,78,(fe 0++fe 0).map U64⟩,⟨16,6,78,(fe 0++fe 0).map U64⟩,⟨17,7,78,(fe 0++fe 0).map U64⟩] [18,19,20] cT O kr kr kr kr kr kr dc (by intro x hx;simp only[List.mem_cons,List.not_mem_nil,or_false]at hx;rcases hx with rfl|rfl|rfl<;>exact bE O zv78 O)<|Fa 0 O underlying209 O sizeOf78<|ay 2 _ O O isAgg78 sizeOf78 sm el O O<|Fa 0 O underlying209 O sizeOf78<|ay 3 _ O O isAgg78 sizeOf78 sm el O O<|Ca O (dH _ _)<|Fa 12 O underlying209 O sizeOf78<|ay 2 _ O O isAgg78 sizeOf78 sm (kt sm) O O<|Fa 12 O underlying209 O sizeOf78<|ay 3 _ O O isAgg78 sizeOf78 sm (kt sm) O O<|Ca O (dH _ _)<|Fa 24 O underlying209 O sizeOf78<|ay 2 _ O O isAgg78 sizeOf78 sm (fX (m:=12) (n:=12) sm sm O) O O<|Fa 24 O underlying209 O sizeOf78<|ay 3 _ O O isAgg78 sizeOf78 sm (fX (m:=12) (n:=12) sm sm O) O O<|Ca O (dH _ _)<|aa<|?_
 refine ⟨_,_,rfl,hGF,by intro x hx;simp only[List.mem_cons,List.not_mem_nil,or_false]at hx;rcases hx with rfl|rfl|rfl<;>rfl,by intro x hx;simp only[List.mem_cons,List.not_mem_nil,or_false]at hx;rcases hx with rfl|rfl|rfl<;>rfl,λadr=> ?_⟩
 refine Sa 5 hGF O O O aX<|Sa 6 hGF O O O aX<|Sa 7 hGF O O O aX<|aa<|Xa [0,1,2,3,4,5,6,7,8,9,10,11,12,13,14] ⟨15,8,78,(fe 0++fe 0).map U64⟩ [16] (bE O zv78 O)<|Fa 0 O underlying209 O sizeOf78<|ay 2 _ O O isAgg78 sizeOf78 sm el O O<|Fa 12 O underlying209 O sizeOf78<|ay 2 _ O O isAgg78 sizeOf78 sm (kt sm) O O<|Ca O (fw _ _)<|Fa 0 O underlying209 O sizeOf78<|ay 3 _ O O isAgg78 sizeOf78 sm el O O<|Fa 12 O underlying209 O sizeOf78<|ay 3 _ O O isAgg78 sizeOf78 sm (kt sm) O O<|Ca O (fw _ _)<|Ca O (dH _ _)<|La 5 O O aX<|Ca O (kV _ _)<|La 6 O O aX<|Ca O (kV _ _)<|aa<|?_;refine ⟨_,_,rfl,hGF,by intro x hx;simp only[List.mem_cons,List.not_mem_nil,or_false]at hx;subst hx;rfl,by intro x hx;simp only[List.mem_cons,List.not_mem_nil,or_false]at hx;subst hx;rfl,λadr=> ?_⟩
 refine Sa 8 hGF O O O aX<|aa<|Xa [0,1,2,3,4,5,6,7,8,9,10,11,12,13,14] ⟨15,9,78,(fe 0++fe 0).map U64⟩ [16] (bE O zv78 O)<|Fa 0 O underlying209 O sizeOf78<|ay 2 _ O O isAgg78 sizeOf78 sm el O O<|Fa 24 O underlying209 O sizeOf78<|ay 2 _ O O isAgg78 sizeOf78 sm (fX (m:=12) (n:=12) sm sm O) O O<|Ca O (fw _ _)<|Fa 0 O underlying209 O sizeOf78<|ay 3 _ O O isAgg78 sizeOf78 sm el O O<|Fa 24 O underlying209 O sizeOf78<|ay 3 _ O O isAgg78 sizeOf78 sm (fX (m:=12) (n:=12) sm sm O) O O<|Ca O (fw _ _)<|Ca O (dH _ _)<|La 5 O O aX<|Ca O (kV _ _)<|La 7 O O aX<|Ca O (kV _ _)<|aa<|?_;refine ⟨_,_,rfl,hGF,by intro x hx;simp only[List.mem_cons,List.not_mem_nil,or_false]at hx;subst hx;rfl,by intro x hx;simp only[List.mem_cons,List.not_mem_nil,or_false]at hx;subst hx;rfl,λadr=> ?_⟩
 refine Sa 9 hGF O O O aX<|aa<|Xa [0,1,2,3,4,5,6,7,8,9,10,11,12,13,14] ⟨15,10,78,(fe 0++fe 0).map U64⟩ [16] (bE O zv78 O)<|Fa 12 O underlying209 O sizeOf78<|ay 2 _ O O isAgg78 sizeOf78 sm (kt sm) O O<|Fa 24 O underlying209 O sizeOf78<|ay 2 _ O O isAgg78 sizeOf78 sm (fX (m:=12) (n:=12) sm sm O) O O<|Ca O (fw _ _)<|Fa 12 O underlying209 O sizeOf78<|ay 3 _ O O isAgg78 sizeOf78 sm (kt sm) O O<|Fa 24 O underlying209 O sizeOf78<|ay 3 _ O O isAgg78 sizeOf78 sm (fX (m:=12) (n:=12) sm sm O) O O<|Ca O (fw _ _)<|Ca O (dH _ _)<|La 6 O O aX<|Ca O (kV _ _)<|La 7 O O aX<|Ca O (kV _ _)<|aa<|?_;refine ⟨_,_,rfl,hGF,by intro x hx;simp only[List.mem_cons,List.not_mem_nil,or_false]at hx;subst hx;rfl,by intro x hx;simp only[List.mem_cons,List.not_mem_nil,or_false]at hx;subst hx;rfl,λadr=> ?_⟩
 refine Sa 10 hGF O O O aX<|aa<|Xd []<|La 5 O O aX<|La 10 O O aX<|Ca O (Dr _)<|Ca O (fw _ _)<|La 8 O O aX<|La 7 O O aX<|Ca O (Dr _)<|Ca O (fw _ _)<|La 9 O O aX<|La 6 O O aX<|Ca O (fw _ _)<|ee kH O O O sm sm sm O O<|Sa 4 hGF O O O dr<|aa<|am<|Rr<|?_;exact av 4 O O O isAgg209 sizeOf209 sm (λw hw=>⟨e6 (zq R2 [x.1,x.2.1,x.2.2,y.1,y.2.1,y.2.2,XI] (ta (tm j0 j3) (txi 6 (tsb (tsb (tm (ta j1 j2) (ta j4 j5)) (tm j1 j4)) (tm j2 j5)) O)) (ta (tm j0 j3) (tm j6 (ta (tm j1 j5) (tm j2 j4))))) (zq R2 [x.1,x.2.1,x.2.2,y.1,y.2.1,y.2.2,XI] (ta (tsb (tsb (tm (ta j0 j1) (ta j3 j4)) (tm j0 j3)) (tm j1 j4)) (txi 6 (tm j2 j5) O)) (ta (ta (tm j0 j4) (tm j1 j3)) (tm j6 (tm j2 j5)))) (zq R2 [x.1,x.2.1,x.2.2,y.1,y.2.1,y.2.2,XI] (ta (tsb (tsb (tm (ta j0 j2) (ta j3 j5)) (tm j0 j3)) (tm j2 j5)) (tm j1 j4)) (ta (ta (tm j0 j5) (tm j1 j4)) (tm j2 j3))),ac hw⟩)
def TO57:Tb prog Gt:=TO56.add (cz (g:=K6.mul) ent224 mQ)
theorem nf(x:W6):PUR 258 [EV6 x] (EV6 (K6.mul x x)):=by
 intro w hw;refine Hf func258 O hw<|λhGF=>Xp<|Bx 1 hGF O<|λb1=>Al 2 hGF zv209<|λb2=>aa<|fH (E:=EE [2999999]) [0,1,2,3,4,5] [⟨6,3,78,(fe 0++fe 0).map U64⟩,⟨7,4,78,(fe 0++fe 0).map U64⟩] [8,9] cT O kr kr kr kr kr kr dc (by intro x hx;simp only[List.mem_cons,List.not_mem_nil,or_false]at hx;rcases hx with rfl|rfl<;>exact bE O zv78 O)<|Fa 0 O underlying209 O sizeOf78<|ay 1 _ O O isAgg78 sizeOf78 sm el O O<|Ca O (iM _)<|Fa 24 O underlying209 O sizeOf78<|ay 1 _ O O isAgg78 sizeOf78 sm (fX (m:=12) (n:=12) sm sm O) O O<|Ca O (iM _)<|aa<|?_
 refine ⟨_,_,rfl,hGF,by intro x hx;simp only[List.mem_cons,List.not_mem_nil,or_false]at hx;rcases hx with rfl|rfl<;>rfl,by intro x hx;simp only[List.mem_cons,List.not_mem_nil,or_false]at hx;rcases hx with rfl|rfl<;>rfl,λadr=> ?_⟩
 refine Sa 3 hGF O O O aX<|Sa 4 hGF O O O aX<|aa<|fH (E:=EE [2999999]) [0,1,2,3,4,5,6,7,8,9] [⟨10,5,78,(fe 0++fe 0).map U64⟩,⟨11,6,78,(fe 0++fe 0).map U64⟩] [12,13] cT O kr kr kr kr kr kr dc (by intro x hx;simp only[List.mem_cons,List.not_mem_nil,or_false]at hx;rcases hx with rfl|rfl<;>exact bE O zv78 O)<|Fa 0 O underlying209 O sizeOf78<|ay 1 _ O O isAgg78 sizeOf78 sm el O O<|Fa 12 O underlying209 O sizeOf78<|ay 1 _ O O isAgg78 sizeOf78 sm (kt sm) O O<|Ca O (dH _ _)<|Fa 12 O underlying209 O sizeOf78<|ay 1 _ O O isAgg78 sizeOf78 sm (kt sm) O O<|Fa 24 O underlying209 O sizeOf78<|ay 1 _ O O isAgg78 sizeOf78 sm (fX (m:=12) (n:=12) sm sm O) O O<|Ca O (dH _ _)<|aa<|?_
 refine ⟨_,_,rfl,hGF,by intro x hx;simp only[List.mem_cons,List.not_mem_nil,or_false]at hx;rcases hx with rfl|rfl<;>rfl,by intro x hx;simp only[List.mem_cons,List.not_mem_nil,or_false]at hx;rcases hx with rfl|rfl<;>rfl,λadr=> ?_⟩
 refine Sa 5 hGF O O O aX<|Sa 6 hGF O O O aX<|aa<|Xd []<|La 5 O O aX<|La 5 O O aX<|Ca O (fw _ _)<|La 6 O O aX<|La 6 O O aX<|Ca O (fw _ _)<|Sa 5 hGF O O O aX<|Sa 6 hGF O O O aX<|aa<|Xa [0,1,2,3,4,5,6,7,8] ⟨9,7,78,(fe 0++fe 0).map U64⟩ [10] (bE O zv78 O)<|Fa 0 O underlying209 O sizeOf78<|ay 1 _ O O isAgg78 sizeOf78 sm el O O<|Fa 12 O underlying209 O sizeOf78<|ay 1 _ O O isAgg78 sizeOf78 sm (kt sm) O O<|Ca O (kV _ _)<|Fa 24 O underlying209 O sizeOf78<|ay 1 _ O O isAgg78 sizeOf78 sm (fX (m:=12) (n:=12) sm sm O) O O<|Ca O (fw _ _)<|Ca O (iM _)<|aa<|?_;refine ⟨_,_,rfl,hGF,by intro x hx;simp only[List.mem_cons,List.not_mem_nil,or_false]at hx;subst hx;rfl,by intro x hx;simp only[List.mem_cons,List.not_mem_nil,or_false]at hx;subst hx;rfl,λadr=> ?_⟩
 refine Sa 7 hGF O O O aX<|aa<|Xd []<|La 3 O O aX<|La 6 O O aX<|Ca O (Dr _)<|Ca O (fw _ _)<|La 5 O O aX<|La 4 O O aX<|Ca O (Dr _)<|Ca O (fw _ _)<|La 7 O O aX<|La 5 O O aX<|Ca O (fw _ _)<|La 6 O O aX<|Ca O (fw _ _)<|La 3 O O aX<|Ca O (kV _ _)<|La 4 O O aX<|Ca O (kV _ _)<|ee kH O O O sm sm sm O O<|Sa 2 hGF O O O dr<|aa<|am<|Rr<|?_;exact av 2 O O O isAgg209 sizeOf209 sm (λw hw=>⟨e6 (zq R2 [x.1,x.2.1,x.2.2,XI] (ta (tm j0 j0) (txi 3 (ta (tm j1 j2) (tm j1 j2)) O)) (ta (tm j0 j0) (tm j3 (ta (tm j1 j2) (tm j2 j1))))) (zq R2 [x.1,x.2.1,x.2.2,XI] (ta (ta (tm j0 j1) (tm j0 j1)) (txi 3 (tm j2 j2) O)) (ta (ta (tm j0 j1) (tm j1 j0)) (tm j3 (tm j2 j2)))) (zq R2 [x.1,x.2.1,x.2.2,XI] (tsb (tsb (ta (ta (tm (ta (tsb j0 j1) j2) (ta (tsb j0 j1) j2)) (ta (tm j0 j1) (tm j0 j1))) (ta (tm j1 j2) (tm j1 j2))) (tm j0 j0)) (tm j2 j2)) (ta (ta (tm j0 j2) (tm j1 j1)) (tm j2 j0))),ac hw⟩)
def TO58:Tb prog Gt:=TO57.add (cN (g:=λx=>K6.mul x x) ent258 nf)
theorem BS(x:W6)(c:W2):PUR 231 [EV6 x,EV2 c] (EV6 (sc6 x c)):=by
 intro w hw;have hGF:BOk Gt (pl w):=gt_low.plain hw;refine cw (G:=Gt) func231 O O (Hp (pl w) []) (cj (pl w) trivial ao) (az hGF)<|ae (E:=EE [234])<|Bx 2 hGF O<|λb2=>Bx 3 hGF O<|λb3=>Al 4 hGF zv209<|λb4=>aa<|ae (E:=EE [234])<|Al 5 hGF zv264<|λb5=>aa<|ah<|ae (E:=EE [234])<|La 2 O O dr<|?_;refine dw O O ent234 O O (λw' hw'=>(lv x w' (hGF.g _ _ _ hw')).mono λe' w'' h=> ?_);obtain ⟨c1,rfl,hg,h1,ho⟩:=h;refine ⟨_,_,rfl,az hGF,hw'.news ao hg [(33,c1,((fe (x.1).1++fe (x.1).2)++((fe (x.2.1).1++fe (x.2.1).2)++(fe (x.2.2).1++fe (x.2.2).2))).map U64,209)] ?_ bR, ?_⟩
 ·intro n' b' c' t' hl
  rcases aK hl with ⟨_,e⟩|⟨_,hl⟩
  ·cases e;exact ⟨h1,ho⟩
  ·cases hl
 clear hw' hg h1 ho;refine aa<|ai<|?_;refine fb (λ_=>pl w) (λ_ _=>pl w) (λ_=>hGF) (λ_ _=>hGF) (λ_=>rfl) (λ_ _=>rfl) O O ent262 (LV c1 x) (λv hv=>by obtain ⟨k,hk,rfl⟩:=List.mem_map.1 hv;rfl) O (λk=>[(2,b2,((fe (x.1).1++fe (x.1).2)++((fe (x.2.1).1++fe (x.2.1).2)++(fe (x.2.2).1++fe (x.2.2).2))).map U64,209),(3,b3,(fe c.1++fe c.2).map U64,78),(4,b4,((fe 0++fe 0)++((fe 0++fe 0)++(fe 0++fe 0))).map U64,209),(5,b5,(FM (FF (λj=>if j<k then ml2 (p3 x j) c else ze2)) 3).map U64,264),(33,c1,((fe (x.1).1++fe (x.1).2)++((fe (x.2.1).1++fe (x.2.1).2)++(fe (x.2.2).1++fe (x.2.2).2))).map U64,209)]) (λ_ _ _=>False) ⟨rfl,rfl,rfl,congrArg (λl=>some (b5,l,_)) (congrArg (List.map U64) (w8 λj _=>(if_neg (Nat.not_lt_zero j)).symm)),rfl,trivial⟩ (λk _ w' h=>aJ (n:=33) O w' h) ?_ ?_ (λ_ _ _ _ _ h=>h.elim)
 ·intro k v hx R hR
  obtain ⟨hk,rfl⟩:=MC x k v hx;refine ae (E:=EE [234])<|Asg O<|aa<|bG (E:=EE [234])<|dN 7 (hR (pl w) O hGF).1 zv78 O O<|λb7=>aA 7 (hR (pl w) O hGF).1 O O O sizeOf78 sm sm (bc _) O<|aa<|?_;refine ⟨rfl,_,rfl, ?_⟩;refine ai<|bG (E:=EE [234])<|Mv O<|La 7 O O aX<|La 3 O O aX<|Ca O (dH _ _)<|fC (k) (12*(k)) O O underlying264 sizeOf78 om om om O O<|lp 5 ((FM (FF (λj=>if j<k+1 then ml2 (p3 x j) c else ze2)) 3).map U64) (hR (pl w) O hGF).2.1 O O O sizeOf78 sm (bc _) (by simp;omega) (tZ _ _ (ml2 (p3 x k) c) 3 (k) _ om O (λj _=>xD (λj=>ml2 (p3 x j) c) (λ_=>ze2) k j)) O<|aa<|?_
  repeat (refine aO ?_)
  exact ⟨_,rfl,trv⟩
 ·intro D hD
  rw[tS];refine ae (E:=EE [234])<|La 5 O O DS<|Ca O (k6of _)<|Sa 4 hD O O O dr<|aa<|am<|Rr<|?_;exact dR (.inl O) ao (av 4 O O O isAgg209 sizeOf209 sm (λw hw=>⟨e6 O O O,ac hw⟩))
theorem k6v(x:W6):PUR 226 [EV6 x] (EV6 (v6 x)):=(bU (l1 (V6 _)) (V6 _) (pE TO58 func226 [.inl [x.1.1,x.1.2,x.2.1.1,x.2.1.2,x.2.2.1,x.2.2.2]] (.inl (.inl [(v6 x).1.1,(v6 x).1.2,(v6 x).2.1.1,(v6 x).2.1.2,(v6 x).2.2.1,(v6 x).2.2.2])) (let t0:=xi2 (x.2.2.1,x.2.2.2);(.inl (.inl [t0.1,t0.2,x.1.1,x.1.2,x.2.1.1,x.2.1.2]),[])) [] kr aE O))
def TO59:Tb prog Gt:=TO58.add (cN (g:=v6) ent226 k6v)
def oth(x:W6):W6:=(i3a x.1 x.2.1 x.2.2,i3b x.1 x.2.1 x.2.2,i3c x.1 x.2.1 x.2.2)
theorem pP(x:W6):PUR 274 [EV6 x] (EV6 (oth x)):=(bU (l1 (V6 _)) (V6 _) (pE TO59 func274 [.inl [x.1.1,x.1.2,x.2.1.1,x.2.1.2,x.2.2.1,x.2.2.2]] (.inl (.inl [(oth x).1.1,(oth x).1.2,(oth x).2.1.1,(oth x).2.1.2,(oth x).2.2.1,(oth x).2.2.2])) (let t0:=ml2 (x.1.1,x.1.2) (x.1.1,x.1.2);let t1:=ml2 (x.2.1.1,x.2.1.2) (x.2.2.1,x.2.2.2);let t2:=xi2 (t1.1,t1.2);let t3:=sb2 (t0.1,t0.2) (t2.1,t2.2);let t4:=ml2 (x.2.2.1,x.2.2.2) (x.2.2.1,x.2.2.2);let t5:=xi2 (t4.1,t4.2);let t6:=ml2 (x.1.1,x.1.2) (x.2.1.1,x.2.1.2);let t7:=sb2 (t5.1,t5.2) (t6.1,t6.2);let t8:=ml2 (x.2.1.1,x.2.1.2) (x.2.1.1,x.2.1.2);let t9:=ml2 (x.1.1,x.1.2) (x.2.2.1,x.2.2.2);let t10:=sb2 (t8.1,t8.2) (t9.1,t9.2);(.inl (.inl [t3.1,t3.2,t7.1,t7.2,t10.1,t10.2]),[])) [] kr aE O))
def TO60:Tb prog Gt:=TO59.add (cN (g:=oth) ent274 pP)
theorem Yn(x:W6):ad2 (xi2 (ad2 (ml2 x.2.1 (oth x).2.2) (ml2 x.2.2 (oth x).2.1))) (ml2 x.1 (oth x).1)=i3n x.1 x.2.1 x.2.2:=by
 show R2.add (xi2 (R2.add _ _)) _=R2.add _ (xi2 (R2.add _ _));rw[R2.add_comm,R2.add_comm (ml2 x.2.1 (oth x).2.2)];rfl
theorem E9(x:W6)(c:W2):PUR 231 [EV6 (oth x),EV2 c] (EV6 (sc6 (oth x) c)):=BS (oth x) c
theorem GZ(x:W6):PUR 259 [EV6 x] (EV6 (iv6 x)):=by
 intro w hw;refine Hf func259 O hw<|λhGF=>Xp<|Bx 1 hGF O<|λb1=>Al 2 hGF zv209<|λb2=>aa<|Xp<|La 1 O O dr<|Ca O (pP _)<|Al 3 hGF zv209<|λb3=>Sa 3 hGF O O O dr<|aa<|Xa [0,1,2,3,4,5,6,7,8,9,10,11,12,13,14,15,16,17] ⟨18,4,78,(fe 0++fe 0).map U64⟩ [19] (bE O zv78 O)<|Fa 12 O underlying209 O sizeOf78<|ay 1 _ O O isAgg78 sizeOf78 sm (kt sm) O O<|Fa 24 O underlying209 O sizeOf78<|ay 3 _ O O isAgg78 sizeOf78 sm (fX (m:=12) (n:=12) sm sm O) O O<|Ca O (dH _ _)<|Fa 24 O underlying209 O sizeOf78<|ay 1 _ O O isAgg78 sizeOf78 sm (fX (m:=12) (n:=12) sm sm O) O O<|Fa 12 O underlying209 O sizeOf78<|ay 3 _ O O isAgg78 sizeOf78 sm (kt sm) O O<|Ca O (dH _ _)<|Ca O (fw _ _)<|Ca O (Dr _)<|Fa 0 O underlying209 O sizeOf78<|ay 1 _ O O isAgg78 sizeOf78 sm el O O<|Fa 0 O underlying209 O sizeOf78<|ay 3 _ O O isAgg78 sizeOf78 sm el O O<|Ca O (dH _ _)<|Ca O (fw _ _)<|aa<|?_;refine ⟨_,_,rfl,hGF,by intro x hx;simp only[List.mem_cons,List.not_mem_nil,or_false]at hx;subst hx;rfl,by intro x hx;simp only[List.mem_cons,List.not_mem_nil,or_false]at hx;subst hx;rfl,λadr=> ?_⟩
 refine Sa 4 hGF O O O aX<|aa<|Xd []<|La 3 O O dr<|La 4 O O aX<|Ca O (H3 _)<|Ca O (E9 x _)<|Sa 2 hGF O O O dr<|aa<|am<|Rr<|?_;exact av 2 O O O isAgg209 sizeOf209 sm (λw hw=>⟨by rw[Yn];rfl,ac hw⟩)
def TO61:Tb prog Gt:=TO60.add (cN (g:=iv6) ent259 GZ)
end Q6
end
def g2:W2:=pw2 XI th
theorem S8(a:Zp):a+0=a:=by grind
theorem zn(x:W2): ∀n,nm2 (pw2 x n)=nm2 x^n
 |0=>by
  show nm2 on2=_;rw[p0,nm2,on2];show (1:Zp)*1+0*0=1;rw[oD,i6];exact S8 1
 |n+1=>by rw[nZ,gK,zn x n,ps]
theorem Gq(x:W2):cj2 (cj2 x)=x:=bT O (Bd _)
theorem Ll(c g:W2):ml2 (cj2 (ml2 (cj2 c) g)) g=ml2 c (nm2 g,0):=by
 rw[iz,Gq,show ml2 (ml2 c (cj2 g)) g=ml2 c (ml2 (cj2 g) g)from R2.mul_assoc _ _ _,show ml2 (cj2 g) g=ml2 g (cj2 g)from R2.mul_comm _ _,Tm]
theorem Uz(a:Zp):a-0=a:=by grind
theorem Y5(a:Zp):0-a= -a:=by grind
theorem Vv(a:Zp):0+a=a:=by grind
theorem tL{a b:Zp}(h:a+b=0): -a=b:=by grind
theorem Wn:pw2 XI 2=(0,zp 2):=by decide+kernel
theorem IR(a b:Zp):ml2 (a,0) (0,b)=(0,a*b):=bT (by simp only[ml2];rw[i6,rN,Uz]) (by simp only[ml2];rw[i6,S8])
theorem GT(a b:Zp):ml2 (0,a) (0,b)=(-(a*b),0):=bT (by simp only[ml2];rw[i6,Y5]) (by simp only[ml2];rw[rN,i6,S8])
theorem im_4(c:Zp):pw2 (0,c) 4=(c^4,0):=by
 show ml2 (ml2 (ml2 (ml2 on2 (0,c)) (0,c)) (0,c)) (0,c)=_;rw[show ml2 on2 (0,c)=(0,c)from R2.one_mul _,GT,IR,GT];exact bT (by grind) O
theorem im_3(c:Zp):pw2 (0,c) 3=(0,-(c^3)):=by
 show ml2 (ml2 (ml2 on2 (0,c)) (0,c)) (0,c)=_;rw[show ml2 on2 (0,c)=(0,c)from R2.one_mul _,GT,IR];exact bT O (by grind)
theorem N9(c:Zp): ∀s,pw2 (0,c) (4*s)=(c^(4*s),0)
 |0=>by show on2=_;rw[Nat.mul_zero,p0];rfl
 |s+1=>by rw[Nat.mul_succ,uK,N9 c s,im_4,ns,ot]
theorem UR(c:Zp)(s:Nat):pw2 (0,c) (4*s+3)=(0,-(c^(4*s+3))):=by
 rw[uK,N9,im_3,IR,ot];exact bT O (by grind)
def cjn(n:Nat)(x:W2):W2:=if n % 2=1 then cj2 x else x
theorem U1(n:Nat)(x:W2):cj2 (cjn n x)=cjn (n+1) x:=by
 rw[cjn,cjn];by_cases h:n % 2=1
 ·rw[if_pos h,if_neg om,Gq]
 ·rw[if_neg h,if_pos om]
theorem zC(a b c:W2):ml2 (ml2 a b) c=ml2 a (ml2 b c):=R2.mul_assoc a b c
/-! ### The powers of p -/
theorem Ie(x y:W12):d8 (K12.mul x y)=K12.mul (d8 x) (d8 y):=by
 rw[<-tR,<-tR,<-tR,K12.mul_pw]
def qc(x:W12):Nat->W12
 |0=>x
 |n+1=>d8 (qc x n)
theorem wJ(x y:W12): ∀n,qc (K12.mul x y) n=K12.mul (qc x n) (qc y n)
 |0=>rfl
 |n+1=>by rw[qc,wJ x y n,Ie];rfl
def Ch(z:Zp)(x:W12):W12:=((ml2 x.1.1 (z^0,0),ml2 x.1.2.1 (z^2,0),ml2 x.1.2.2 (z^4,0)),(ml2 x.2.1 (z^1,0),ml2 x.2.2.1 (z^3,0),ml2 x.2.2.2 (z^5,0)))
theorem nt(c:W2)(a b:Zp)(k:Nat):ml2 (ml2 c (b^k,0)) (a^k,0)=ml2 c ((a*b)^k,0):=by
 rw[zC,ns];have e:b^k*a^k=(a*b)^k:=by
  induction k with
  |zero=>rw[p0,p0,p0];exact oD
  |succ k ih=>rw[ps,ps,ps,<-ih];grind
 rw[e]
theorem AR(a b:Zp)(x:W12):Ch a (Ch b x)=Ch (a*b) x:=
 Prod.ext (Prod.ext (nt _ _ _ _) (Prod.ext (nt _ _ _ _) (nt _ _ _ _))) (Prod.ext (nt _ _ _ _) (Prod.ext (nt _ _ _ _) (nt _ _ _ _)))
def ZE:Zp:=nm2 GA
theorem UT(k:Nat):nm2 (pw2 GA k)=ZE^k:=zn GA k
theorem ll(c:W2)(k:Nat):ml2 (cj2 (ml2 (cj2 c) (pw2 GA k))) (pw2 GA k)=ml2 c (ZE^k,0):=by rw[Ll,UT]
theorem qA(x:W12):d8 (d8 x)=Ch ZE x:=
 Prod.ext (Prod.ext (ll _ _) (Prod.ext (ll _ _) (ll _ _))) (Prod.ext (ll _ _) (Prod.ext (ll _ _) (ll _ _)))
theorem P8:ZE=zp 2^sx:=by rw[ZE,GA,zn,GM]
theorem Uy:sx*3=hf:=by decide+kernel
theorem Qv{a:Zp}(h:a*a=1)(h1:a≠1):a= -1:=by
 have e:(a-1)*(a+1)=0:=by grind
 rcases mK e with e|e
 ·exact absurd (by grind) h1
 ·grind
theorem Pq:hf+hf=PP-1:=by decide+kernel
theorem K5:zp 2^hf= -1:=Qv (by rw[<-ot,Pq,fermat qh]) Dy
theorem Gu:ZE*(ZE*ZE)= -1:=by
 have e:ZE*(ZE*ZE)=ZE^3:=by generalize ZE=a;grind
 rw[e,P8,<-GE,Uy,K5]
theorem Dp(x:W12):qc x 6=Ch (ZE*(ZE*ZE)) x:=by
 show d8 (d8 (d8 (d8 (d8 (d8 x)))))=_;rw[qA x,qA (Ch ZE x),qA,AR ZE ZE x,AR]
def da(x:W12):W12:=(x.1,K6.neg x.2)
theorem u5(c:W2)(n:Nat):ml2 c ((-1:Zp)^(2*n),0)=c:=by
 have e:(-1:Zp)^(2*n)=1:=by
  induction n with
  |zero=>exact p0 _
  |succ n ih=>rw[Nat.mul_succ,ot,ih];generalize hm:(-1:Zp)=a;have:a*a=1:=by rw[<-hm,z_nn,oD]
              grind
 rw[e];exact R2.mul_one c
theorem yg(c:W2)(n:Nat):ml2 c ((-1:Zp)^(2*n+1),0)=ng2 c:=by
 have e:ml2 c ((-1:Zp)^(2*n+1),0)=ml2 (ml2 c ((-1:Zp)^(2*n),0)) (-1,0):=by rw[zC,ns,ps]
 rw[e,u5];generalize hm:(-1:Zp)=a;refine bT ?_ ?_
 ·show c.1*a-c.2*0= -c.1
  rw[i6,Uz,<-hm];grind
 ·show c.1*0+c.2*a= -c.2
  rw[i6,Vv,<-hm];grind
theorem mU(x:W12):qc x 6=da x:=by
 rw[Dp,Gu];exact Prod.ext (Prod.ext (u5 _ 0) (Prod.ext (u5 _ 1) (u5 _ 2))) (Prod.ext (yg _ 0) (Prod.ext (yg _ 1) (yg _ 2)))
theorem zV(x:W12):da (da x)=x:=Prod.ext O (K6.neg_neg x.2)
/-! ### The conjugate's laws -/
theorem xg(x y:W12):da (K12.mul x y)=K12.mul (da x) (da y):=by rw[<-mU,<-mU,<-mU,wJ]
theorem tvv{ρ:Nat->W6}{p:Po}{a:W6}(k:Nat)(ha:K6.d ρ p=a)(hk:ρ k=VV):K6.d ρ (kk p (pv k))=v6 a:=by rw[K6.d_mul,ha,K6.d_var,hk];exact A3 a
theorem HA{ρ:Nat->W6}{p q:Po}{a b:W6}(ha:K6.d ρ p=a)(hb:K6.d ρ q=b):K6.d ρ (ij p (lz q))=sb6 a b:=by rw[K6.d_add,K6.d_neg,ha,hb,zG]
section
open Go.RowKit
theorem ent218:ak prog 218:=λ_ _=>kr
theorem ent201:ak prog 201:=λ_ _=>kr
theorem ent217:ak prog 217:=λ_ _=>kr
theorem ent197:ak prog 197:=λ_ _=>kr
theorem ent165:ak prog 165:=λ_ _=>kr
theorem ent256:ak prog 256:=λ_ _=>kr
theorem ent164:ak prog 164:=λ_ _=>kr
theorem ent220:ak prog 220:=λ_ _=>kr
namespace Q6
attribute [local simp] a6 bj aH aB aP aZ aQ aI aM be bz a5 bv
attribute [local simp] pz cJ
abbrev cB(x:W12):Value:=aL (((fe (x.1.1).1++fe (x.1.1).2)++((fe (x.1.2.1).1++fe (x.1.2.1).2)++(fe (x.1.2.2).1++fe (x.1.2.2).2)))++((fe (x.2.1).1++fe (x.2.1).2)++((fe (x.2.2.1).1++fe (x.2.2.1).2)++(fe (x.2.2.2).1++fe (x.2.2.2).2))))
theorem zv211(w:World):(zeroValue 211).run prog w=.ok (aL (((fe 0++fe 0)++((fe 0++fe 0)++(fe 0++fe 0)))++((fe 0++fe 0)++((fe 0++fe 0)++(fe 0++fe 0))))) w:=by rw[i7];exact (zeroValue211 w).trans rr
theorem un:Two prog 211 ⟨ "C0",209,0,false, "", "",0⟩ ⟨ "C1",209,36,false, "", "",288⟩ 36 36 ((fe 0++fe 0)++((fe 0++fe 0)++(fe 0++fe 0))) ((fe 0++fe 0)++((fe 0++fe 0)++(fe 0++fe 0))):=⟨underlying211,rfl,rfl,sizeOf209,sizeOf209,zv211,sm,sm⟩
theorem e12{a b a' b':W6}(h1:a=a')(h2:b=b'):Ending.returned (cB (a,b))=.returned (cB (a',b')):=by rw[h1,h2]
theorem JR{x y:W12}(h:x.1=y.1):decide (x.2=y.2)=decide (x=y):=decide_eq_decide.2 ⟨λe=>Prod.ext h e,λe=>by rw[e]⟩
theorem Kg{x y:W12}(h: ¬x.1=y.1):false=decide (x=y):=(decide_eq_false λe=>h (by rw[e])).symm
def p12(x:W12):Nat->W2
 |0=>x.1.1
 |1=>x.2.1
 |2=>x.1.2.1
 |3=>x.2.2.1
 |4=>x.1.2.2
 |_=>x.2.2.2
def q12:Sh W12:=q6.two q6 6
theorem V12(x:W12):cB x=dn rid (.inl [x.1.1.1,x.1.1.2,x.1.2.1.1,x.1.2.1.2,x.1.2.2.1,x.1.2.2.2,x.2.1.1,x.2.1.2,x.2.2.1.1,x.2.2.1.2,x.2.2.2.1,x.2.2.2.2]):=by
 show Value.agg _=Value.agg _;rw[clv,show cel [x.1.1.1,x.1.1.2,x.1.2.1.1,x.1.2.1.2,x.1.2.2.1,x.1.2.2.2,x.2.1.1,x.2.1.2,x.2.2.1.1,x.2.2.1.2,x.2.2.2.1,x.2.2.2.2]=fe x.1.1.1++(fe x.1.1.2++(fe x.1.2.1.1++(fe x.1.2.1.2++(fe x.1.2.2.1++(fe x.1.2.2.2++(fe x.2.1.1++(fe x.2.1.2++(fe x.2.2.1.1++(fe x.2.2.1.2++(fe x.2.2.2.1++fe x.2.2.2.2))))))))))from O];simp only[List.append_assoc]
end Q6
end
section
open Go.RowKit
namespace Q6
attribute [local simp] a6 bj aH aB aP aZ aQ aI aM be bz a5 bv
attribute [local simp] pz cJ
theorem s9  :PUR 165 [] (cB K12.one):=(bU O (V12 _) (pE TO61 func165 [] (.inl (.inl [K12.one.1.1.1,K12.one.1.1.2,K12.one.1.2.1.1,K12.one.1.2.1.2,K12.one.1.2.2.1,K12.one.1.2.2.2,K12.one.2.1.1,K12.one.2.1.2,K12.one.2.2.1.1,K12.one.2.2.1.2,K12.one.2.2.2.1,K12.one.2.2.2.2])) (let t0:=K6.one;(.inl (.inl [t0.1.1,t0.1.2,t0.2.1.1,t0.2.1.2,t0.2.2.1,t0.2.2.2,0,0,0,0,0,0]),[])) [] kr aE O))
theorem Hb{f:Nat}{g:W12}(en:ak prog f)(h:PUR f [] (cB g)):Snd prog Gt f (c0 q12.rd g):=wc q12.rd en (bU O (V12 _).symm h)
def TO62:Tb prog Gt:=TO61.add (Hb (g:=K12.one) ent165 s9)
theorem qI(x y:W12):PUR 164 [cB x,cB y] (.bool (decide (x=y))):=by
 intro w hw;refine Hf func164 O hw<|λhGF=>Xp<|Bx 2 hGF O<|λb2=>Bx 3 hGF O<|λb3=>Asg O<|aa<|Xp<|Fa 0 O underlying211 O sizeOf209<|ay 2 _ O O isAgg209 sizeOf209 sm el O O<|Fa 0 O underlying211 O sizeOf209<|ay 3 _ O O isAgg209 sizeOf209 sm el O O<|?_;by_cases h:x.1=y.1
 ·refine Cbl true O ent202 (o9 _ _) (decide_eq_true h)<|Mv O<|Fa 36 O underlying211 O sizeOf209<|ay 2 _ O O isAgg209 sizeOf209 sm (jf sm) O O<|Fa 36 O underlying211 O sizeOf209<|ay 3 _ O O isAgg209 sizeOf209 sm (jf sm) O O<|Ca O (o9 _ _)<|Pk O O O<|Asg O<|aa<|am<|Rr<|?_
  exact aF O O (λw hw=>⟨rb (JR h),ac hw⟩)
 ·refine Cbl false O ent202 (o9 _ _) (decide_eq_false h)<|Mv O<|Sk<|Sk<|Sk<|Sk<|Sk<|Pk O O O<|Asg O<|aa<|am<|Rr<|?_
  exact aF O O (λw hw=>⟨rb (Kg h),ac hw⟩)
theorem jw{f:Nat}{g:W12->W12->Bool}(en:ak prog f)(h: ∀a b,PUR f [cB a,cB b] (.bool (g a b))):Snd prog Gt f (c2 q12.ag q12.ag rdB g):=gu q12.ag q12.ag rdB en (λa b=>bU (l2 (V12 _).symm (V12 _).symm) O (h a b))
def TO63:Tb prog Gt:=TO62.add (jw (g:=λx y=>decide (x=y)) ent164 qI)
theorem me{f:Nat}{g:W12->W12->W12}(en:ak prog f)(h: ∀a b,PUR f [cB a,cB b] (cB (g a b))):Snd prog Gt f (c2 q12.ag q12.ag q12.rd g):=gu q12.ag q12.ag q12.rd en (λa b=>bU (l2 (V12 _).symm (V12 _).symm) (V12 _).symm (h a b))
theorem Ap(x:W12):PUR 201 [cB x] (cB (da x)):=(bU (l1 (V12 _)) (V12 _) (pE TO63 func201 [.inl [x.1.1.1,x.1.1.2,x.1.2.1.1,x.1.2.1.2,x.1.2.2.1,x.1.2.2.2,x.2.1.1,x.2.1.2,x.2.2.1.1,x.2.2.1.2,x.2.2.2.1,x.2.2.2.2]] (.inl (.inl [(da x).1.1.1,(da x).1.1.2,(da x).1.2.1.1,(da x).1.2.1.2,(da x).1.2.2.1,(da x).1.2.2.2,(da x).2.1.1,(da x).2.1.2,(da x).2.2.1.1,(da x).2.2.1.2,(da x).2.2.2.1,(da x).2.2.2.2])) (let t0:=K6.neg ((x.2.1.1,x.2.1.2),(x.2.2.1.1,x.2.2.1.2),(x.2.2.2.1,x.2.2.2.2));(.inl (.inl [x.1.1.1,x.1.1.2,x.1.2.1.1,x.1.2.1.2,x.1.2.2.1,x.1.2.2.2,t0.1.1,t0.1.2,t0.2.1.1,t0.2.1.2,t0.2.2.1,t0.2.2.2]),[])) [] kr aE O))
theorem ej{f:Nat}{g:W12->W12}(en:ak prog f)(h: ∀a,PUR f [cB a] (cB (g a))):Snd prog Gt f (c1 q12.ag q12.rd g):=gt q12.ag q12.rd en (λa=>bU (l1 (V12 _).symm) (V12 _).symm (h a))
theorem DL(x y:W12):PUR 218 [cB x,cB y] (cB (K12.mul x y)):=by
 intro w hw;refine Hf func218 O hw<|λhGF=>Xp<|Bx 2 hGF O<|λb2=>Bx 3 hGF O<|λb3=>Al 4 hGF zv211<|λb4=>aa<|fH (E:=EE [2999999]) [0,1,2,3,4,5,6,7,8,9] [⟨10,5,209,((fe 0++fe 0)++((fe 0++fe 0)++(fe 0++fe 0))).map U64⟩,⟨11,6,209,((fe 0++fe 0)++((fe 0++fe 0)++(fe 0++fe 0))).map U64⟩] [12,13] cT O kr kr kr kr kr kr dc (by intro x hx;simp only[List.mem_cons,List.not_mem_nil,or_false]at hx;rcases hx with rfl|rfl<;>exact bE O zv209 O)<|Fa 0 O underlying211 O sizeOf209<|ay 2 _ O O isAgg209 sizeOf209 sm el O O<|Fa 0 O underlying211 O sizeOf209<|ay 3 _ O O isAgg209 sizeOf209 sm el O O<|Ca O (mQ _ _)<|Fa 36 O underlying211 O sizeOf209<|ay 2 _ O O isAgg209 sizeOf209 sm (jf sm) O O<|Fa 36 O underlying211 O sizeOf209<|ay 3 _ O O isAgg209 sizeOf209 sm (jf sm) O O<|Ca O (mQ _ _)<|aa<|?_
 refine ⟨_,_,rfl,hGF,by intro x hx;simp only[List.mem_cons,List.not_mem_nil,or_false]at hx;rcases hx with rfl|rfl<;>rfl,by intro x hx;simp only[List.mem_cons,List.not_mem_nil,or_false]at hx;rcases hx with rfl|rfl<;>rfl,λadr=> ?_⟩
 refine Sa 5 hGF O O O dr<|Sa 6 hGF O O O dr<|aa<|Xa [0,1,2,3,4,5,6,7,8,9,10] ⟨11,7,209,((fe 0++fe 0)++((fe 0++fe 0)++(fe 0++fe 0))).map U64⟩ [12] (bE O zv209 O)<|Fa 0 O underlying211 O sizeOf209<|ay 2 _ O O isAgg209 sizeOf209 sm el O O<|Fa 36 O underlying211 O sizeOf209<|ay 2 _ O O isAgg209 sizeOf209 sm (jf sm) O O<|Ca O (n7 _ _)<|Fa 0 O underlying211 O sizeOf209<|ay 3 _ O O isAgg209 sizeOf209 sm el O O<|Fa 36 O underlying211 O sizeOf209<|ay 3 _ O O isAgg209 sizeOf209 sm (jf sm) O O<|Ca O (n7 _ _)<|Ca O (mQ _ _)<|aa<|?_;refine ⟨_,_,rfl,hGF,by intro x hx;simp only[List.mem_cons,List.not_mem_nil,or_false]at hx;subst hx;rfl,by intro x hx;simp only[List.mem_cons,List.not_mem_nil,or_false]at hx;subst hx;rfl,λadr=> ?_⟩
 refine Sa 7 hGF O O O dr<|aa<|Xd []<|La 5 O O dr<|La 6 O O dr<|Ca O (k6v _)<|Ca O (n7 _ _)<|La 7 O O dr<|La 5 O O dr<|Ca O (pH _ _)<|La 6 O O dr<|Ca O (pH _ _)<|co un O O sm sm O O<|Sa 4 hGF O O O gR<|aa<|am<|Rr<|?_;exact av 4 O O O isAgg211 sizeOf211 sm (λw hw=>⟨e12 (zq K6 [x.1,x.2,y.1,y.2,VV] (ta (tm j0 j2) (tvv 4 (tm j1 j3) O)) (ta (tm j0 j2) (tm j4 (tm j1 j3)))) (zq K6 [x.1,x.2,y.1,y.2,VV] (HA (HA (tm (ta j0 j1) (ta j2 j3)) (tm j0 j2)) (tm j1 j3)) (ta (tm j0 j3) (tm j1 j2))),ac hw⟩)
theorem nL(x:W12):PUR 197 [cB x] (cB (K12.mul x x)):=by
 intro w hw;refine Hf func197 O hw<|λhGF=>Xp<|Bx 1 hGF O<|λb1=>Al 2 hGF zv211<|λb2=>aa<|Xp<|Fa 0 O underlying211 O sizeOf209<|ay 1 _ O O isAgg209 sizeOf209 sm el O O<|Fa 36 O underlying211 O sizeOf209<|ay 1 _ O O isAgg209 sizeOf209 sm (jf sm) O O<|Ca O (mQ _ _)<|Al 3 hGF zv209<|λb3=>Sa 3 hGF O O O dr<|aa<|Xa [0,1,2,3,4,5,6,7,8,9,10,11] ⟨12,4,209,((fe 0++fe 0)++((fe 0++fe 0)++(fe 0++fe 0))).map U64⟩ [13] (bE O zv209 O)<|Fa 0 O underlying211 O sizeOf209<|ay 1 _ O O isAgg209 sizeOf209 sm el O O<|Fa 36 O underlying211 O sizeOf209<|ay 1 _ O O isAgg209 sizeOf209 sm (jf sm) O O<|Ca O (n7 _ _)<|Fa 0 O underlying211 O sizeOf209<|ay 1 _ O O isAgg209 sizeOf209 sm el O O<|Fa 36 O underlying211 O sizeOf209<|ay 1 _ O O isAgg209 sizeOf209 sm (jf sm) O O<|Ca O (k6v _)<|Ca O (n7 _ _)<|Ca O (mQ _ _)<|aa<|?_;refine ⟨_,_,rfl,hGF,by intro x hx;simp only[List.mem_cons,List.not_mem_nil,or_false]at hx;subst hx;rfl,by intro x hx;simp only[List.mem_cons,List.not_mem_nil,or_false]at hx;subst hx;rfl,λadr=> ?_⟩
 refine Sa 4 hGF O O O dr<|aa<|Xd []<|La 4 O O dr<|La 3 O O dr<|Ca O (pH _ _)<|La 3 O O dr<|Ca O (k6v _)<|Ca O (pH _ _)<|La 3 O O dr<|La 3 O O dr<|Ca O (n7 _ _)<|co un O O sm sm O O<|Sa 2 hGF O O O gR<|aa<|am<|Rr<|?_;exact av 2 O O O isAgg211 sizeOf211 sm (λw hw=>⟨e12 (zq K6 [x.1,x.2,VV] (HA (HA (tm (ta j0 j1) (ta j0 (tvv 2 j1 O))) (tm j0 j1)) (tvv 2 (tm j0 j1) O)) (ta (tm j0 j0) (tm j2 (tm j1 j1)))) (zq K6 [x.1,x.2,VV] (ta (tm j0 j1) (tm j0 j1)) (ta (tm j0 j1) (tm j1 j0))),ac hw⟩)
theorem SZ(x:W12):sb6 (K6.mul x.1 x.1) (v6 (K6.mul x.2 x.2))=qnm K6 VV x:=zq K6 [x.1,x.2,VV] (HA (tm j0 j0) (tvv 2 (tm j1 j1) O)) (ta (tm j0 j0) (tn (tm j2 (tm j1 j1))))
theorem Yp(x:W12)(n:W6):K6.mul x.1 n=K6.add (K6.mul x.1 n) (K6.mul VV (K6.mul (K6.neg x.2) K6.zero)):=zq K6 [x.1,x.2,n,VV] (tm j0 j2) (ta (tm j0 j2) (tm j3 (tm (tn j1) tz0)))
theorem Xl(x:W12)(n:W6):K6.neg (K6.mul x.2 n)=K6.add (K6.mul x.1 K6.zero) (K6.mul (K6.neg x.2) n):=zq K6 [x.1,x.2,n] (tn (tm j1 j2)) (ta (tm j0 tz0) (tm (tn j1) j2))
theorem Ov(x:W12):PUR 220 [cB x] (cB (re x)):=by
 intro w hw;refine Hf func220 O hw<|λhGF=>Xp<|Bx 1 hGF O<|λb1=>Al 2 hGF zv211<|λb2=>aa<|Xa [0,1,2,3,4,5,6,7] ⟨8,3,209,((fe 0++fe 0)++((fe 0++fe 0)++(fe 0++fe 0))).map U64⟩ [9] (bE O zv209 O)<|Fa 0 O underlying211 O sizeOf209<|ay 1 _ O O isAgg209 sizeOf209 sm el O O<|Ca O (nf _)<|Fa 36 O underlying211 O sizeOf209<|ay 1 _ O O isAgg209 sizeOf209 sm (jf sm) O O<|Ca O (nf _)<|Ca O (k6v _)<|Ca O (pH _ _)<|aa<|?_;refine ⟨_,_,rfl,hGF,by intro x hx;simp only[List.mem_cons,List.not_mem_nil,or_false]at hx;subst hx;rfl,by intro x hx;simp only[List.mem_cons,List.not_mem_nil,or_false]at hx;subst hx;rfl,λadr=> ?_⟩
 refine Sa 3 hGF O O O dr<|aa<|Xp<|La 3 O O dr<|Ca O (GZ _)<|Al 4 hGF zv209<|λb4=>Sa 4 hGF O O O dr<|aa<|Xd []<|Fa 0 O underlying211 O sizeOf209<|ay 1 _ O O isAgg209 sizeOf209 sm el O O<|La 4 O O dr<|Ca O (mQ _ _)<|Fa 36 O underlying211 O sizeOf209<|ay 1 _ O O isAgg209 sizeOf209 sm (jf sm) O O<|La 4 O O dr<|Ca O (mQ _ _)<|Ca O (G3 _)<|co un O O sm sm O O<|Sa 2 hGF O O O gR<|aa<|am<|Rr<|?_;exact av 2 O O O isAgg211 sizeOf211 sm (λw hw=>⟨by rw[SZ];exact e12 (Yp _ _) (Xl _ _),ac hw⟩)
end Q6
end
def GV:Nat->W2
 |0=>on2
 |n+1=>ml2 (cj2 (GV n)) GA
theorem TX:cj2 on2=on2:=by decide+kernel
theorem HQ(y:W2): ∀k,cj2 (pw2 y k)=pw2 (cj2 y) k
 |0=>TX
 |k+1=>by rw[nZ,iz,HQ y k,nZ]
theorem yL(a b:W2)(k:Nat):ml2 (pw2 a k) (pw2 b k)=pw2 (ml2 a b) k:=(R2.mul_pw a b k).symm
def frq(c:W2)(n k:Nat):W2:=ml2 (cjn n c) (pw2 (GV n) k)
theorem sB(c:W2)(n k:Nat):ml2 (cj2 (frq c n k)) (pw2 GA k)=frq c (n+1) k:=by
 rw[frq,iz,U1,zC,HQ,yL];rfl
theorem rU(c:W2)(k:Nat):frq c 0 k=c:=by
 have e:pw2 (GV 0) k=on2:=R2.one_pw k;rw[frq,e];exact R2.mul_one c
theorem z9(x:W12): ∀n,qc x n=((frq x.1.1 n 0,frq x.1.2.1 n 2,frq x.1.2.2 n 4),(frq x.2.1 n 1,frq x.2.2.1 n 3,frq x.2.2.2 n 5))
 |0=>by rw[rU,rU,rU,rU,rU,rU];rfl
 |n+1=>by
  rw[qc,z9 x n];exact Prod.ext (Prod.ext (sB _ _ _) (Prod.ext (sB _ _ _) (sB _ _ _))) (Prod.ext (sB _ _ _) (Prod.ext (sB _ _ _) (sB _ _ _)))
/-! ### The sixth root, as numbers -/
def sxh:Nat:=(sx-1) / 2
def CNn:Nat:=151655185184498381465642749684540099398075398968325446656007613510403227271200139370504932015952886146304766135027
theorem AF:2*sxh+1=sx:=by decide+kernel
theorem EQ:4*(sxh / 4)+3=sxh:=by decide+kernel
theorem Se(c:Zp):pw2 (0,c) sxh=(0,-(c^sxh)):=by
 have h:=UR c (sxh / 4);rw[EQ]at h;exact h
theorem OK:pm 2 PP (64*6) sxh+CNn=PP:=by decide+kernel
theorem Qu: -(zp 2^sxh)=zp CNn:=tL (by
 rw[zO 2 sxh (64*6) (HT eh (by have:=sx_val;have:=AF;have:=mf;omega)),<-f8,OK,mt])
theorem Du:GA=(-(zp CNn),zp CNn):=by
 have e:pw2 XI sx=ml2 (pw2 (pw2 XI 2) sxh) XI:=by rw[<-zS,<-AF];rfl
 rw[GA,e,Wn,Se,Qu];generalize zp CNn=a;refine bT ?_ ?_
 ·show 0*1-a*1= -a
  rw[rL,rL,Y5]
 ·show 0*1+a*1=a
  rw[rL,rL,Vv]
theorem Oa(x:W12): ∀n,K12.pw x (PP^n)=qc x n
 |0=>by rw[Nat.pow_zero,K12.pw_one];rfl
 |n+1=>by rw[Nat.pow_succ,K12.pw_mul,Oa x n,tR];rfl
theorem D0(x:W12):K12.pw x (PP^6)=da x:=(Oa x 6).trans (mU x)
theorem RD{x:W12}(h:x≠K12.zero){n:Nat}(e:K12.pw x (n+1)=x):K12.pw x n=K12.one:=by
 have k:K12.mul (K12.mul (K12.pw x n) x) (re x)=K12.mul x (re x):=congrArg (λy=>K12.mul y (re x)) e;rw[K12.mul_assoc,Ga h,K12.mul_one]at k;exact k
theorem Tu{x:W12}{m n:Nat}(h:K12.pw x m=K12.one)(hd:n % m=0):K12.pw x n=K12.one:=by
 have e:n=m*(n / m):=by have:=Nat.div_add_mod n m;omega
 rw[e,K12.pw_mul,h,K12.one_pw]
theorem N6_s:PP^6-1+1=PP^6:=by decide+kernel
theorem Uj{z:W6}(h:z≠K6.zero):K12.pw (r6 z) (PP^6-1)=K12.one:=
 RD (λe=>h (To e)) (by rw[N6_s,D0];exact Prod.ext O K6.neg_zero)
/-! ### As the reference reckons it -/
def tnd(u:Nat)(x:W12):W12:=da (K12.pw x u)
def fi1(x:W12):W12:=K12.mul (da x) (re x)
def fi2(x:W12):W12:=K12.mul (d8 (d8 x)) x
def fi3(u:Nat)(x:W12):W12:=K12.mul (tnd u x) (da x)
def fi4(u:Nat)(x:W12):W12:=K12.mul (tnd u x) (d8 x)
def fi5(u:Nat)(x:W12):W12:=K12.mul (K12.mul (tnd u (tnd u x)) (d8 (d8 x))) (da x)
def fi6(u:Nat)(x:W12):W12:=K12.mul (K12.mul (K12.mul (fi5 u (fi4 u (fi3 u (fi3 u x)))) x) x) x
def xI(u:Nat)(x:W12):W12:=fi6 u (fi2 (fi1 x))
section
variable {u p2 p6 n:Nat} (h2: ∀x,d8 (d8 x)=K12.pw x p2) (h6: ∀x,da x=K12.pw x p6)
end
def FN(e:Nat)(x:W12):W12:=K12.pw x e
section
variable {e:Nat}
theorem RI(x y:W12):FN e (K12.mul x y)=K12.mul (FN e x) (FN e y):=K12.mul_pw x y e
theorem Vs(h6:e % (PP^6-1)=0){z:W6}(h:z≠K6.zero):FN e (r6 z)=K12.one:=Tu (Uj h) h6
end
/-! ### Upright lines -/
section
variable {α β:Type} {C:Ec α} {D:Ec β} (T:Hw C D)
theorem Hw.ln(a p:α×α)(s:α):D.ln (T.m a) (D.R.mul T.w (T.f s)) (T.m p)=D.R.mul (D.R.mul T.w (D.R.mul T.w T.w)) (T.f (C.ln a s p)):=by
 unfold Ec.ln;rw[T.fs,T.fs,T.fm,T.fs];exact zx D.R [T.w,T.f a.1,T.f a.2,T.f s,T.f p.1,T.f p.2] 0x44556566b355656683556945566a355667 0x55656644b383594a37
theorem Hw.gl [DecidableEq α] [DecidableEq β]{A B P:Pt α}(hA:C.onP A)(hB:C.onP B){F:β->β}(hF: ∀a b,F (D.R.mul a b)=D.R.mul (F a) (F b))(hw:F (D.R.mul T.w (D.R.mul T.w T.w))=D.R.one):F (D.gl (T.p A) (T.p B) (T.p P))=F (T.f (C.gl A B P)):=by
 cases A with
 |none=>rw[C.gl_l,T.f1];rfl
 |some a=>
  cases B with
  |none=>rw[C.gl_m,T.f1];rfl
  |some b=>
   cases P with
   |none=>rw[C.gl_r,T.f1];rfl
   |some p=>
    by_cases ho:C.opp a b
    ·rw[C.gl_opp ho,T.f1]
     exact congrArg F (D.gl_opp (T.opp.2 ho) _)
    ·have hs:=C.sl_slope hA hB ho
     rw[C.gl_sl hA hB ho hs];refine (congrArg F (D.gl_sl (T.m_on hA) (T.m_on hB) (λh=>ho (T.opp.1 h)) (T.sl hs) (T.m p))).trans ?_;rw[T.ln,hF,hw,D.R.one_mul]
theorem Rg.last{α:Type}(R:Rg α){a b k c h k':α}(x:R.mul (R.mul a b) k=R.mul c h)(y:R.mul k' k=R.one)(z:R.mul h k'=R.one):R.mul a b=c:=
 zl R [a,b,k,c,h,k'] 0x567 0x445b59a535672592 0x9 0x445b55678535675b8595ab (lca (lca (lcm x) (lcm y)) (lcm z))
end
/-! ### The power of p, as a map of the curve -/
/-! ### The loop's value -/
section
variable {e:Nat} (h6:e % (PP^6-1)=0) (hr:e*ORD % (PP^12-1)=0) (he:e-1+1=e)
end
def LN(r:W2×W2)(s:W2)(q:Zp×Zp):W12:=((sb2 (ml2 s r.1) r.2,ng2 (ml2 s (re2 q.1)),ze2),(ze2,re2 q.2,ze2))
theorem n0:ng2 ze2=ze2:=R2.neg_zero
theorem a0(x:W2):ad2 x ze2=x:=R2.add_zero x
theorem l0(x:W2):ad2 ze2 x=x:=R2.zero_add x
def LG(a b:Pt W2)(q:Zp×Zp):W12:=match a,b with
 |some a,some b=>if a.1=b.1/\ad2 a.2 b.2=ze2 then K12.one else LN a (E2w.slope a b) q
 |_,_=>K12.one
def MSW(q:Zp×Zp)(Q:Pt W2)(d:Bool)(st:W12×Pt W2):W12×Pt W2:=
 if d then (K12.mul (K12.mul (K12.mul st.1 st.1) (LG st.2 st.2 q)) (LG (E2w.ad st.2 st.2) Q q),E2w.ad (E2w.ad st.2 st.2) Q)else (K12.mul (K12.mul st.1 st.1) (LG st.2 st.2 q),E2w.ad st.2 st.2)
def MLW(q:Zp×Zp)(Q:Pt W2):List Bool->W12×Pt W2->W12×Pt W2
 |[],st=>st
 |d::r,st=>MLW q Q r (MSW q Q d st)
section
set_option maxRecDepth 1000000
def L63:List Bool:=(List.range 63).map λi=>(0x5201000000010000:Nat).testBit (62-i)
theorem WU:jF L63 1=UG:=by decide+kernel
/-! ### The power -/
end
section
variable {e:Nat} {l:List Bool}
end
/-! ### The generators' -/
section
variable {α:Type} (C:Ec α)
def Ec.t3(x:α):α:=C.R.add (C.R.add (C.R.mul x x) (C.R.mul x x)) (C.R.mul x x)
def Ec.wdL(J:α×α×α):α×α×α:=(C.sub (C.R.mul (C.t3 J.1) J.1) (C.R.mul (C.R.add J.2.1 J.2.1) J.2.1),C.R.mul (C.t3 J.1) (C.R.mul J.2.2 J.2.2),C.R.mul (C.R.mul J.2.2 (C.R.add J.2.1 J.2.1)) (C.R.mul J.2.2 J.2.2))
def Ec.wdJ(J:α×α×α):α×α×α:=
 let u:=C.t3 J.1
 let d:=C.R.mul (C.R.add J.2.1 J.2.1) J.2.1
 let h:=C.R.add d d
 let b:=C.R.mul h J.1
 let X:=C.sub (C.sub (C.R.mul u u) b) b
 (X,C.sub (C.R.mul u (C.sub b X)) (C.R.mul h d),C.R.mul J.2.2 (C.R.add J.2.1 J.2.1))
def Ec.wjU(J:α×α×α)(q:α×α):α:=C.sub (C.R.mul (C.R.mul q.2 (C.R.mul J.2.2 J.2.2)) J.2.2) J.2.1
def Ec.wjA(J:α×α×α)(q:α×α):α:=C.sub (C.R.mul q.1 (C.R.mul J.2.2 J.2.2)) J.1
def Ec.wjL(J:α×α×α)(q:α×α):α×α×α:=(C.sub (C.R.mul (C.wjU J q) q.1) (C.R.mul (C.R.mul J.2.2 (C.wjA J q)) q.2),C.wjU J q,C.R.mul J.2.2 (C.wjA J q))
def Ec.wjJ(J:α×α×α)(q:α×α):α×α×α:=
 let u:=C.wjU J q
 let a:=C.wjA J q
 let s:=C.R.mul a a
 let t:=C.R.mul s a
 let b:=C.R.mul s J.1
 let X:=C.sub (C.sub (C.sub (C.R.mul u u) t) b) b
 (X,C.sub (C.R.mul u (C.sub b X)) (C.R.mul t J.2.1),C.R.mul J.2.2 a)
end
section
variable {α:Type} [DecidableEq α] (C:Ec α)
end
end Go.Proofs.YtjookodjbjabbaaGreatDoor
