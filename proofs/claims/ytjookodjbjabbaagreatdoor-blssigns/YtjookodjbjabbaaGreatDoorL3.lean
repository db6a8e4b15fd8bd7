/- L3 -/
import Derived.Test.YtjookodjbjabbaaGreatDoorL2
set_option maxRecDepth 100000
set_option maxHeartbeats 1000000
namespace Go.Proofs.YtjookodjbjabbaaGreatDoor
open Go.Proofs.Tryz
section
open Go.RowKit
attribute [local simp] a6 bj aH aB aP aZ aQ aJ aM be bz a5 bv J1.bB J2.bB cb ff
def X1(bs:L8):Zp:=zp (BN (LO bs 0) 48)
def X2(bs:L8):W2:=(zp (BN (LO bs 48) 48),zp (BN (LO bs 0) 48))
def LB(bs:L8):Bool:=FG bs &&& 32#8 !=0#8
def NY{α:Type}(z:α)(inG:Option (α×α)->Prop)(l:Bool)(x y:α)(c:Int)(P:Option (α×α)):Prop:=
 ((l=true/\y=z)/\c=103/\P=none)\/(¬(l=true/\y=z)/\((¬inG (some (x,y))/\c=104/\P=none)\/(inG (some (x,y))/\c=0/\P=some (x,y))))
def FLG(bs:L8)(n:Nat){α:Type}(c:Int)(P:Option α)(R:Prop):Prop:=
 (¬bs.length=n/\c=100/\P=none)\/(bs.length=n/\((FG bs &&& 128#8=0#8/\c=101/\P=none)\/(¬FG bs &&& 128#8=0#8/\((¬FG bs &&& 64#8=0#8/\c=INF bs n/\P=none)\/(FG bs &&& 64#8=0#8/\R)))))
def D1(bs:L8)(c:Int)(P:Pt Zp):Prop:=FLG bs 48 c P ((¬BN (LO bs 0) 48<PP/\c=102/\P=none)\/(BN (LO bs 0) 48<PP/\
 ((¬J1.LQ (X1 bs)/\c=103/\P=none)\/(J1.LQ (X1 bs)/\NY 0 (λQ=>E1.times Q ORD=none) (LB bs) (X1 bs) (J1.LY (X1 bs) (LB bs)) c P))))
def D2(bs:L8)(c:Int)(P:Pt W2):Prop:=FLG bs 96 c P ((¬(BN (LO bs 48) 48<PP/\BN (LO bs 0) 48<PP)/\c=102/\P=none)\/((BN (LO bs 48) 48<PP/\BN (LO bs 0) 48<PP)/\
 ((¬J2.LQ (X2 bs)/\c=103/\P=none)\/(∃r,ml2 r r=J2.RS4 (X2 bs)/\LG2 r=false/\NY ze2 (λQ=>E2w.times Q ORD=none) (LB bs) (X2 bs) (J2.sgY r (LB bs)) c P))))
theorem yz1{y:Zp}:((y,0):W2)=ze2↔y=0:=⟨λh=>congrArg Prod.fst h,λh=>by rw[h];rfl⟩
end
theorem bv_a: ∀b:BitVec 8,b &&& 224#8=0#8->(b|||128#8) &&& 31#8=b/\((b|||128#8)|||32#8) &&& 31#8=b/\¬((b|||128#8) &&& 224#8) &&& 128#8=0#8/\¬(((b|||128#8)|||32#8) &&& 224#8) &&& 128#8=0#8/\((b|||128#8) &&& 224#8) &&& 64#8=0#8/\(((b|||128#8)|||32#8) &&& 224#8) &&& 64#8=0#8/\((b|||128#8) &&& 224#8) &&& 32#8=0#8/\¬(((b|||128#8)|||32#8) &&& 224#8) &&& 32#8=0#8:=by decide+kernel
def ENF(B:L8)(l:Bool):L8:=if l=true then OR0 (OR0 B 128#8) 32#8 else OR0 B 128#8
theorem aaj(b:BitVec 8)(r:L8):MK (b::r)=(b &&& 31#8)::r:=rfl
theorem DK(b:BitVec 8)(r:L8):FG (b::r)=b &&& 224#8:=rfl
theorem CS(b:BitVec 8)(r:L8):ENF (b::r) true=((b|||128#8)|||32#8)::r:=rfl
theorem Bq(b:BitVec 8)(r:L8):ENF (b::r) false=(b|||128#8)::r:=rfl
theorem pn(B:L8)(l:Bool):(ENF B l).length=B.length:=by
 cases l<;>simp[ENF,ff]
structure Top(B:L8):Prop where
 ne:0<B.length
 lt:B.getD 0 0 &&& 224#8=0#8
theorem Cr{B:L8}(h:Top B)(l:Bool):MK (ENF B l)=B/\¬FG (ENF B l) &&& 128#8=0#8/\FG (ENF B l) &&& 64#8=0#8/\LB (ENF B l)=l:=by
 cases B with
 |nil=>exact absurd h.ne dc
 |cons b r=>
  obtain ⟨h1,h2,h3,h4,h5,h6,h7,h8⟩:=bv_a b h.lt
  cases l with
  |true=>exact ⟨by rw[CS,aaj,h2],by rw[CS,DK];exact h4,by rw[CS,DK];exact h6,by rw[LB,CS,DK];exact bne_iff_ne.2 h8⟩
  |false=>exact ⟨by rw[Bq,aaj,h1],by rw[Bq,DK];exact h3,by rw[Bq,DK];exact h5,by rw[LB,Bq,DK];exact bne_eq_false_iff_eq.2 h7⟩
/-! ### Numbers below p have noughts there -/
theorem HS(bs:L8): ∀n,(bs.getD 0 0).toNat*256^n<=BN bs (n+1)
 |0=>by rw[BN,BN];omega
 |n+1=>by
  have:=HS bs n;rw[BN,Nat.pow_succ];generalize 256^n=p at*;generalize BN bs (n+1)=q at*;generalize (bs.getD 0 0).toNat=t at*;have:t*(p*256)=t*p*256:=by rw[Nat.mul_assoc]
  omega
theorem Rp:PP<32*256^47:=by decide+kernel
theorem bv_t: ∀b:BitVec 8,b.toNat<32->b &&& 224#8=0#8:=by decide+kernel
theorem SM{bs:L8}(h:bs.length=48)(hl:BN bs 48<PP):Top bs:=by
 refine ⟨om,bv_t _ ?_⟩;have h1:=HS bs 47;have h2:=Rp;generalize (bs.getD 0 0).toNat=t at*;have h3:t*256^47<32*256^47:=Nat.lt_of_le_of_lt h1 (Nat.lt_trans hl h2);exact Nat.lt_of_mul_lt_mul_right h3
theorem pt(x:Zp):BN (cJ x) 48<PP:=by rw[CU];exact x.isLt
theorem wM(x:Zp):Top (cJ x):=SM (aM x) (pt x)
theorem vq(x:Zp):zp (BN (cJ x) 48)=x:=by
 rw[CU];exact td x
def EN1:Pt Zp->L8
 |none=>(List.replicate 48 0#8).set 0 192#8
 |some p=>ENF (cJ p.1) (LG2 (p.2,0))
def EN2:Pt W2->L8
 |none=>(List.replicate 96 0#8).set 0 192#8
 |some p=>ENF (cJ p.1.2++cJ p.1.1) (LG2 p.2)
theorem NT(x y:Zp):EN1 (some (x,y))=ENF (cJ x) (LG2 (y,0)):=rfl
theorem Ph(x y:W2):EN2 (some (x,y))=ENF (cJ x.2++cJ x.1) (LG2 y):=rfl
theorem aaV(y:Zp):ng2 (y,0)=(-y,0):=bI O (by show-(0:Zp)=0;exact z_n0')
theorem KQ{y:Zp}(h:y≠0):LG2 (-y,0)= !LG2 (y,0):=by
 rw[<-aaV];exact pq (λe=>h (yz1.1 e))
/-! ### Roots -/
theorem N0{x y:Zp}(h:y*y=J1.RS4 x):J1.LQ x:=by
 show SQr (J1.RS4 x)*SQr (J1.RS4 x)=J1.RS4 x;rw[<-h];exact y5 y
theorem Zb{x y:Zp}(h:y*y=J1.RS4 x):J1.LY x (LG2 (y,0))=y:=by
 have hq:=N0 h;have s:=aas y;have sm:LG2 (SQ (J1.RS4 x),0)=false:=Oo (ld hq);rw[h]at s
 cases hl:LG2 (y,0)with
 |false=>
  rw[J1.WP hq];generalize SQ (J1.RS4 x)=t at*;rcases s with e|e
  ·exact e
  ·by_cases h0:y=0
   ·rw[e,h0];exact z_n0'
   ·rw[e,KQ h0,hl]at sm;cases sm
 |true=>
  rw[J1.Vz hq];generalize SQ (J1.RS4 x)=t at*;rcases s with e|e
  ·rw[e,hl]at sm;cases sm
  ·rw[e];exact J1.J6 y
theorem Zw{x y:W2}(h:ml2 y y=J2.RS4 x): ∃r,ml2 r r=J2.RS4 x/\LG2 r=false/\J2.sgY r (LG2 y)=y:=by
 cases hl:LG2 y with
 |false=>exact ⟨y,h,hl,rfl⟩
 |true=>
  have h0:y≠ze2:=λe=>by rw[e,vo]at hl;cases hl
  exact ⟨ng2 y,(J2.OX y).trans h,by rw[pq h0,hl];rfl,R2.neg_neg y⟩
/-! ### Written and read -/
theorem Kv{bs:L8}(h:bs.length=48):LO bs 0=MK bs:=by
 rw[LO,List.drop_zero];exact List.take_of_length_le (by rw[cb];omega)
theorem Vi{x y:Zp}(on:E1.on (x,y)){c:Int}{Q:Pt Zp}(h:NY 0 (λQ=>E1.times Q ORD=none) (LG2 (y,0)) x y c Q):D1 (EN1 (some (x,y))) c Q:=by
 have hy:=J1.oG.1 on;obtain ⟨m,f,s,l⟩:=Cr (wM x) (LG2 (y,0));have hlen:(EN1 (some (x,y))).length=48:=(pn _ _).trans (aM x);have lo:LO (EN1 (some (x,y))) 0=cJ x:=(Kv hlen).trans m;have ex:X1 (EN1 (some (x,y)))=x:=by rw[X1,lo,vq]
 refine .inr ⟨hlen,.inr ⟨f,.inr ⟨s,.inr ⟨by rw[lo];exact pt x,.inr ?_⟩⟩⟩⟩
 rw[ex,show LB (EN1 (some (x,y)))=LG2 (y,0)from l,Zb hy];exact ⟨N0 hy,h⟩
theorem LO_2{a b:L8}{bs:L8}(ha:a.length=48)(hb:b.length=48)(h:MK bs=a++b):LO bs 0=a/\LO bs 48=b:=by
 rw[LO,LO,h,List.drop_zero];exact ⟨List.take_left' ha,by rw[List.drop_left' ha];exact List.take_of_length_le om⟩
theorem KV{a b:L8}(h:Top a):Top (a++b):=by
 cases a with
 |nil=>exact absurd h.ne dc
 |cons x r=>exact ⟨sm,h.lt⟩
theorem UM{x y:W2}(on:E2w.on (x,y)){c:Int}{Q:Pt W2}(h:NY ze2 (λQ=>E2w.times Q ORD=none) (LG2 y) x y c Q):D2 (EN2 (some (x,y))) c Q:=by
 have hy:=J2.oG.1 on;obtain ⟨m,f,s,l⟩:=Cr (KV (b:=cJ x.1) (wM x.2)) (LG2 y);have hlen:(EN2 (some (x,y))).length=96:=(pn _ _).trans (by rw[List.length_append,aM,aM])
 obtain ⟨l0,l48⟩:=LO_2 (bs:=EN2 (some (x,y))) (aM x.2) (aM x.1) m;have ex:X2 (EN2 (some (x,y)))=x:=by rw[X2,l0,l48,vq,vq]
 obtain ⟨r,hr,hs,e⟩:=Zw hy;refine .inr ⟨hlen,.inr ⟨f,.inr ⟨s,.inr ⟨by rw[l0,l48];exact ⟨pt _,pt _⟩,.inr ⟨r, ?_⟩⟩⟩⟩⟩
 rw[ex,show LB (EN2 (some (x,y)))=LG2 y from l,e];exact ⟨hr,hs,h⟩
theorem Ko:D1 (EN1 none) 0 none:=.inr ⟨dc,.inr ⟨dc,.inl ⟨dc,by decide+kernel,rfl⟩⟩⟩
theorem Li:D2 (EN2 none) 0 none:=.inr ⟨dc,.inr ⟨dc,.inl ⟨dc,by decide+kernel,rfl⟩⟩⟩
theorem OG{α:Type}{z:α}{inG:Option (α×α)->Prop}{l:Bool}{x y:α}(h: ¬(l=true/\y=z))(g:inG (some (x,y))):NY z inG l x y 0 (some (x,y)):=.inr ⟨h,.inr ⟨g,rfl,rfl⟩⟩
theorem UF{y:Zp}: ¬(LG2 (y,0)=true/\y=0):=λ⟨h,e⟩=>by
 rw[e,show ((0,0):W2)=ze2 from O,vo]at h;cases h
theorem Up{y:W2}: ¬(LG2 y=true/\y=ze2):=λ⟨h,e⟩=>by
 rw[e,vo]at h;cases h
theorem rK{P:Pt Zp}(on:E1.onP P)(g:E1.times P ORD=none):D1 (EN1 P) 0 P:=by
 cases P with
 |none=>exact Ko
 |some p=>exact Vi (x:=p.1) (y:=p.2) on (OG UF g)
theorem aaL{P:Pt W2}(on:E2w.onP P)(g:E2w.times P ORD=none):D2 (EN2 P) 0 P:=by
 cases P with
 |none=>exact Li
 |some p=>exact UM (x:=p.1) (y:=p.2) on (OG Up g)
section
open Go.RowKit
attribute [local simp] a6 bj aH aB aP aZ aQ aJ aM be bz a5 bv J1.bB J2.bB cb ff
theorem qU(xs:L8)(a1:Option Addr)(len1 cap1:Nat)(a2:Option Addr)(len2 cap2:Nat)(hl1:xs.length=len1)(hl2:xs.length=len2)(w:World)(hw:Gt w)(h1:BytesAt w a1 xs)(h2:BytesAt w a2 xs):
 CLS 15 [.slice a1 len1 cap1,.slice a2 len2 cap2].toArray w (λe w'=>e=.returned (.bool true)/\Grow w w'):=by
 refine Hf func15 O hw<|λhGF=>Xp<|Asg O<|aa<|Xp<|Mv O<|wF O O (λw' hw'=>vS underlying22 underlying5 underlying9 (h1.grow (ac hw')) _ _ hl1) O O<|Mv O<|wF O O (λw' hw'=>vS underlying22 underlying5 underlying9 (h2.grow (ac hw')) _ _ hl2) O O<|Bnr (v:=.bool true) O O (λw=>zT _ _ w)<|Asg O<|aa<|am<|Rr<|?_;exact aF O O (λw hw=>⟨rfl,ac hw⟩)
end
section
open Go.RowKit
attribute [local simp] a6 bj aH aB aP aZ aQ aJ aM be bz a5 bv J1.bB J2.bB cb ff
theorem ent93:ak prog 93:=λ_ _=>kr
theorem ent150:ak prog 150:=λ_ _=>kr
theorem ent92:ak prog 92:=λ_ _=>kr
theorem ent45:ak prog 45:=λ_ _=>kr
theorem ent161:ak prog 161:=λ_ _=>kr
theorem N3(h:Bool):PUR 72 [.bool false,.bool h] (U8 192#8):=by
 intro w hw;refine Hf func72 O hw<|λhGF=>Xp<|Asg O<|aa<|ah<|ai<|Xp<|Mv O<|bp O (λ_=>a8 _) O O<|Asg O<|aa<|aT O<|Xp<|Asg O<|aa<|am<|Rr<|?_;exact aF O O (λw hw=>⟨rfl,ac hw⟩)
theorem P8  :PUR 72 [.bool true,.bool true] (U8 160#8):=by
 intro w hw;refine Hf func72 O hw<|λhGF=>Xp<|Asg O<|aa<|ah<|ai<|Xp<|Mv O<|bp O (λ_=>a8 _) O O<|Asg O<|aa<|aD O<|Xp<|Mv O<|Asg O<|aa<|aT O<|Xp<|Asg O<|aa<|am<|Rr<|?_;exact aF O O (λw hw=>⟨rfl,ac hw⟩)
theorem Pz  :PUR 72 [.bool true,.bool false] (U8 128#8):=by
 intro w hw;refine Hf func72 O hw<|λhGF=>Xp<|Asg O<|aa<|ah<|ai<|Xp<|Mv O<|bp O (λ_=>a8 _) O O<|Asg O<|aa<|aD O<|Xp<|Mv O<|Asg O<|aa<|aD O<|aq<|Xp<|Asg O<|aa<|am<|Rr<|?_;exact aF O O (λw hw=>⟨rfl,ac hw⟩)
theorem PV{bs:L8}(h:0<bs.length):[bs.getD 0 0 &&& 31#8]++bs.drop 1=MK bs:=by
 cases bs with
 |nil=>cases h
 |cons a r=>rfl
theorem BytesAt.cut3{w:World}{a:Option Addr}{rs:L8}(h:BytesAt w a rs)(l k m:Nat)(hm: ¬m=l):BytesAt w (if m=l then a else a.map (·.add (l*1))) ((rs.drop l).take k):=by
 have e:=h.cut (cap:=rs.length+l+1) l k om;rw[if_neg om]at e;rw[if_neg hm];exact e
theorem BytesAt.tail{w:World}{a:Option Addr}{rs:L8}(h:BytesAt w a rs):BytesAt w (if rs.length=1 then a else a.map (·.add (1*1))) (rs.drop 1):=by
 have e:=h.cut (cap:=rs.length) 1 rs.length (Nat.le_refl _);rw[List.take_of_length_le (by rw[List.length_drop];omega)]at e
 exact e
theorem Ae(e:Option Addr)(cap:Nat)(bs:L8)(h0:0<bs.length)(hl:bs.length<=1000)(hcap:bs.length<=cap)(w:World)(hw:Gt w)(hby:BytesAt w e bs):CLS 93 [.slice e bs.length cap].toArray w (λr w'=> ∃b7 c7 k7,r=.returned (.slice (spt b7) bs.length k7)/\Grow w w'/\w.heap.size<=b7/\OwnB w' b7 c7 5/\c7.take bs.length=(MK bs).map U8/\bs.length<=k7):=by
 refine Hf func93 O hw<|λhGF=>Xp<|Asg O<|aa<|Gu (E:=EE []) [0,1,2,3,5,6,7,8,9,10,4,11,12] cV O kr kr kr<|Mv O<|?_;obtain ⟨ad,rfl,_⟩:=hby 0 _ (gm U8 bs 0 0 om);refine gF 0 O O underlying22 sizeOf5 O om O O<|bP O isAgg5 (λw' h=>by obtain ⟨ad',e,hc⟩:=(hby.grow (ac h)) 0 _ (gm U8 bs 0 0 om);cases e;exact hc) O O<|Bnr (v:=U8 (bs.getD 0 0 &&& 31#8)) O O (λ_=>su _ _ 224#8)<|Mv O<|Mv O<|bf O (λ_=>aG underlying22 _ _ _ _) O O<|Mv O<|bf O (λ_=>aG underlying22 _ _ _ _) O O<|gt (l:=1) (h':=bs.length) (m:=bs.length) O underlying22 sizeOf5 O O O ⟨om,Nat.le_refl _,hcap⟩ O O<|d8 7 [bs.getD 0 0 &&& 31#8] hGF O O O dc dc underlying22 sizeOf5 zeroValue5 O O<|?_
 intro b7;refine cq (xs:=[bs.getD 0 0 &&& 31#8]) (ys:=bs.drop 1) 7 hGF O (by rw[List.length_drop];rfl) underlying22 underlying22 ti5 (.inr ⟨b7,_,rfl,rfl,rfl,Nat.le_refl _,rfl⟩) (λw' h=>(hby.grow (ac h)).tail) (by simp;omega) O O (λh0=>absurd h0 (List.cons_ne_nil _ _)) (λb8 c8 k8 q1 q2 q3=> ?_)
 rw[PV h0]at q2 q3;rw[cb]at q2 q3;refine Asg O<|aa<|am<|Rr<|?_;exact aF O O (λw hw=>⟨b8,c8,k8,by rw[PV h0,cb],ac hw,(hw.own 7 b8 _ _ O).2.elim id False.elim,(hw.own 7 b8 _ _ O).1,q3,q2⟩)
def NQ(bs:L8):Bool:=decide (∀j,j<bs.length->bs.getD j 0=0#8)
theorem YM{bs:L8}(h: ∀j,j<bs.length->bs.getD j 0=0#8):NQ bs=true:=decide_eq_true h
theorem NQ_f{bs:L8}{i:Nat}(hi:i<bs.length)(h: ¬bs.getD i 0=0#8):NQ bs=false:=decide_eq_false (λk=>h (k i hi))
theorem Jg(e:Option Addr)(cap:Nat)(bs:L8)(hL:bs.length<=1000)(w:World)(hw:Gt w)(hby:BytesAt w e bs):CLS 150 [.slice e bs.length cap].toArray w (λr w'=>r=.returned (.bool (NQ bs))/\Grow w w'):=by
 refine Hf func150 O hw<|λhGF=>Xp<|Asg O<|aa<|ah<|Xp<|Mv O<|bf O (λ_=>aG underlying22 _ _ _ _) O O<|Mv O<|aa<|ai<|bH (ι:={i:Nat // i<=bs.length/\∀j,j<i->bs.getD j 0=0#8}) (λy=>[(5,.slice e bs.length cap),(6,I (bs.length:Int)),(7,I (y.1:Int))]) (λy=>[]) (λy=>bs.length-y.1) ⟨0,Nat.zero_le _,λ_ h=>absurd h (Nat.not_lt_zero _)⟩ hGF trv trivial<|?_;rintro ⟨i,hi,hall⟩;dsimp only;by_cases hz:bs.getD i 0=0#8
 ·refine Xp<|Bnr O O (λ_=>aw _ _ _)<|aa<|ah<|?_
  refine bD O (λhc=> ?_) (λhc=> ?_)
  ·have hi2:i<bs.length:=by simp at hc;omega
   refine aq<|ah<|ai<|Xp<|?_;obtain ⟨ad,rfl,_⟩:=hby i _ (gm U8 bs 0 i om);refine gF i O O underlying22 sizeOf5 O om O O<|bP (v:=U8 (bs.getD i 0)) O isAgg5 (λw' h=>by obtain ⟨ad',e,hc⟩:=(hby.grow (ac h)) i _ (gm U8 bs 0 i om);cases e;exact hc) O O<|Asg O<|aa<|Xp<|Mv O<|Bnb false O O (λ_=>dp _ _ 0#8) (bne_eq_false_iff_eq.2 hz)<|aa<|aD O<|aq<|Xq<|Bnr O O (λ_=>au _ _ _ oi)<|Mv O<|aa<|?_
   repeat (refine aO ?_)
   refine aC ?_;have hall': ∀j,j<i+1->bs.getD j 0=0#8:=λj hj=>by
    rcases Nat.lt_or_ge j i with h|h
    ·exact hall j h
    ·obtain rfl:j=i:=om
     exact hz
   exact ⟨rfl,⟨i+1,om,hall'⟩,_,by show bs.length-(i+1)<bs.length-i;omega,rfl,trv,trivial⟩
  ·obtain rfl:i=bs.length:=by simp at hc;omega
   refine aV<|Xp<|Asg O<|aa<|am<|Rr<|?_;exact aF O O (λw hw=>⟨by rw[YM hall];rfl,ac hw⟩)
 ·refine Xp<|Bnr O O (λ_=>aw _ _ _)<|aa<|ah<|?_
  refine bD O (λhc=> ?_) (λhc=> ?_)
  ·have hi2:i<bs.length:=by simp at hc;omega
   refine aq<|ah<|ai<|Xp<|?_;obtain ⟨ad,rfl,_⟩:=hby i _ (gm U8 bs 0 i om);refine gF i O O underlying22 sizeOf5 O om O O<|bP (v:=U8 (bs.getD i 0)) O isAgg5 (λw' h=>by obtain ⟨ad',e,hc⟩:=(hby.grow (ac h)) i _ (gm U8 bs 0 i om);cases e;exact hc) O O<|Asg O<|aa<|Xp<|Mv O<|Bnb true O O (λ_=>dp _ _ 0#8) (bne_iff_ne.2 hz)<|aa<|aT O<|Xp<|Asg O<|aa<|am<|Rr<|?_
   exact aF O O (λw hw=>⟨by rw[NQ_f hi2 hz];rfl,ac hw⟩)
  ·obtain rfl:i=bs.length:=by simp at hc;omega
   refine aV<|Xp<|Asg O<|aa<|am<|Rr<|?_;exact aF O O (λw hw=>⟨by rw[YM hall];rfl,ac hw⟩)
theorem xU(b k len:Nat)(c:List Value)(bs:L8)(hn:bs.length=len)(hL:len<=1000)(q:Bool)(hq:NQ bs=q)(w:World)(hw:Gt w)(h:w.rangeAt b 0 c)(ht:c.take bs.length=bs.map U8):CLS 150 [.slice (spt b) len k].toArray w (λr w'=>r=.returned (.bool q)/\Grow w w'):=by
 subst hn;subst hq;exact Jg _ k bs hL w hw (cF h ht)
def RdV(bs:L8)(N:Nat)(f:BitVec 8)(c:Int):Prop:=(¬bs.length=N/\f=0#8/\c=100)\/(bs.length=N/\((FG bs=128#8/\f=FG bs/\c=0)\/(¬FG bs=128#8/\((FG bs=160#8/\f=FG bs/\c=0)\/(¬FG bs=160#8/\((FG bs=192#8/\((NQ (MK bs)=true/\f=FG bs/\c=0)\/(NQ (MK bs)=false/\f=0#8/\c=101)))\/(¬FG bs=192#8/\f=0#8/\c=101)))))))
theorem n9(e:Option Addr)(cap N:Nat)(bs:L8)(h0:0<N)(hL:N<=1000)(hcap:bs.length<=cap)(f:BitVec 8)(c:Int)(h:RdV bs N f c)(w:World)(hw:Gt w)(hby:BytesAt w e bs):
 CLS 92 [.slice e bs.length cap,I (N:Int)].toArray w (λr w'=>r=.returned (.tuple #[U8 f,I c])/\Grow w w'):=by
 refine Hf func92 O hw<|λhGF=>ae (E:=EE [93,2000093])<|Asg O<|Asg O<|aa<|ah<|ae (E:=EE [93,2000093])<|Mv O<|bf O (λ_=>aG underlying22 _ _ _ _) O O<|Mv O<|?_;rcases h with ⟨hN,rfl,rfl⟩|⟨hN,h⟩
 ·refine Bnb true O O (λ_=>bC _ _ _) (bne_iff_ne.2 om)<|aa<|aT O<|ae (E:=EE [93,2000093])<|Asg O<|Asg O<|aa<|am<|Rr<|?_
  exact ch O O O (λw hw=>⟨rfl,ac hw⟩)
 ·refine Bnb false O O (λ_=>bC _ _ _) (bne_eq_false_iff_eq.2 om)<|aa<|aD O<|aq<|ah<|ae (E:=EE [93,2000093])<|Mv O<|?_
  obtain ⟨ad,he,_⟩:=hby 0 _ (gm U8 bs 0 0 om);refine gF (ad:=ad) 0 (by rw[<-he];rfl) O underlying22 sizeOf5 O om O O<|bP (v:=U8 (bs.getD 0 0)) O isAgg5 (λw' h=>by obtain ⟨ad',e',hc⟩:=(hby.grow (ac h)) 0 _ (gm U8 bs 0 0 om);rw[he]at e';cases e';exact hc) O O<|Bnr (v:=U8 (FG bs)) O O (λ_=>cC _ _ 224#8)<|Asg O<|aa<|ae (E:=EE [93,2000093])<|Mv O<|aa<|ai<|ah<|ae (E:=EE [93,2000093])<|?_
  rcases h with ⟨hf,rfl,rfl⟩|⟨hf,h⟩
  ·refine Bnb true O O (λ_=>cN _ _ 128#8) (beq_iff_eq.2 hf)<|Asg O<|aa<|aT O<|aq<|aT O<|ae (E:=EE [93,2000093])<|Mv O<|Asg O<|Asg O<|aa<|am<|Rr<|?_
   exact ch O O O (λw hw=>⟨rfl,ac hw⟩)
  ·refine Bnb false O O (λ_=>cN _ _ 128#8) (beq_eq_false_iff_ne.2 hf)<|Asg O<|aa<|aD O<|bG (E:=EE [93,2000093])<|?_
   rcases h with ⟨hf,rfl,rfl⟩|⟨hf,h⟩
   ·refine Bnb true O O (λ_=>cN _ _ 160#8) (beq_iff_eq.2 hf)<|Asg O<|aa<|aT O<|ae (E:=EE [93,2000093])<|Mv O<|Asg O<|Asg O<|aa<|am<|Rr<|?_
    exact ch O O O (λw hw=>⟨rfl,ac hw⟩)
   ·refine Bnb false O O (λ_=>cN _ _ 160#8) (beq_eq_false_iff_ne.2 hf)<|Asg O<|aa<|aD O<|ae (E:=EE [93,2000093])<|?_
    rcases h with ⟨hf,h⟩|⟨hf,rfl,rfl⟩
    ·refine Bnb true O O (λ_=>cN _ _ 192#8) (beq_iff_eq.2 hf)<|Asg O<|aa<|aT O<|ae (E:=EE [93,2000093])<|Mv O<|?_
     refine bK O O ent93 O O (λw' hw'=>(Ae e cap bs om om hcap w' (hGF.g _ _ _ hw') (hby.grow (ac hw'))).mono λe' w'' h=> ?_);obtain ⟨b7,c7,k7,rfl,hg,hb7,hob,q3,q2⟩:=h;refine ⟨_,_,rfl,az hGF,hw'.news ao hg [(33,b7,c7,5)] ?_ bS,bQ ao O, ?_⟩
     ·intro n' b' c' t' hl
      rcases aK hl with ⟨_,e⟩|⟨_,hl⟩
      ·cases e;exact ⟨hb7,hob⟩
      ·cases hl
     clear hw' hg hb7 hob;rcases h with ⟨hq,rfl,rfl⟩|⟨hq,rfl,rfl⟩
     ·refine Cc O ent150 (λw' hC hG=>xU b7 k7 bs.length c7 (MK bs) (cb bs) om true hq w' hG (aI (n:=33) O w' hC) (by rw[cb];exact q3))<|aa<|aT O<|ae (E:=EE [93,2000093])<|Mv O<|Asg O<|Asg O<|aa<|am<|Rr<|?_
      exact ch O O O (λw hw=>⟨rfl,ac hw⟩)
     ·refine Cc O ent150 (λw' hC hG=>xU b7 k7 bs.length c7 (MK bs) (cb bs) om false hq w' hG (aI (n:=33) O w' hC) (by rw[cb];exact q3))<|aa<|aD O<|aq<|ae (E:=EE [93,2000093])<|Asg O<|Asg O<|aa<|am<|Rr<|?_
      exact ch O O O (λw hw=>⟨rfl,ac hw⟩)
    ·refine Bnb false O O (λ_=>cN _ _ 192#8) (beq_eq_false_iff_ne.2 hf)<|Asg O<|aa<|aD O<|aq<|ae (E:=EE [93,2000093])<|Asg O<|Asg O<|aa<|am<|Rr<|?_
     exact ch O O O (λw hw=>⟨rfl,ac hw⟩)
theorem yN:mS prog 54 "Neg" 112:=λ_ _=>kr
theorem mP:mS prog 54 "Equal" 310:=λ_ _=>kr
theorem gv:mS prog 54 "InGroup" 311:=λ_ _=>kr
theorem AC(p t:J1.GP)(f:BitVec 8)(c:Int)(h:(¬f &&& 32#8=0#8/\((p.P=(J1.kM p).P/\t=J1.gInf/\c=103)\/(¬p.P=(J1.kM p).P/\((¬E1.times p.P ORD=none/\t=J1.gInf/\c=104)\/(E1.times p.P ORD=none/\p=t/\c=0)))))\/(f &&& 32#8=0#8/\((¬E1.times p.P ORD=none/\t=J1.gInf/\c=104)\/(E1.times p.P ORD=none/\p=t/\c=0)))):PUR 95 [J1.PtV p,.bool true,U8 f] (.tuple #[J1.PtV t,I c]):=by
 intro w hw;refine Hf func95 O hw<|λhGF=>Xp<|Bx 3 hGF O<|λb3=>Al 6 hGF J1.zv54<|λb6=>Asg O<|aa<|Xp<|Al 8 hGF J1.zv54<|λb8=>aa<|ah<|ai<|Xp<|Mv O<|bp O (λ_=>a8 _) O O<|Asg O<|aa<|aD O<|Xd []<|Mv O<|Bnr (v:=U8 (f &&& 32#8)) O O (λ_=>cC _ _ 32#8)<|?_;rcases h with ⟨hf,h⟩|⟨hf,h⟩
 ·refine Bnb true O O (λ_=>dp _ _ 0#8) (bne_iff_ne.2 hf)<|Mv O<|La 3 O O ck<|iC O underlying54 O O<|La 3 O O ck<|iC O underlying54 O O<|ub O O yN O ent112 (J1.wX p) O O<|?_
  rcases h with ⟨he,rfl,rfl⟩|⟨he,h⟩
  ·refine fS true O O mP O ent310 (J1.nF p (J1.kM p)) (decide_eq_true he) O O<|Pk O O O<|Asg O<|aa<|aT O<|Xp<|La 8 O O ck<|Sa 6 hGF O O O ck<|Asg O<|aa<|am<|Rr<|?_
   exact a7 6 O O O O isAgg54 sizeOf54 sm (λw hw=>⟨rfl,ac hw⟩)
  ·refine fS false O O mP O ent310 (J1.nF p (J1.kM p)) (decide_eq_false he) O O<|Pk O O O<|Asg O<|aa<|aD O<|Xp<|La 3 O O ck<|iC O underlying54 O O<|?_
   rcases h with ⟨hg,rfl,rfl⟩|⟨hg,rfl,rfl⟩
   ·refine fS false O O gv O ent311 (J1.fg p) (decide_eq_false hg) O O<|bp O (λ_=>a8 _) O O<|Asg O<|aa<|aT O<|Xp<|La 8 O O ck<|Sa 6 hGF O O O ck<|Asg O<|aa<|am<|Rr<|?_
    exact a7 6 O O O O isAgg54 sizeOf54 sm (λw hw=>⟨rfl,ac hw⟩)
   ·refine fS true O O gv O ent311 (J1.fg p) (decide_eq_true hg) O O<|bp O (λ_=>a8 _) O O<|Asg O<|aa<|aD O<|aq<|Xp<|La 3 O O ck<|Sa 6 hGF O O O ck<|Asg O<|aa<|am<|Rr<|?_
    exact a7 6 O O O O isAgg54 sizeOf54 sm (λw hw=>⟨rfl,ac hw⟩)
 ·refine Bnb false O O (λ_=>dp _ _ 0#8) (bne_eq_false_iff_eq.2 hf)<|Mv O<|Sk<|Sk<|Sk<|Sk<|Sk<|Sk<|Pk O O O<|Asg O<|aa<|aD O<|Xp<|La 3 O O ck<|iC O underlying54 O O<|?_
  rcases h with ⟨hg,rfl,rfl⟩|⟨hg,rfl,rfl⟩
  ·refine fS false O O gv O ent311 (J1.fg p) (decide_eq_false hg) O O<|bp O (λ_=>a8 _) O O<|Asg O<|aa<|aT O<|Xp<|La 8 O O ck<|Sa 6 hGF O O O ck<|Asg O<|aa<|am<|Rr<|?_
   exact a7 6 O O O O isAgg54 sizeOf54 sm (λw hw=>⟨rfl,ac hw⟩)
  ·refine fS true O O gv O ent311 (J1.fg p) (decide_eq_true hg) O O<|bp O (λ_=>a8 _) O O<|Asg O<|aa<|aD O<|aq<|Xp<|La 3 O O ck<|Sa 6 hGF O O O ck<|Asg O<|aa<|am<|Rr<|?_
   exact a7 6 O O O O isAgg54 sizeOf54 sm (λw hw=>⟨rfl,ac hw⟩)
theorem UU(p:J1.GP)(f:BitVec 8):PUR 95 [J1.PtV p,.bool false,U8 f] (.tuple #[J1.PtV J1.gInf,I 103]):=by
 intro w hw;refine Hf func95 O hw<|λhGF=>Xp<|Bx 3 hGF O<|λb3=>Al 6 hGF J1.zv54<|λb6=>Asg O<|aa<|Xp<|Al 8 hGF J1.zv54<|λb8=>aa<|ah<|ai<|Xp<|Mv O<|bp O (λ_=>a8 _) O O<|Asg O<|aa<|aT O<|Xp<|La 8 O O ck<|Sa 6 hGF O O O ck<|Asg O<|aa<|am<|Rr<|?_;exact a7 6 O O O O isAgg54 sizeOf54 sm (λw hw=>⟨rfl,ac hw⟩)
theorem yI:mS prog 80 "Neg" 318:=λ_ _=>kr
theorem mY:mS prog 80 "Equal" 316:=λ_ _=>kr
theorem gi:mS prog 80 "InGroup" 317:=λ_ _=>kr
theorem zn(p t:J2.GP)(f:BitVec 8)(c:Int)(h:(¬f &&& 32#8=0#8/\((p.P=(J2.kM p).P/\t=J2.gInf/\c=103)\/(¬p.P=(J2.kM p).P/\((¬E2w.times p.P ORD=none/\t=J2.gInf/\c=104)\/(E2w.times p.P ORD=none/\p=t/\c=0)))))\/(f &&& 32#8=0#8/\((¬E2w.times p.P ORD=none/\t=J2.gInf/\c=104)\/(E2w.times p.P ORD=none/\p=t/\c=0)))):PUR 192 [J2.PtV p,.bool true,U8 f] (.tuple #[J2.PtV t,I c]):=by
 intro w hw;refine Hf func192 O hw<|λhGF=>Xp<|Bx 3 hGF O<|λb3=>Al 6 hGF J2.zv80<|λb6=>Asg O<|aa<|Xp<|Al 8 hGF J2.zv80<|λb8=>aa<|ah<|ai<|Xp<|Mv O<|bp O (λ_=>a8 _) O O<|Asg O<|aa<|aD O<|Xd []<|Mv O<|Bnr (v:=U8 (f &&& 32#8)) O O (λ_=>cC _ _ 32#8)<|?_;rcases h with ⟨hf,h⟩|⟨hf,h⟩
 ·refine Bnb true O O (λ_=>dp _ _ 0#8) (bne_iff_ne.2 hf)<|Mv O<|La 3 O O cn<|iC O underlying80 O O<|La 3 O O cn<|iC O underlying80 O O<|ub O O yI O ent318 (J2.wX p) O O<|?_
  rcases h with ⟨he,rfl,rfl⟩|⟨he,h⟩
  ·refine fS true O O mY O ent316 (J2.nF p (J2.kM p)) (decide_eq_true he) O O<|Pk O O O<|Asg O<|aa<|aT O<|Xp<|La 8 O O cn<|Sa 6 hGF O O O cn<|Asg O<|aa<|am<|Rr<|?_
   exact a7 6 O O O O isAgg80 sizeOf80 sm (λw hw=>⟨rfl,ac hw⟩)
  ·refine fS false O O mY O ent316 (J2.nF p (J2.kM p)) (decide_eq_false he) O O<|Pk O O O<|Asg O<|aa<|aD O<|Xp<|La 3 O O cn<|iC O underlying80 O O<|?_
   rcases h with ⟨hg,rfl,rfl⟩|⟨hg,rfl,rfl⟩
   ·refine fS false O O gi O ent317 (J2.fg p) (decide_eq_false hg) O O<|bp O (λ_=>a8 _) O O<|Asg O<|aa<|aT O<|Xp<|La 8 O O cn<|Sa 6 hGF O O O cn<|Asg O<|aa<|am<|Rr<|?_
    exact a7 6 O O O O isAgg80 sizeOf80 sm (λw hw=>⟨rfl,ac hw⟩)
   ·refine fS true O O gi O ent317 (J2.fg p) (decide_eq_true hg) O O<|bp O (λ_=>a8 _) O O<|Asg O<|aa<|aD O<|aq<|Xp<|La 3 O O cn<|Sa 6 hGF O O O cn<|Asg O<|aa<|am<|Rr<|?_
    exact a7 6 O O O O isAgg80 sizeOf80 sm (λw hw=>⟨rfl,ac hw⟩)
 ·refine Bnb false O O (λ_=>dp _ _ 0#8) (bne_eq_false_iff_eq.2 hf)<|Mv O<|Sk<|Sk<|Sk<|Sk<|Sk<|Sk<|Pk O O O<|Asg O<|aa<|aD O<|Xp<|La 3 O O cn<|iC O underlying80 O O<|?_
  rcases h with ⟨hg,rfl,rfl⟩|⟨hg,rfl,rfl⟩
  ·refine fS false O O gi O ent317 (J2.fg p) (decide_eq_false hg) O O<|bp O (λ_=>a8 _) O O<|Asg O<|aa<|aT O<|Xp<|La 8 O O cn<|Sa 6 hGF O O O cn<|Asg O<|aa<|am<|Rr<|?_
   exact a7 6 O O O O isAgg80 sizeOf80 sm (λw hw=>⟨rfl,ac hw⟩)
  ·refine fS true O O gi O ent317 (J2.fg p) (decide_eq_true hg) O O<|bp O (λ_=>a8 _) O O<|Asg O<|aa<|aD O<|aq<|Xp<|La 3 O O cn<|Sa 6 hGF O O O cn<|Asg O<|aa<|am<|Rr<|?_
   exact a7 6 O O O O isAgg80 sizeOf80 sm (λw hw=>⟨rfl,ac hw⟩)
theorem T8(p:J2.GP)(f:BitVec 8):PUR 192 [J2.PtV p,.bool false,U8 f] (.tuple #[J2.PtV J2.gInf,I 103]):=by
 intro w hw;refine Hf func192 O hw<|λhGF=>Xp<|Bx 3 hGF O<|λb3=>Al 6 hGF J2.zv80<|λb6=>Asg O<|aa<|Xp<|Al 8 hGF J2.zv80<|λb8=>aa<|ah<|ai<|Xp<|Mv O<|bp O (λ_=>a8 _) O O<|Asg O<|aa<|aT O<|Xp<|La 8 O O cn<|Sa 6 hGF O O O cn<|Asg O<|aa<|am<|Rr<|?_;exact a7 6 O O O O isAgg80 sizeOf80 sm (λw hw=>⟨rfl,ac hw⟩)
theorem Hx:cJ 0=List.replicate 48 0#8:=by decide+kernel
theorem CK(bs:L8):OR0 bs 160#8=OR0 (OR0 bs 128#8) 32#8:=by
 cases bs with
 |nil=>rfl
 |cons a r=>show (a|||160#8)::r=((a|||128#8)|||32#8)::r;rw[BitVec.or_assoc];rfl
theorem zv32(w:World):(zeroValue 32).run prog w=.ok (.agg ((List.replicate 96 (0#8)).map U8).toArray) w:=(zeroValue32 w).trans rr
theorem zY(p:J1.GP)(X Y:Zp)(ok:Bool)(v:BitVec 8)(hx:PUR 70 [J1.PtV p] (.tuple #[EV X,EV Y,.bool ok]))(hv:PUR 72 [.bool ok,.bool (decide (hf<Y.val))] (U8 v)):PUR 31 [J1.PtV p] (.agg ((OR0 (cJ X) v).map U8).toArray):=by
 intro w hw;refine Hf func31 O hw<|λhGF=>Xp<|Bx 1 hGF O<|λb1=>Al 2 hGF zv29<|λb2=>aa<|Xp<|La 1 O O ck<|Ca O (hx)<|Mv O<|Ext O O<|Ext O O<|Ext O O<|Al 3 hGF zv52<|λb3=>Al 4 hGF zv52<|λb4=>Sa 3 hGF O O O bO<|Sa 4 hGF O O O bO<|Asg O<|aa<|Xp<|La 3 O O bO<|Ca O (lx _)<|Al 6 hGF zv29<|λb6=>aA 6 hGF O O O sizeOf29 sm sm (bZ _) O<|aa<|Xd []<|qR 0 O O underlying29 sizeOf5 dc dc O O<|Lm 6 U8 0 O O isAgg5 sm<|Mv O<|La 4 O O bO<|Ca O (kV _)<|Ca O (hv)<|Bnr (v:=U8 ((cJ X).getD 0 0|||v)) O O (λ_=>gH _ _ v)<|qR 0 O O underlying29 sizeOf5 dc dc O O<|aY 6 U8 hGF O O O sizeOf5 O sm O<|aa<|Xp<|La 6 O O xV<|aA 2 hGF O O O sizeOf29 sm sm (bZ _) O<|aa<|am<|?_;refine Rr ?_;exact av 2 O O O isAgg29 sizeOf29 sm (λw hw=>⟨rfl,ac hw⟩)
theorem y1(p:J2.GP)(X Y:W2)(ok:Bool)(v:BitVec 8)(hx:PUR 80 [J2.PtV p] (.tuple #[EV2 X,EV2 Y,.bool ok]))(hv:PUR 72 [.bool ok,.bool (LG2 Y)] (U8 v)):PUR 35 [J2.PtV p] (.agg ((OR0 (cJ X.2++cJ X.1) v).map U8).toArray):=by
 intro w hw;refine Hf func35 O hw<|λhGF=>Xp<|Bx 1 hGF O<|λb1=>Al 2 hGF zv32<|λb2=>aa<|Xp<|La 1 O O cn<|Ca O (hx)<|Mv O<|Ext O O<|Ext O O<|Ext O O<|Al 3 hGF zv78<|λb3=>Al 4 hGF zv78<|λb4=>Sa 3 hGF O O O aX<|Sa 4 hGF O O O aX<|Asg O<|aa<|fM (E:=EE [2999999]) [0,1,2,3,4,5] [⟨6,6,29,(List.replicate 48 (0#8)).map U8⟩,⟨7,7,29,(List.replicate 48 (0#8)).map U8⟩] [8,9] cV O kr kr kr kr kr kr dc (by intro x hx;simp only[List.mem_cons,List.not_mem_nil,or_false]at hx;rcases hx with rfl|rfl<;>exact bE O zv29 O)<|Fa 6 O underlying78 O sizeOf52<|ay 3 _ O O isAgg52 sizeOf52 sm (jk sm) O O<|Ca O (lx _)<|Fa 0 O underlying78 O sizeOf52<|ay 3 _ O O isAgg52 sizeOf52 sm eu O O<|Ca O (lx _)<|aa<|?_
 refine ⟨_,_,rfl,hGF,by intro x hx;simp only[List.mem_cons,List.not_mem_nil,or_false]at hx;rcases hx with rfl|rfl<;>rfl,by intro x hx;simp only[List.mem_cons,List.not_mem_nil,or_false]at hx;rcases hx with rfl|rfl<;>rfl,λadr=> ?_⟩
 refine aA 6 hGF O O O sizeOf29 sm sm (bZ _) O<|aA 7 hGF O O O sizeOf29 sm sm (bZ _) O<|aa<|Xp<|Al 8 hGF zv32<|λb8=>aa<|Xd []<|tH (l:=0) (h':=48) (m:=48) O underlying32 sizeOf5 O O O dc dc O O<|bR (l:=0) (h':=48) O underlying29 sizeOf5 O O dc dc O O<|ib 8 (o:=0) (cs:=cJ X.2) hGF O O O underlying22 sz5 sm (λw' h=>BytesAt.range (aI (n:=6) O w' h)) sm O O<|?_;rw[Ha];refine aa<|Xd []<|tH (l:=48) (h':=96) (m:=96) O underlying32 sizeOf5 O O O dc dc O O<|bR (l:=0) (h':=48) O underlying29 sizeOf5 O O dc dc O O<|ib 8 (o:=48) (cs:=cJ X.1) hGF O O O underlying22 sz5 sm (λw' h=>BytesAt.range (aI (n:=7) O w' h)) sm O O<|?_;rw[JL];refine aa<|Xd []<|qR 0 O O underlying32 sizeOf5 dc dc O O<|Lm 8 U8 0 O O isAgg5 sm<|Mv O<|La 4 O O aX<|Ca O (BI _)<|Ca O (hv)<|Bnr (v:=U8 ((cJ X.2++cJ X.1).getD 0 0|||v)) O O (λ_=>gH _ _ v)<|qR 0 O O underlying32 sizeOf5 dc dc O O<|aY 8 U8 hGF O O O sizeOf5 O sm O<|aa<|Xp<|La 8 O O t32t<|aA 2 hGF O O O sizeOf32 sm sm (bZ _) O<|aa<|am<|Rr<|?_;exact av 2 O O O isAgg32 sizeOf32 sm (λw hw=>⟨rfl,ac hw⟩)
theorem Z9:OR0 (cJ 0) 192#8=EN1 none:=by rw[Hx];rfl
theorem Zs:OR0 (cJ 0++cJ 0) 192#8=EN2 none:=by rw[Hx];rfl
theorem T5(p:J1.GP):PUR 31 [J1.PtV p] (.agg ((EN1 p.P).map U8).toArray):=by
 by_cases h:p.P=none
 ·have k:=zY p 0 0 false 192#8 (J1.Jp p h) (N3 _)
  rw[Z9]at k;rw[h];exact k
 ·obtain ⟨v,hv⟩: ∃v,p.P=some v:=by
   cases e:p.P with
   |none=>exact absurd e h
   |some v=>exact ⟨v,rfl⟩
  have ex:J1.PX p.P=v.1:=by rw[hv];rfl
  have ey:J1.PY p.P=v.2:=by rw[hv];rfl
  have e1:EN1 p.P=ENF (cJ v.1) (LG2 (v.2,0)):=by rw[hv];rfl
  have lg:decide (hf<v.2.val)=LG2 (v.2,0):=Ki (x:=(v.2,0)) O
  cases hl:LG2 (v.2,0)with
  |true=>
   have k:=zY p (J1.PX p.P) (J1.PY p.P) true 160#8 (J1.wC p h) (by rw[ey,lg,hl];exact P8)
   rw[ex,CK]at k;rw[e1,hl];exact k
  |false=>
   have k:=zY p (J1.PX p.P) (J1.PY p.P) true 128#8 (J1.wC p h) (by rw[ey,lg,hl];exact Pz)
   rw[ex]at k;rw[e1,hl];exact k
theorem S7(p:J2.GP):PUR 35 [J2.PtV p] (.agg ((EN2 p.P).map U8).toArray):=by
 by_cases h:p.P=none
 ·have k:=y1 p (0,0) (0,0) false 192#8 (J2.Jp p h) (N3 _)
  rw[show OR0 (cJ ((0:Zp),(0:Zp)).2++cJ ((0:Zp),(0:Zp)).1) 192#8=EN2 none from Zs]at k;rw[h];exact k
 ·obtain ⟨v,hv⟩: ∃v,p.P=some v:=by
   cases e:p.P with
   |none=>exact absurd e h
   |some v=>exact ⟨v,rfl⟩
  have ex:J2.PX p.P=v.1:=by rw[hv];rfl
  have ey:J2.PY p.P=v.2:=by rw[hv];rfl
  have e1:EN2 p.P=ENF (cJ v.1.2++cJ v.1.1) (LG2 v.2):=by rw[hv];rfl
  cases hl:LG2 v.2 with
  |true=>
   have k:=y1 p (J2.PX p.P) (J2.PY p.P) true 160#8 (J2.wC p h) (by rw[ey,hl];exact P8)
   rw[ex,CK]at k;rw[e1,hl];exact k
  |false=>
   have k:=y1 p (J2.PX p.P) (J2.PY p.P) true 128#8 (J2.wC p h) (by rw[ey,hl];exact Pz)
   rw[ex]at k;rw[e1,hl];exact k
end
section
open Go.RowKit
attribute [local simp] a6 bj aH aB aP aZ aQ aJ aM be bz a5 bv J1.bB J2.bB cb ff
theorem oz{bs:L8}{c:Int}{P:Pt Zp}(h:D1 bs c P):E1.onP P:=by
 rcases h with ⟨_,_,rfl⟩|⟨_,⟨_,_,rfl⟩|⟨_,⟨_,_,rfl⟩|⟨_,⟨_,_,rfl⟩|⟨_,⟨_,_,rfl⟩|⟨q,h⟩⟩⟩⟩⟩
 ·exact True.intro
 ·exact True.intro
 ·exact True.intro
 ·exact True.intro
 ·exact True.intro
 ·rcases h with ⟨_,_,rfl⟩|⟨_,⟨_,_,rfl⟩|⟨_,_,rfl⟩⟩
  ·exact True.intro
  ·exact True.intro
  ·exact J1.Ou q _
theorem og{bs:L8}{c:Int}{P:Pt W2}(h:D2 bs c P):E2w.onP P:=by
 rcases h with ⟨_,_,rfl⟩|⟨_,⟨_,_,rfl⟩|⟨_,⟨_,_,rfl⟩|⟨_,⟨_,_,rfl⟩|⟨_,⟨_,_,rfl⟩|⟨r,hr,_,h⟩⟩⟩⟩⟩
 ·exact True.intro
 ·exact True.intro
 ·exact True.intro
 ·exact True.intro
 ·exact True.intro
 ·rcases h with ⟨_,_,rfl⟩|⟨_,⟨_,_,rfl⟩|⟨_,_,rfl⟩⟩
  ·exact True.intro
  ·exact True.intro
  ·exact J2.gj (J2.oG.2 (J2.Fc hr _))
def cA1(P:Pt Zp)(on:E1.onP P):J1.GP:=⟨match P with|none=>(0,0,0)|some p=>(p.1,p.2,1),P,on,by
 cases P with
 |none=>rfl
 |some p=>exact E1.jr_at p ko⟩
def cA2(P:Pt W2)(on:E2w.onP P):J2.GP:=⟨match P with|none=>(ze2,ze2,ze2)|some p=>(p.1,p.2,on2),P,on,by
 cases P with
 |none=>rfl
 |some p=>exact mw p⟩
theorem rF(a:Option Addr)(len k:Nat)(xs:L8)(h48:xs.length=48)(hn:len=48)(hl:BN xs 48<PP)(x:Zp)(hx:zp (BN xs 48)=x)(w:World)(hw:Gt w)(hby:BytesAt w a xs):CLS 74 [.slice a len k].toArray w (λr w'=>r=.returned (.tuple #[EV x,.bool true])/\Grow w w'):=by
 have h:=ef a k xs w hw hby;rw[h48,show FV xs=x from (if_pos ⟨h48,hl⟩).trans hx,show FO xs=true from decide_eq_true ⟨h48,hl⟩]at h;subst hn;exact h
theorem rm(a:Option Addr)(len k:Nat)(xs:L8)(h48:xs.length=48)(hn:len=48)(hl: ¬BN xs 48<PP)(w:World)(hw:Gt w)(hby:BytesAt w a xs):CLS 74 [.slice a len k].toArray w (λr w'=>r=.returned (.tuple #[EV 0,.bool false])/\Grow w w'):=by
 have h:=ef a k xs w hw hby;rw[h48,show FV xs=0 from if_neg (λe=>hl e.2),show FO xs=false from decide_eq_false (λe=>hl e.2)]at h;subst hn;exact h
theorem Ec.ne_iff{α:Type}(C:Ec α){x y:α}:(some (x,y):Pt α)=C.ne (some (x,y))↔y=C.R.zero:=by
 constructor
 ·intro h
  have e:y=C.R.neg y:=congrArg Prod.snd (Option.some.inj h);have k:=C.R.add_neg y;rw[<-e]at k;exact C.dbl0 k
 ·intro h
  show some (x,y)=some (x,C.R.neg y);rw[h,C.R.neg_zero]
theorem J1.ptv_eq{p r:J1.GP}(h:p.J=r.J):J1.PtV p=J1.PtV r:=by rw[J1.PtV,J1.PtV,J1.GL,J1.GL,h]
theorem J2.ptv_eq{p r:J2.GP}(h:p.J=r.J):J2.PtV p=J2.PtV r:=by rw[J2.PtV,J2.PtV,J2.GL,J2.GL,h]
theorem l_t{f:BitVec 8}(h:(f &&& 32#8 !=0#8)=true): ¬f &&& 32#8=0#8:=bne_iff_ne.1 h
theorem l_f{f:BitVec 8}(h:(f &&& 32#8 !=0#8)=false):f &&& 32#8=0#8:=bne_eq_false_iff_eq.1 h
theorem Wj: ∀b:BitVec 8,(b &&& 224#8) &&& 128#8=0#8->¬b &&& 224#8=128#8/\¬b &&& 224#8=160#8/\¬b &&& 224#8=192#8:=by decide+kernel
theorem aae: ∀b:BitVec 8,¬(b &&& 224#8) &&& 128#8=0#8->¬(b &&& 224#8) &&& 64#8=0#8->¬b &&& 224#8=128#8/\¬b &&& 224#8=160#8/\(b &&& 224#8=192#8↔(b &&& 224#8) &&& 32#8=0#8):=by decide+kernel
theorem Zu: ∀b:BitVec 8,¬(b &&& 224#8) &&& 128#8=0#8->(b &&& 224#8) &&& 64#8=0#8->b &&& 224#8=128#8\/b &&& 224#8=160#8:=by decide+kernel
theorem f160{f:BitVec 8}(h:f=160#8): ¬f=128#8:=by rw[h];decide
theorem rd3{bs:L8}{N:Nat}{α:Type}{c:Int}{P:Option α}{R:Prop}(h:FLG bs N c P R):(¬c=0/\P=none/\RdV bs N 0#8 c)\/(c=0/\P=none/\RdV bs N (FG bs) 0/\¬FG bs &&& 64#8=0#8)\/(bs.length=N/\FG bs &&& 64#8=0#8/\RdV bs N (FG bs) 0/\R):=by
 rcases h with ⟨h48,rfl,rfl⟩|⟨h48,⟨f,rfl,rfl⟩|⟨f,⟨s,rfl,rfl⟩|⟨s,r⟩⟩⟩
 ·exact .inl ⟨dc,rfl,.inl ⟨h48,rfl,rfl⟩⟩
 ·obtain ⟨h1,h2,h3⟩:=Wj (bs.getD 0 0) f
  exact .inl ⟨dc,rfl,.inr ⟨h48,.inr ⟨h1,.inr ⟨h2,.inr ⟨h3,rfl,rfl⟩⟩⟩⟩⟩
 ·obtain ⟨h1,h2,h3⟩:=aae (bs.getD 0 0) f s
  by_cases k:FG bs &&& 32#8=0#8
  ·have h4:FG bs=192#8:=h3.2 k
   cases q:NQ (MK bs)with
   |true=>exact .inr (.inl ⟨if_pos ⟨λj hj=>of_decide_eq_true q j (by rw[cb];omega),k⟩,rfl,.inr ⟨h48,.inr ⟨h1,.inr ⟨h2,.inl ⟨h4,.inl ⟨q,rfl,rfl⟩⟩⟩⟩⟩,s⟩)
   |false=>
    have e:INF bs N=101:=if_neg (λz=>of_decide_eq_false q (λj hj=>z.1 j (by rw[cb]at hj;omega)))
    rw[e];exact .inl ⟨dc,rfl,.inr ⟨h48,.inr ⟨h1,.inr ⟨h2,.inl ⟨h4,.inr ⟨q,rfl,rfl⟩⟩⟩⟩⟩⟩
  ·have e:INF bs N=101:=if_neg (λz=>k z.2)
   rw[e];exact .inl ⟨dc,rfl,.inr ⟨h48,.inr ⟨h1,.inr ⟨h2,.inr ⟨λh=>k (h3.1 h),rfl,rfl⟩⟩⟩⟩⟩
 ·refine .inr (.inr ⟨h48,s, ?_,r⟩)
  rcases Zu (bs.getD 0 0) f s with h|h
  ·exact .inr ⟨h48,.inl ⟨h,rfl,rfl⟩⟩
  ·exact .inr ⟨h48,.inr ⟨f160 h,.inl ⟨h,rfl,rfl⟩⟩⟩
theorem r4w{A B C D:Prop}(h:(¬(A/\B)/\C)\/((A/\B)/\D)):(¬B/\A/\C)\/(B/\¬A/\C)\/(¬B/\¬A/\C)\/(B/\A/\D):=by
 rcases h with ⟨h,c⟩|⟨⟨a,b⟩,d⟩
 ·by_cases a:A
  ·exact .inl ⟨λb=>h ⟨a,b⟩,a,c⟩
  ·by_cases b:B
   ·exact .inr (.inl ⟨b,a,c⟩)
   ·exact .inr (.inr (.inl ⟨b,a,c⟩))
 ·exact .inr (.inr (.inr ⟨b,a,d⟩))
theorem KE(p:J1.GP)(x y:Zp)(hP:p.P=some (x,y))(hJ:p.J=(x,y,1))(f:BitVec 8)(l:Bool)(hl:(f &&& 32#8 !=0#8)=l)(c:Int)(P:Pt Zp)(h:NY 0 (λQ=>E1.times Q ORD=none) l x y c P)(on:E1.onP P):PUR 95 [J1.PtV p,.bool true,U8 f] (.tuple #[J1.PtV (cA1 P on),I c]):=by
 have hne:p.P=(J1.kM p).P↔y=0:=by
  show p.P=E1.ne p.P↔y=0;rw[hP];exact Ec.ne_iff E1
 have lf:(¬f &&& 32#8=0#8/\l=true)\/(f &&& 32#8=0#8/\l=false):=by
  cases l with
  |true=>exact .inl ⟨l_t hl,rfl⟩
  |false=>exact .inr ⟨l_f hl,rfl⟩
 have gp: ∀{t:J1.GP} {k:Int},((¬E1.times (some (x,y)) ORD=none/\t=J1.gInf/\k=104)\/(E1.times (some (x,y)) ORD=none/\p=t/\k=0))->¬(l=true/\y=0)->PUR 95 [J1.PtV p,.bool true,U8 f] (.tuple #[J1.PtV t,I k]):=λg hn=>by
  rw[<-hP]at g;rcases lf with ⟨h1,h2⟩|⟨h1,_⟩
  ·exact AC p _ f _ (.inl ⟨h1,.inr ⟨λk=>hn ⟨h2,hne.1 k⟩,g⟩⟩)
  ·exact AC p _ f _ (.inr ⟨h1,g⟩)
 rcases h with ⟨⟨rfl,hy⟩,rfl,rfl⟩|⟨hn,⟨g,rfl,rfl⟩|⟨g,rfl,rfl⟩⟩
 ·exact AC p _ f _ (.inl ⟨l_t hl,.inl ⟨hne.2 hy,rfl,rfl⟩⟩)
 ·exact gp (.inl ⟨g,rfl,rfl⟩) hn
 ·have e:J1.PtV (cA1 (some (x,y)) on)=J1.PtV p:=J1.ptv_eq hJ.symm
  rw[e];exact gp (.inr ⟨g,rfl,rfl⟩) hn
theorem Qy(e:Option Addr)(cap:Nat)(bs:L8)(c:Int)(P:Pt Zp)(h:D1 bs c P)(on:E1.onP P)(hc:bs.length<=cap)(w:World)(hw:Gt w)(hby:BytesAt w e bs):CLS 45 [.slice e bs.length cap].toArray w (λr w'=>r=.returned (.tuple #[J1.PtV (cA1 P on),I c])/\Grow w w'):=by
 refine Hf func45 O hw<|λhGF=>ae (E:=EE [93,2000093])<|Al 2 hGF J1.zv54<|λb2=>Asg O<|aa<|ae (E:=EE [93,2000093])<|Mv O<|?_;rcases rd3 h with ⟨h0,rfl,hR⟩|⟨rfl,rfl,hR,h6⟩|⟨h48,h6,hR,h⟩
 ·refine Cc O ent92 (λw' hC hG=>n9 e cap 48 bs dc dc hc _ _ hR w' hG (hby.grow (ac hC)))<|Mv O<|Ext O O<|Ext O O<|Asg O<|Asg O<|aa<|ah<|ae (E:=EE [93,2000093])<|Mv O<|Bnb true O O (λ_=>bC _ _ _) (bne_iff_ne.2 h0)<|Mv O<|Sk<|Sk<|Sk<|Pk O O O<|aa<|aT O<|ae (E:=EE [93,2000093])<|Ca O (J1.mg)<|Mv O<|Sa 2 hGF O O O ck<|Asg O<|aa<|am<|Rr<|?_
  exact a7 2 O O O O isAgg54 sizeOf54 sm (λw hw=>⟨rfl,ac hw⟩)
 ·refine Cc O ent92 (λw' hC hG=>n9 e cap 48 bs dc dc hc _ _ hR w' hG (hby.grow (ac hC)))<|Mv O<|Ext O O<|Ext O O<|Asg O<|Asg O<|aa<|ah<|ae (E:=EE [93,2000093])<|Mv O<|Bnb false O O (λ_=>bC _ _ _) (rfl)<|Mv O<|Mv O<|Bnr (v:=U8 (FG bs &&& 64#8)) O O (λ_=>cC _ _ 64#8)<|Bnb true O O (λ_=>dp _ _ 0#8) (bne_iff_ne.2 h6)<|Pk O O O<|aa<|aT O<|ae (E:=EE [93,2000093])<|Ca O (J1.mg)<|Mv O<|Sa 2 hGF O O O ck<|Asg O<|aa<|am<|Rr<|?_
  exact a7 2 O O O O isAgg54 sizeOf54 sm (λw hw=>⟨rfl,ac hw⟩)
 ·refine Cc O ent92 (λw' hC hG=>n9 e cap 48 bs dc dc hc _ _ hR w' hG (hby.grow (ac hC)))<|Mv O<|Ext O O<|Ext O O<|Asg O<|Asg O<|aa<|ah<|ae (E:=EE [93,2000093])<|Mv O<|Bnb false O O (λ_=>bC _ _ _) (rfl)<|Mv O<|Mv O<|Bnr (v:=U8 (FG bs &&& 64#8)) O O (λ_=>cC _ _ 64#8)<|Bnb false O O (λ_=>dp _ _ 0#8) (bne_eq_false_iff_eq.2 h6)<|Pk O O O<|aa<|aD O<|aq<|ae (E:=EE [93,2000093])<|Mv O<|?_
  refine bK O O ent93 O O (λw' hw'=>(Ae e cap bs om om hc w' (hGF.g _ _ _ hw') (hby.grow (ac hw'))).mono λe' w'' h=> ?_);obtain ⟨b7,c7,k7,rfl,hg,hb7,hob,q3,q2⟩:=h;refine ⟨_,_,rfl,az hGF,hw'.news ao hg [(33,b7,c7,5)] ?_ bS,bQ ao O, ?_⟩
  ·intro n' b' c' t' hl
   rcases aK hl with ⟨_,e⟩|⟨_,hl⟩
   ·cases e;exact ⟨hb7,hob⟩
   ·cases hl
  clear hw' hg hb7 hob;rcases h with ⟨hp,rfl,rfl⟩|⟨hp,h⟩
  ·refine Cc O ent74 (λw' hC hG=>rm _ _ _ (MK bs) (by rw[cb];exact h48) h48 (Kv h48▸hp) w' hG (cF (aI (n:=33) O w' hC) (by rw[cb];exact q3)))<|Mv O<|Ext O O<|Ext O O<|Al 6 hGF zv52<|λb6=>Sa 6 hGF O O O bO<|Asg O<|aa<|ah<|ae (E:=EE [93,2000093])<|Mv O<|bp O (λ_=>a8 _) O O<|aa<|aT O<|ae (E:=EE [93,2000093])<|Ca O (J1.mg)<|Sa 2 hGF O O O ck<|Asg O<|aa<|am<|Rr<|?_
   exact a7 2 O O O O isAgg54 sizeOf54 sm (λw hw=>⟨rfl,ac hw⟩)
  ·refine Cc O ent74 (λw' hC hG=>rF _ _ _ (MK bs) (by rw[cb];exact h48) h48 (Kv h48▸hp) (X1 bs) (by rw[<-Kv h48];rfl) w' hG (cF (aI (n:=33) O w' hC) (by rw[cb];exact q3)))<|Mv O<|Ext O O<|Ext O O<|Al 6 hGF zv52<|λb6=>Sa 6 hGF O O O bO<|Asg O<|aa<|ah<|ae (E:=EE [93,2000093])<|Mv O<|bp O (λ_=>a8 _) O O<|aa<|aD O<|aq<|ae (E:=EE [93,2000093])<|La 6 O O bO<|Mv O<|Bnr (v:=U8 (FG bs &&& 32#8)) O O (λ_=>cC _ _ 32#8)<|Bnr (v:=.bool (LB bs)) O O (λ_=>dp _ _ 0#8)<|?_
   rcases h with ⟨hq,rfl,rfl⟩|⟨hq,h⟩
   ·refine Ca O (J1.Ax (X1 bs) (LB bs) hq)<|Mv O<|Ext O O<|Ext O O<|Al 8 hGF J1.zv54<|λb8=>Sa 8 hGF O O O ck<|Asg O<|aa<|ae (E:=EE [93,2000093])<|La 8 O O ck<|Mv O<|Mv O<|Ca O (UU _ _)<|Ext O O<|Ext O O<|Sa 2 hGF O O O ck<|Asg O<|aa<|am<|Rr<|?_
    exact a7 2 O O O O isAgg54 sizeOf54 sm (λw hw=>⟨rfl,ac hw⟩)
   ·refine Ca O (J1.yD (X1 bs) (LB bs) hq)<|Mv O<|Ext O O<|Ext O O<|Al 8 hGF J1.zv54<|λb8=>Sa 8 hGF O O O ck<|Asg O<|aa<|ae (E:=EE [93,2000093])<|La 8 O O ck<|Mv O<|Mv O<|Ca O (KE (J1.Jn (X1 bs) (LB bs) hq) _ _ O O _ _ O c P h on)<|Ext O O<|Ext O O<|Sa 2 hGF O O O ck<|Asg O<|aa<|am<|Rr<|?_
    exact a7 2 O O O O isAgg54 sizeOf54 sm (λw hw=>⟨rfl,ac hw⟩)
theorem GJ(e:Option Addr)(cap len:Nat)(bs:L8)(hn:bs.length=len)(c:Int)(P:Pt Zp)(h:D1 bs c P)(hc:len<=cap)(w:World)(hw:Gt w)(hby:BytesAt w e bs):CLS 45 [.slice e len cap].toArray w (λr w'=>r=.returned (.tuple #[J1.PtV (cA1 P (oz h)),I c])/\Grow w w'):=by
 subst hn;exact Qy e cap bs c P h (oz h) hc w hw hby
theorem LM(p:J2.GP)(x y:W2)(hP:p.P=some (x,y))(hJ:p.J=(x,y,on2))(f:BitVec 8)(l:Bool)(hl:(f &&& 32#8 !=0#8)=l)(c:Int)(P:Pt W2)(h:NY ze2 (λQ=>E2w.times Q ORD=none) l x y c P)(on:E2w.onP P):PUR 192 [J2.PtV p,.bool true,U8 f] (.tuple #[J2.PtV (cA2 P on),I c]):=by
 have hne:p.P=(J2.kM p).P↔y=ze2:=by
  show p.P=E2w.ne p.P↔y=ze2;rw[hP];exact Ec.ne_iff E2w
 have lf:(¬f &&& 32#8=0#8/\l=true)\/(f &&& 32#8=0#8/\l=false):=by
  cases l with
  |true=>exact .inl ⟨l_t hl,rfl⟩
  |false=>exact .inr ⟨l_f hl,rfl⟩
 have gp: ∀{t:J2.GP} {k:Int},((¬E2w.times (some (x,y)) ORD=none/\t=J2.gInf/\k=104)\/(E2w.times (some (x,y)) ORD=none/\p=t/\k=0))->¬(l=true/\y=ze2)->PUR 192 [J2.PtV p,.bool true,U8 f] (.tuple #[J2.PtV t,I k]):=λg hn=>by
  rw[<-hP]at g;rcases lf with ⟨h1,h2⟩|⟨h1,_⟩
  ·exact zn p _ f _ (.inl ⟨h1,.inr ⟨λk=>hn ⟨h2,hne.1 k⟩,g⟩⟩)
  ·exact zn p _ f _ (.inr ⟨h1,g⟩)
 rcases h with ⟨⟨rfl,hy⟩,rfl,rfl⟩|⟨hn,⟨g,rfl,rfl⟩|⟨g,rfl,rfl⟩⟩
 ·exact zn p _ f _ (.inl ⟨l_t hl,.inl ⟨hne.2 hy,rfl,rfl⟩⟩)
 ·exact gp (.inl ⟨g,rfl,rfl⟩) hn
 ·have e:J2.PtV (cA2 (some (x,y)) on)=J2.PtV p:=J2.ptv_eq hJ.symm
  rw[e];exact gp (.inr ⟨g,rfl,rfl⟩) hn
theorem Rb(e:Option Addr)(cap:Nat)(bs:L8)(c:Int)(P:Pt W2)(h:D2 bs c P)(on:E2w.onP P)(hc:bs.length<=cap)(w:World)(hw:Gt w)(hby:BytesAt w e bs):CLS 161 [.slice e bs.length cap].toArray w (λr w'=>r=.returned (.tuple #[J2.PtV (cA2 P on),I c])/\Grow w w'):=by
 refine Hf func161 O hw<|λhGF=>ae (E:=EE [93,2000093])<|Al 2 hGF J2.zv80<|λb2=>Asg O<|aa<|ae (E:=EE [93,2000093])<|Mv O<|?_;rcases rd3 h with ⟨h0,rfl,hR⟩|⟨rfl,rfl,hR,h6⟩|⟨h48,h6,hR,h⟩
 ·refine Cc O ent92 (λw' hC hG=>n9 e cap 96 bs dc dc hc _ _ hR w' hG (hby.grow (ac hC)))<|Mv O<|Ext O O<|Ext O O<|Asg O<|Asg O<|aa<|ah<|ae (E:=EE [93,2000093])<|Mv O<|Bnb true O O (λ_=>bC _ _ _) (bne_iff_ne.2 h0)<|Mv O<|Sk<|Sk<|Sk<|Pk O O O<|aa<|aT O<|ae (E:=EE [93,2000093])<|Ca O (J2.mg)<|Mv O<|Sa 2 hGF O O O cn<|Asg O<|aa<|am<|Rr<|?_
  exact a7 2 O O O O isAgg80 sizeOf80 sm (λw hw=>⟨rfl,ac hw⟩)
 ·refine Cc O ent92 (λw' hC hG=>n9 e cap 96 bs dc dc hc _ _ hR w' hG (hby.grow (ac hC)))<|Mv O<|Ext O O<|Ext O O<|Asg O<|Asg O<|aa<|ah<|ae (E:=EE [93,2000093])<|Mv O<|Bnb false O O (λ_=>bC _ _ _) (rfl)<|Mv O<|Mv O<|Bnr (v:=U8 (FG bs &&& 64#8)) O O (λ_=>cC _ _ 64#8)<|Bnb true O O (λ_=>dp _ _ 0#8) (bne_iff_ne.2 h6)<|Pk O O O<|aa<|aT O<|ae (E:=EE [93,2000093])<|Ca O (J2.mg)<|Mv O<|Sa 2 hGF O O O cn<|Asg O<|aa<|am<|Rr<|?_
  exact a7 2 O O O O isAgg80 sizeOf80 sm (λw hw=>⟨rfl,ac hw⟩)
 ·refine Cc O ent92 (λw' hC hG=>n9 e cap 96 bs dc dc hc _ _ hR w' hG (hby.grow (ac hC)))<|Mv O<|Ext O O<|Ext O O<|Asg O<|Asg O<|aa<|ah<|ae (E:=EE [93,2000093])<|Mv O<|Bnb false O O (λ_=>bC _ _ _) (rfl)<|Mv O<|Mv O<|Bnr (v:=U8 (FG bs &&& 64#8)) O O (λ_=>cC _ _ 64#8)<|Bnb false O O (λ_=>dp _ _ 0#8) (bne_eq_false_iff_eq.2 h6)<|Pk O O O<|aa<|aD O<|aq<|ae (E:=EE [93,2000093])<|Mv O<|?_
  refine bK O O ent93 O O (λw' hw'=>(Ae e cap bs om om hc w' (hGF.g _ _ _ hw') (hby.grow (ac hw'))).mono λe' w'' h=> ?_);obtain ⟨b7,c7,k7,rfl,hg,hb7,hob,q3,q2⟩:=h;refine ⟨_,_,rfl,az hGF,hw'.news ao hg [(33,b7,c7,5)] ?_ bS,bQ ao O, ?_⟩
  ·intro n' b' c' t' hl
   rcases aK hl with ⟨_,e⟩|⟨_,hl⟩
   ·cases e;exact ⟨hb7,hob⟩
   ·cases hl
  clear hw' hg hb7 hob;refine Asg O<|aa<|ae (E:=EE [93,2000093])<|Mv O<|gt (l:=0) (h':=48) (m:=48) O underlying22 sizeOf5 O O O ⟨dc,Nat.le_refl _,om⟩ O O<|?_;rcases r4w h with ⟨hp2,hp,rfl,rfl⟩|⟨hp2,hp,rfl,rfl⟩|⟨hp2,hp,rfl,rfl⟩|⟨hp2,hp,h⟩
  ·refine Cc O ent74 (λw' hC hG=>rm _ _ _ (LO bs 0) (ll om) O hp2 w' hG (BytesAt.cut3 (cF (aI (n:=33) O w' hC) (by rw[cb];exact q3)) 0 48 48 dc))<|Mv O<|Ext O O<|Ext O O<|Al 7 hGF zv52<|λb7=>Sa 7 hGF O O O bO<|Asg O<|aa<|ae (E:=EE [93,2000093])<|Mv O<|gt (l:=48) (h':=96) (m:=96) O underlying22 sizeOf5 O O O ⟨dc,Nat.le_refl _,om⟩ O O<|Cc O ent74 (λw' hC hG=>rF _ _ _ (LO bs 48) (ll om) O hp (X2 bs).1 O w' hG (BytesAt.cut3 (cF (aI (n:=33) O w' hC) (by rw[cb];exact q3)) 48 48 96 dc))<|Mv O<|Ext O O<|Ext O O<|Al 9 hGF zv52<|λb9=>Sa 9 hGF O O O bO<|Asg O<|aa<|ah<|ae (E:=EE [93,2000093])<|Mv O<|bp O (λ_=>a8 _) O O<|Mv O<|Sk<|Sk<|Pk O O O<|aa<|aT O<|ae (E:=EE [93,2000093])<|Ca O (J2.mg)<|Sa 2 hGF O O O cn<|Asg O<|aa<|am<|Rr<|?_
   exact a7 2 O O O O isAgg80 sizeOf80 sm (λw hw=>⟨rfl,ac hw⟩)
  ·refine Cc O ent74 (λw' hC hG=>rF _ _ _ (LO bs 0) (ll om) O hp2 (X2 bs).2 O w' hG (BytesAt.cut3 (cF (aI (n:=33) O w' hC) (by rw[cb];exact q3)) 0 48 48 dc))<|Mv O<|Ext O O<|Ext O O<|Al 7 hGF zv52<|λb7=>Sa 7 hGF O O O bO<|Asg O<|aa<|ae (E:=EE [93,2000093])<|Mv O<|gt (l:=48) (h':=96) (m:=96) O underlying22 sizeOf5 O O O ⟨dc,Nat.le_refl _,om⟩ O O<|Cc O ent74 (λw' hC hG=>rm _ _ _ (LO bs 48) (ll om) O hp w' hG (BytesAt.cut3 (cF (aI (n:=33) O w' hC) (by rw[cb];exact q3)) 48 48 96 dc))<|Mv O<|Ext O O<|Ext O O<|Al 9 hGF zv52<|λb9=>Sa 9 hGF O O O bO<|Asg O<|aa<|ah<|ae (E:=EE [93,2000093])<|Mv O<|bp O (λ_=>a8 _) O O<|Mv O<|Mv O<|bp O (λ_=>a8 _) O O<|Pk O O O<|aa<|aT O<|ae (E:=EE [93,2000093])<|Ca O (J2.mg)<|Sa 2 hGF O O O cn<|Asg O<|aa<|am<|Rr<|?_
   exact a7 2 O O O O isAgg80 sizeOf80 sm (λw hw=>⟨rfl,ac hw⟩)
  ·refine Cc O ent74 (λw' hC hG=>rm _ _ _ (LO bs 0) (ll om) O hp2 w' hG (BytesAt.cut3 (cF (aI (n:=33) O w' hC) (by rw[cb];exact q3)) 0 48 48 dc))<|Mv O<|Ext O O<|Ext O O<|Al 7 hGF zv52<|λb7=>Sa 7 hGF O O O bO<|Asg O<|aa<|ae (E:=EE [93,2000093])<|Mv O<|gt (l:=48) (h':=96) (m:=96) O underlying22 sizeOf5 O O O ⟨dc,Nat.le_refl _,om⟩ O O<|Cc O ent74 (λw' hC hG=>rm _ _ _ (LO bs 48) (ll om) O hp w' hG (BytesAt.cut3 (cF (aI (n:=33) O w' hC) (by rw[cb];exact q3)) 48 48 96 dc))<|Mv O<|Ext O O<|Ext O O<|Al 9 hGF zv52<|λb9=>Sa 9 hGF O O O bO<|Asg O<|aa<|ah<|ae (E:=EE [93,2000093])<|Mv O<|bp O (λ_=>a8 _) O O<|Mv O<|Sk<|Sk<|Pk O O O<|aa<|aT O<|ae (E:=EE [93,2000093])<|Ca O (J2.mg)<|Sa 2 hGF O O O cn<|Asg O<|aa<|am<|Rr<|?_
   exact a7 2 O O O O isAgg80 sizeOf80 sm (λw hw=>⟨rfl,ac hw⟩)
  ·refine Cc O ent74 (λw' hC hG=>rF _ _ _ (LO bs 0) (ll om) O hp2 (X2 bs).2 O w' hG (BytesAt.cut3 (cF (aI (n:=33) O w' hC) (by rw[cb];exact q3)) 0 48 48 dc))<|Mv O<|Ext O O<|Ext O O<|Al 7 hGF zv52<|λb7=>Sa 7 hGF O O O bO<|Asg O<|aa<|ae (E:=EE [93,2000093])<|Mv O<|gt (l:=48) (h':=96) (m:=96) O underlying22 sizeOf5 O O O ⟨dc,Nat.le_refl _,om⟩ O O<|Cc O ent74 (λw' hC hG=>rF _ _ _ (LO bs 48) (ll om) O hp (X2 bs).1 O w' hG (BytesAt.cut3 (cF (aI (n:=33) O w' hC) (by rw[cb];exact q3)) 48 48 96 dc))<|Mv O<|Ext O O<|Ext O O<|Al 9 hGF zv52<|λb9=>Sa 9 hGF O O O bO<|Asg O<|aa<|ah<|ae (E:=EE [93,2000093])<|Mv O<|bp O (λ_=>a8 _) O O<|Mv O<|Mv O<|bp O (λ_=>a8 _) O O<|Pk O O O<|aa<|aD O<|aq<|ae (E:=EE [93,2000093])<|La 9 O O bO<|La 7 O O bO<|cr f9 O O sm sm O O<|Mv O<|Bnr (v:=U8 (FG bs &&& 32#8)) O O (λ_=>cC _ _ 32#8)<|Bnr (v:=.bool (LB bs)) O O (λ_=>dp _ _ 0#8)<|?_
   rcases h with ⟨hq,rfl,rfl⟩|⟨r,hr,hlr,h⟩
   ·refine Ca O (J2.Ax (X2 bs) (LB bs) hq)<|Mv O<|Ext O O<|Ext O O<|Al 11 hGF J2.zv80<|λb11=>Sa 11 hGF O O O cn<|Asg O<|aa<|ae (E:=EE [93,2000093])<|La 11 O O cn<|Mv O<|Mv O<|Ca O (T8 _ _)<|Ext O O<|Ext O O<|Sa 2 hGF O O O cn<|Asg O<|aa<|am<|Rr<|?_
    exact a7 2 O O O O isAgg80 sizeOf80 sm (λw hw=>⟨rfl,ac hw⟩)
   ·refine Ca O (J2.yD (X2 bs) r hr hlr (LB bs))<|Mv O<|Ext O O<|Ext O O<|Al 11 hGF J2.zv80<|λb11=>Sa 11 hGF O O O cn<|Asg O<|aa<|ae (E:=EE [93,2000093])<|La 11 O O cn<|Mv O<|Mv O<|Ca O (LM (J2.gRt (X2 bs) r hr (LB bs)) _ _ O O _ _ O c P h on)<|Ext O O<|Ext O O<|Sa 2 hGF O O O cn<|Asg O<|aa<|am<|Rr<|?_
    exact a7 2 O O O O isAgg80 sizeOf80 sm (λw hw=>⟨rfl,ac hw⟩)
theorem UO(e:Option Addr)(cap len:Nat)(bs:L8)(hn:bs.length=len)(c:Int)(P:Pt W2)(h:D2 bs c P)(hc:len<=cap)(w:World)(hw:Gt w)(hby:BytesAt w e bs):CLS 161 [.slice e len cap].toArray w (λr w'=>r=.returned (.tuple #[J2.PtV (cA2 P (og h)),I c])/\Grow w w'):=by
 subst hn;exact Rb e cap bs c P h (og h) hc w hw hby
end
section
open Go.RowKit
attribute [local simp] a6 bj aH aB aP aZ aQ aJ aM be bz a5 bv
end
section
open Go.RowKit
namespace Q6
attribute [local simp] a6 bj aH aB aP aZ aQ aJ aM be bz a5 bv
def FF(f:Nat->W2)(i:Nat):L6:=fe2 (f i)
theorem gR(f:Nat->W2)(v:W2)(n k o:Nat)(hk:k<n)(ho:o=12*k)(hv:f k=v): ∀j u,((fe v.1++fe v.2).map U64)[j]? =some u->((FM (FF f) n).map U64)[o+j]? =some u:=by
 subst hv;exact Cp (FF f) n k hk (a5 _) o ho
theorem um(f g:Nat->W2)(v:W2)(n k o:Nat)(hk:k<n)(ho:o=12*k)(hg: ∀i,i<n->g i=if i=k then v else f i):lay o ((fe v.1++fe v.2).map U64) ((FM (FF f) n).map U64)=(FM (FF g) n).map U64:=by
 have h:=vF (FF f) n k (fe2 v) hk (a5 _) o ho;refine h.trans (congrArg (List.map U64) (m5 λi hi=> ?_));show (if i=k then fe2 v else fe2 (f i))=fe2 (g i)
 rw[hg i hi];split<;>rfl
theorem wy{f g:Nat->W2}{n:Nat}(h: ∀i,i<n->f i=g i):FM (FF f) n=FM (FF g) n:=m5 λi hi=>congrArg fe2 (h i hi)
theorem zG(A B:Nat->W2)(i j:Nat):(if j<i+1 then A j else B j)=if j=i then A i else (if j<i then A j else B j):=by
 by_cases h:j=i
 ·subst h;rw[if_pos (Nat.lt_succ_self _),if_pos O]
 ·rw[if_neg h]
  by_cases h':j<i
  ·rw[if_pos h',if_pos (Nat.lt_succ_of_lt h')]
  ·rw[if_neg h',if_neg (λe=>h' (Nat.lt_of_le_of_ne (Nat.le_of_lt_succ e) h))]
theorem xL(n:Nat):FM (FF λ_=>ze2) n=FM (λ_=>List.replicate 12 0#64) n:=m5 λi _=>by
 show fe2 ze2=_;rw[show fe2 ze2=fe 0++fe 0 from O,jg];rfl
end Q6
end
section
open Go.RowKit
namespace Q6
attribute [local simp] a6 bj aH aB aP aZ aQ aJ aM be bz a5 bv
end Q6
end
section
open Go.RowKit
namespace Q6
attribute [local simp] a6 bj aH aB aP aZ aQ aJ aM be bz a5 bv
end Q6
end
section
open Go.RowKit
theorem ent224:ak prog 224:=λ_ _=>kr
theorem ent259:ak prog 259:=λ_ _=>kr
theorem ent226:ak prog 226:=λ_ _=>kr
theorem ent274:ak prog 274:=λ_ _=>kr
theorem ent227:ak prog 227:=λ_ _=>kr
theorem ent231:ak prog 231:=λ_ _=>kr
theorem ent203:ak prog 203:=λ_ _=>kr
theorem ent258:ak prog 258:=λ_ _=>kr
theorem ent225:ak prog 225:=λ_ _=>kr
theorem ent232:ak prog 232:=λ_ _=>kr
theorem ent202:ak prog 202:=λ_ _=>kr
theorem ent234:ak prog 234:=λ_ _=>kr
namespace Q6
attribute [local simp] a6 bj aH aB aP aZ aQ aJ aM be bz a5 bv
abbrev EV6(x:W6):Value:=aL ((fe (x.1).1++fe (x.1).2)++((fe (x.2.1).1++fe (x.2.1).2)++(fe (x.2.2).1++fe (x.2.2).2)))
theorem zv209(w:World):(zeroValue 209).run prog w=.ok (aL ((fe 0++fe 0)++((fe 0++fe 0)++(fe 0++fe 0)))) w:=by rw[jg];exact (zeroValue209 w).trans rr
theorem lq:Three prog 209 ⟨ "C0",78,0,false, "", "",0⟩ ⟨ "C1",78,12,false, "", "",96⟩ ⟨ "C2",78,24,false, "", "",192⟩ 12 (fe 0++fe 0) (fe 0++fe 0) (fe 0++fe 0):=⟨underlying209,rfl,rfl,rfl,sizeOf78,sizeOf78,sizeOf78,zv209,sm,sm,sm⟩
theorem e6{a b c a' b' c':W2}(h1:a=a')(h2:b=b')(h3:c=c'):Ending.returned (aL ((fe (a).1++fe (a).2)++((fe (b).1++fe (b).2)++(fe (c).1++fe (c).2))))=.returned (aL ((fe (a').1++fe (a').2)++((fe (b').1++fe (b').2)++(fe (c').1++fe (c').2)))):=by rw[h1,h2,h3]
def q6:Sh W6:=q2.two (q2.two q2 2) 2
theorem V6(x:W6):EV6 x=dn rid (.inl [x.1.1,x.1.2,x.2.1.1,x.2.1.2,x.2.2.1,x.2.2.2]):=by
 show Value.agg _=Value.agg _;rw[clv,show cel [x.1.1,x.1.2,x.2.1.1,x.2.1.2,x.2.2.1,x.2.2.2]=fe x.1.1++(fe x.1.2++(fe x.2.1.1++(fe x.2.1.2++(fe x.2.2.1++fe x.2.2.2))))from O];rw[List.append_assoc,List.append_assoc]
theorem bV{f:Nat}{a a':List Value}{v v':Value}(ha:a=a')(hv:v=v')(h:PUR f a' v'):PUR f a v:=by rw[ha,hv];exact h
theorem l1{a b:Value}(h:a=b):[a]=[b]:=by rw[h]
theorem l2{a b c d:Value}(h:a=b)(k:c=d):[a,c]=[b,d]:=by rw[h,k]
theorem l3{a b c d e f:Value}(h:a=b)(k:c=d)(l:e=f):[a,c,e]=[b,d,f]:=by rw[h,k,l]
theorem t2{a b c:Value}(h:a=b):Value.tuple #[a,c]=.tuple #[b,c]:=by rw[h]
end Q6
end
section
open Go.RowKit
theorem ent262:ak prog 262:=λ_ _=>kr
namespace Q6
attribute [local simp] a6 bj aH aB aP aZ aQ aJ aM be bz a5 bv
def p3(x:W6):Nat->W2
 |0=>x.1
 |1=>x.2.1
 |_=>x.2.2
theorem zv264(w:World):(zeroValue 264).run prog w=.ok (aL (FM (FF λ_=>ze2) 3)) w:=by
 rw[xL];exact (zeroValue264 w).trans rr
abbrev TV3(f:Nat->W2):Value:=aL (FM (FF f) 3)
theorem rB(f:Nat->W2)(i:Nat):(FF f i).length=12:=a5 _
attribute [local simp] rB
theorem Sq{x y:W6}(h: ∀j,j<3->p3 x j=p3 y j):x=y:=Prod.ext (h 0 dc) (Prod.ext (h 1 dc) (h 2 dc))
theorem lt_s{Q:Nat->Prop}{k:Nat}(h: ∀j,j<k->Q j)(hk:Q k): ∀j,j<k+1->Q j:=λj hj=>by
 rcases Nat.lt_or_ge j k with h1|h1
 ·exact h j h1
 ·obtain rfl:j=k:=om
  exact hk
theorem Je(x:W6):PUR 233 [EV6 x] (TV3 (p3 x)):=by
 intro w hw;refine Hf func233 O hw<|λhGF=>Xp<|Bx 1 hGF O<|λb1=>Al 2 hGF zv264<|λb2=>aa<|Xp<|Fa 0 O underlying209 O sizeOf78<|ay 1 _ O O isAgg78 sizeOf78 sm eu O O<|Fa 12 O underlying209 O sizeOf78<|ay 1 _ O O isAgg78 sizeOf78 sm (kN sm) O O<|Fa 24 O underlying209 O sizeOf78<|ay 1 _ O O isAgg78 sizeOf78 sm (gw (m:=12) (n:=12) sm sm O) O O<|Lq (FF (p3 x)) O O O underlying264 sizeOf78 zv264 (a5 _) (a5 _) (a5 _) O O<|Sa 2 hGF O O O JG<|aa<|am<|Rr<|?_;exact av 2 O O O isAgg264 sizeOf264 sm (λw hw=>⟨rfl,ac hw⟩)
theorem k6of(f:Nat->W2):PUR 261 [TV3 f] (EV6 (f 0,f 1,f 2)):=by
 intro w hw;refine Hf func261 O hw<|λhGF=>Xp<|Bx 1 hGF O<|λb1=>Al 2 hGF zv209<|λb2=>aa<|Xp<|fI (0) (12*(0)) O O underlying264 sizeOf78 om om om O O<|ay 1 ((fe (f 0).1++fe (f 0).2).map U64) O O isAgg78 sizeOf78 sm (gR _ (f 0) 3 (0) _ om O (rfl)) O O<|fI (1) (12*(1)) O O underlying264 sizeOf78 om om om O O<|ay 1 ((fe (f 1).1++fe (f 1).2).map U64) O O isAgg78 sizeOf78 sm (gR _ (f 1) 3 (1) _ om O (rfl)) O O<|fI (2) (12*(2)) O O underlying264 sizeOf78 om om om O O<|ay 1 ((fe (f 2).1++fe (f 2).2).map U64) O O isAgg78 sizeOf78 sm (gR _ (f 2) 3 (2) _ om O (rfl)) O O<|eh lq O O O sm sm sm O O<|Sa 2 hGF O O O dv<|aa<|am<|Rr<|?_;exact av 2 O O O isAgg209 sizeOf209 sm (λw hw=>⟨rfl,ac hw⟩)
theorem l8(x:W6)(w:World)(hw:Gt w):CLS 234 [EV6 x].toArray w (λe w'=> ∃b1,e=.returned (.func (.func 262) #[] #[pnt b1])/\Grow w w'/\w.heap.size<=b1/\OwnB w' b1 (((fe (x.1).1++fe (x.1).2)++((fe (x.2.1).1++fe (x.2.1).2)++(fe (x.2.2).1++fe (x.2.2).2))).map U64) 209):=by
 refine Hf func234 O hw<|λhGF=>Xp<|Bx 1 hGF O<|λb1=>Asg O<|aa<|Xp<|go O O O O<|Asg O<|aa<|am<|Rr<|?_;exact aF O O (λw hw=>⟨b1,rfl,ac hw,(hw.own 1 b1 _ _ O).2.elim id False.elim,(hw.own 1 b1 _ _ O).1⟩)
def PS(x:W6):List (List Value):=(List.range 3).map λ(k:Nat)=>[I (k:Int),EV2 (p3 x k)]
theorem uv(x:W6):(PS x).length=3:=by rw[PS,List.length_map,List.length_range]
theorem I1(x:W6)(k:Nat)(h:k<3):(PS x)[k]? =some [I (k:Int),EV2 (p3 x k)]:=by
 rw[PS,List.getElem?_map,List.getElem?_range h];rfl
theorem Pd(x:W6)(k:Nat)(v:List Value)(h:(PS x)[k]? =some v):k<3/\v=[I (k:Int),EV2 (p3 x k)]:=by
 have hk:k<3:=by
  rcases Nat.lt_or_ge k 3 with hk|hk
  ·exact hk
  ·rw[List.getElem?_eq_none (by rw[uv];exact hk)]at h;cases h
 exact ⟨hk,(Option.some.inj ((I1 x k hk).symm.trans h)).symm⟩
def RdP(bb:Nat)(x:W6):Cls:=λw=>w.rangeAt bb 0 (((fe (x.1).1++fe (x.1).2)++((fe (x.2.1).1++fe (x.2.1).2)++(fe (x.2.2).1++fe (x.2.2).2))).map U64)
theorem Oi(bb:Nat)(x:W6):fP prog Gt 262 [pnt bb] (PS x) (RdP bb x):=by
 intro l J Jx hJ hJx hRd hGx hY w hj;have okJ: ∀k,BOk Gt (Bi w (λY=>J Y k)):=λk=>⟨λ_ _ _ h=>(hRd _ _ _ h.rid).1,hJ k⟩;have okX: ∀k,BOk Gt (Bi w (λY=>Jx Y k)):=λk=>⟨λ_ _ _ h=>hGx _ _ _ h.rid,hJx k⟩;have c1: ∀k L w',Hp (Bi w (λY=>J Y k)) L w'->RdP bb x w':=λk L w' h=>(hRd _ _ _ h.rid).2;refine cv (G:=Gt) func262 O O (Hp (Bi w (λY=>J Y 0)) []) (cj (Bi w _) hj (hJ 0)) (az (okJ 0))<|Xp<|da O isAgg209 sizeOf209 sm (λw h=>c1 _ _ w h) O O<|Ca O (Je _)<|Mv O<|aa<|ai<|gE (ι:={i:Nat // i<=3}) (λy=>[(0,.func (.yield l) #[] #[]),(1,pnt bb),(6,TV3 (p3 x)),(7,I (y.1:Int))]) (λy=>Bi w (λY=>J Y y.1)) (λy=>[]) (λy=>3-y.1) ⟨0,Nat.zero_le _⟩ (λ_=>okJ _) O trv trivial<|?_;rintro ⟨i,hi⟩;dsimp only;refine Xp<|Bnr O O (λ_=>aw _ _ _)<|aa<|ah<|?_;refine bD O (λhc=> ?_) (λhc=> ?_)
 ·have hi2:i<3:=by simp at hc;omega
  refine aq<|ah<|ai<|Xp<|Mv O<|B8 (FF (p3 x)) (i) O O underlying264 sizeOf78 isAgg78 om om (a5 _) O O<|Al 4 (okJ _) zv78<|λb4=>Asg O<|Sa 4 (okJ _) O O O aX<|aa<|Xp<|Mv O<|Mv O<|La 4 O O aX<|?_;refine dB (hY.b (k:=i) (I1 x i om) w) (okJ _) (okX _) O O O O O ?_ ?_
  ·refine bp O (λ_=>a8 _) O O<|aa<|aD O<|aq<|Xq<|Bnr O O (λ_=>au _ _ _ oi)<|Mv O<|aa<|?_
   repeat (refine aO ?_)
   exact aC<|⟨rfl,⟨i+1,om⟩,_,by show 3-(i+1)<3-i;omega,rfl,trv,trivial⟩
  ·refine bp O (λ_=>a8 _) O O<|aa<|aT O<|am<|Rr<|?_
   repeat (first|refine dC ?_|refine cm ?_|refine dP O ?_|refine bJ ?_|refine bM ?_)
   exact du O (λw hw=>⟨⟨_,rfl⟩,.inr ⟨_,ca (hJx _) hw.rid⟩⟩)
 ·obtain rfl:i=3:=by simp at hc;omega
  refine aV ?_
  repeat (first|refine dC ?_|refine cm ?_|refine dP O ?_|refine bJ ?_|refine bM ?_)
  refine cP O (λw hw=>⟨⟨_,rfl⟩,.inl ?_⟩);have:=ca (hJ _) hw.rid;rw[uv];exact this
theorem N9  :PUR 203 [] (EV6 K6.one):=(bV O (V6 _) (pE TO52 func203 [] (.inl (.inl [K6.one.1.1,K6.one.1.2,K6.one.2.1.1,K6.one.2.1.2,K6.one.2.2.1,K6.one.2.2.2])) (let t0:=on2;(.inl (.inl [t0.1,t0.2,0,0,0,0]),[])) [] kr aE O))
theorem Bb{f:Nat}{g:W6}(en:ak prog f)(h:PUR f [] (EV6 g)):Snd prog Gt f (c0 q6.rd g):=yf q6.rd en (bV O (V6 _).symm h)
def TO53:Tb prog Gt:=TO52.add (Bb (g:=K6.one) ent203 N9)
theorem o7(x y:W6):PUR 202 [EV6 x,EV6 y] (.bool (decide (x=y))):=by
 intro w hw;have hGF:BOk Gt (pl w):=gt_low.plain hw;refine cw (G:=Gt) func202 O O (Hp (pl w) []) (cj (pl w) trivial ao) (az hGF)<|ae (E:=EE [234])<|Bx 2 hGF O<|λb2=>Bx 3 hGF O<|λb3=>g8 4 hGF zeroValue4 O O<|λb4=>aa<|ae (E:=EE [234])<|La 3 O O dv<|Ca O (Je _)<|Al 5 hGF zv264<|λb5=>Sa 5 hGF O O O JG<|aa<|ah<|ae (E:=EE [234])<|La 2 O O dv<|?_;refine dw O O ent234 O O (λw' hw'=>(l8 x w' (hGF.g _ _ _ hw')).mono λe' w'' h=> ?_);obtain ⟨c1,rfl,hg,h1,ho⟩:=h;refine ⟨_,_,rfl,az hGF,hw'.news ao hg [(33,c1,((fe (x.1).1++fe (x.1).2)++((fe (x.2.1).1++fe (x.2.1).2)++(fe (x.2.2).1++fe (x.2.2).2))).map U64,209)] ?_ bS, ?_⟩
 ·intro n' b' c' t' hl
  rcases aK hl with ⟨_,e⟩|⟨_,hl⟩
  ·cases e;exact ⟨h1,ho⟩
  ·cases hl
 clear hw' hg h1 ho;refine aa<|ai<|?_;refine wz (λk=> ∀j,j<k->p3 x j=p3 y j) (λ_=>pl w) (λ_ _=>pl w) (λ_=>hGF) (λ_ _=>hGF) (λ_=>rfl) (λ_ _=>rfl) O O ent262 (Oi c1 x) (λv hv=>by obtain ⟨k,hk,rfl⟩:=List.mem_map.1 hv;rfl) O (λk=>[(2,b2,((fe (x.1).1++fe (x.1).2)++((fe (x.2.1).1++fe (x.2.1).2)++(fe (x.2.2).1++fe (x.2.2).2))).map U64,209),(3,b3,((fe (y.1).1++fe (y.1).2)++((fe (y.2.1).1++fe (y.2.1).2)++(fe (y.2.2).1++fe (y.2.2).2))).map U64,209),(4,b4,[.bool false],4),(5,b5,(FM (FF (p3 y)) 3).map U64,264),(33,c1,((fe (x.1).1++fe (x.1).2)++((fe (x.2.1).1++fe (x.2.1).2)++(fe (x.2.2).1++fe (x.2.2).2))).map U64,209)]) (λc _ L'=>c=.ret/\lkB L' 4=some (b4,[.bool false],4)/\¬x=y) (λj h=>absurd h (Nat.not_lt_zero j)) trv (λk _ w' h=>aI (n:=33) O w' h) ?_ ?_ ?_ (λD c k L' hD h=>by obtain ⟨rfl,hl,hne⟩:=h;refine Ie ?_;refine bM ?_;refine bJ ?_;exact (dX (.inl O) ao (tD 4 O O hl isAgg4 (λw hw=>⟨congrArg (λb=>Ending.returned (.bool b)) (decide_eq_false hne).symm,ac hw⟩))))
 ·intro k v hx hQ R hR
  obtain ⟨hk,rfl⟩:=Pd x k v hx;refine ae (E:=EE [234])<|Asg O<|aa<|bG (E:=EE [234])<|dS 7 (hR (pl w) O hGF).1 zv78 O O<|λb7=>aA 7 (hR (pl w) O hGF).1 O O O sizeOf78 sm sm (bc _) O<|aa<|?_;refine ⟨rfl,_,rfl, ?_⟩;refine ai<|Xd [234]<|La 7 O O aX<|Mv O<|fI (k) (12*(k)) O O underlying264 sizeOf78 om om om O O<|ay 5 ((fe (p3 y k).1++fe (p3 y k).2).map U64) O O isAgg78 sizeOf78 sm (gR _ (p3 y k) 3 (k) _ om O (rfl)) O O<|Ca O (uk _ _)<|bp O (λ_=>a8 _) O O<|aa<|?_;refine bD O (λhc=> ?_) (λhc=> ?_)
  ·have hc: ¬p3 x k=p3 y k:=by simpa using hc
   refine ae (E:=EE [234])<|dY 4 (hR (pl w) O hGF).2.1 O O O sizeOf4 O (by simp[*]) O<|aa<|am<|Rr<|?_
   refine Rr ?_;exact ⟨_,rfl,rfl,rfl,λe=>hc (by rw[e])⟩
  ·have hc:p3 x k=p3 y k:=by simpa using hc
   refine aq ?_
   repeat (refine aO ?_)
   exact ⟨_,rfl,UH (lt_s hQ hc) trv⟩
 ·intro hQ D hD
  rw[uv]at*;have hxy:=Sq hQ;refine ae (E:=EE [234])<|dY 4 hD O O O sizeOf4 O (by simp[*]) O<|aa<|am<|Rr<|?_
  exact dX (.inl O) ao (tD 4 O O O isAgg4 (λw hw=>⟨congrArg (λb=>Ending.returned (.bool b)) (decide_eq_true hxy).symm,ac hw⟩))
 ·intro D hb
  exact aO<|aC<|qg hb
theorem oe(x y:W6):PUR 225 [EV6 x,EV6 y] (EV6 (K6.add x y)):=(bV (l2 (V6 _) (V6 _)) (V6 _) (pE TO53 func225 [.inl [x.1.1,x.1.2,x.2.1.1,x.2.1.2,x.2.2.1,x.2.2.2],.inl [y.1.1,y.1.2,y.2.1.1,y.2.1.2,y.2.2.1,y.2.2.2]] (.inl (.inl [(K6.add x y).1.1,(K6.add x y).1.2,(K6.add x y).2.1.1,(K6.add x y).2.1.2,(K6.add x y).2.2.1,(K6.add x y).2.2.2])) (let t0:=ad2 (x.1.1,x.1.2) (y.1.1,y.1.2);let t1:=ad2 (x.2.1.1,x.2.1.2) (y.2.1.1,y.2.1.2);let t2:=ad2 (x.2.2.1,x.2.2.2) (y.2.2.1,y.2.2.2);(.inl (.inl [t0.1,t0.2,t1.1,t1.2,t2.1,t2.2]),[])) [] kr aE O))
theorem cy{f:Nat}{g:W6->W6->W6}(en:ak prog f)(h: ∀a b,PUR f [EV6 a,EV6 b] (EV6 (g a b))):Snd prog Gt f (c2 q6.ag q6.ag q6.rd g):=gD q6.ag q6.ag q6.rd en (λa b=>bV (l2 (V6 _).symm (V6 _).symm) (V6 _).symm (h a b))
def TO54:Tb prog Gt:=TO53.add (cy (g:=K6.add) ent225 oe)
theorem rT(x y:W6):PUR 227 [EV6 x,EV6 y] (EV6 (sb6 x y)):=(bV (l2 (V6 _) (V6 _)) (V6 _) (pE TO54 func227 [.inl [x.1.1,x.1.2,x.2.1.1,x.2.1.2,x.2.2.1,x.2.2.2],.inl [y.1.1,y.1.2,y.2.1.1,y.2.1.2,y.2.2.1,y.2.2.2]] (.inl (.inl [(sb6 x y).1.1,(sb6 x y).1.2,(sb6 x y).2.1.1,(sb6 x y).2.1.2,(sb6 x y).2.2.1,(sb6 x y).2.2.2])) (let t0:=sb2 (x.1.1,x.1.2) (y.1.1,y.1.2);let t1:=sb2 (x.2.1.1,x.2.1.2) (y.2.1.1,y.2.1.2);let t2:=sb2 (x.2.2.1,x.2.2.2) (y.2.2.1,y.2.2.2);(.inl (.inl [t0.1,t0.2,t1.1,t1.2,t2.1,t2.2]),[])) [] kr aE O))
def TO55:Tb prog Gt:=TO54.add (cy (g:=sb6) ent227 rT)
theorem FN(x:W6):PUR 232 [EV6 x] (EV6 (K6.neg x)):=(bV (l1 (V6 _)) (V6 _) (pE TO55 func232 [.inl [x.1.1,x.1.2,x.2.1.1,x.2.1.2,x.2.2.1,x.2.2.2]] (.inl (.inl [(K6.neg x).1.1,(K6.neg x).1.2,(K6.neg x).2.1.1,(K6.neg x).2.1.2,(K6.neg x).2.2.1,(K6.neg x).2.2.2])) (let t0:=ng2 (x.1.1,x.1.2);let t1:=ng2 (x.2.1.1,x.2.1.2);let t2:=ng2 (x.2.2.1,x.2.2.2);(.inl (.inl [t0.1,t0.2,t1.1,t1.2,t2.1,t2.2]),[])) [] kr aE O))
theorem cL{f:Nat}{g:W6->W6}(en:ak prog f)(h: ∀a,PUR f [EV6 a] (EV6 (g a))):Snd prog Gt f (c1 q6.ag q6.rd g):=gB q6.ag q6.rd en (λa=>bV (l1 (V6 _).symm) (V6 _).symm (h a))
def TO56:Tb prog Gt:=TO55.add (cL (g:=K6.neg) ent232 FN)
theorem nK(x y:W6):PUR 224 [EV6 x,EV6 y] (EV6 (K6.mul x y)):=by
 intro w hw;refine Hf func224 O hw<|λhGF=>Xp<|Bx 2 hGF O<|λb2=>Bx 3 hGF O<|λb3=>Al 4 hGF zv209<|λb4=>aa<|fM (E:=EE [2999999]) [0,1,2,3,4,5,6,7,8,9,10,11,12,13,14] [⟨15,5,78,(fe 0++fe 0).map U64⟩,⟨16,6,78,(fe 0++fe 0).map U64⟩,⟨17,7,78,(fe 0++fe 0).map U64⟩] [18,19,20] cV O kr kr kr kr kr kr dc (by intro x hx;simp only[List.mem_cons,List.not_mem_nil,or_false]at hx;rcases hx with rfl|rfl|rfl<;>exact bE O zv78 O)<|Fa 0 O underlying209 O sizeOf78<|ay 2 _ O O isAgg78 sizeOf78 sm eu O O<|Fa 0 O underlying209 O sizeOf78<|ay 3 _ O O isAgg78 sizeOf78 sm eu O O<|Ca O (dM _ _)<|Fa 12 O underlying209 O sizeOf78<|ay 2 _ O O isAgg78 sizeOf78 sm (kN sm) O O<|Fa 12 O underlying209 O sizeOf78<|ay 3 _ O O isAgg78 sizeOf78 sm (kN sm) O O<|Ca O (dM _ _)<|Fa 24 O underlying209 O sizeOf78<|ay 2 _ O O isAgg78 sizeOf78 sm (gw (m:=12) (n:=12) sm sm O) O O<|Fa 24 O underlying209 O sizeOf78<|ay 3 _ O O isAgg78 sizeOf78 sm (gw (m:=12) (n:=12) sm sm O) O O<|Ca O (dM _ _)<|aa<|?_
 refine ⟨_,_,rfl,hGF,by intro x hx;simp only[List.mem_cons,List.not_mem_nil,or_false]at hx;rcases hx with rfl|rfl|rfl<;>rfl,by intro x hx;simp only[List.mem_cons,List.not_mem_nil,or_false]at hx;rcases hx with rfl|rfl|rfl<;>rfl,λadr=> ?_⟩
 refine Sa 5 hGF O O O aX<|Sa 6 hGF O O O aX<|Sa 7 hGF O O O aX<|aa<|Xa [0,1,2,3,4,5,6,7,8,9,10,11,12,13,14] ⟨15,8,78,(fe 0++fe 0).map U64⟩ [16] (bE O zv78 O)<|Fa 0 O underlying209 O sizeOf78<|ay 2 _ O O isAgg78 sizeOf78 sm eu O O<|Fa 12 O underlying209 O sizeOf78<|ay 2 _ O O isAgg78 sizeOf78 sm (kN sm) O O<|Ca O (fC _ _)<|Fa 0 O underlying209 O sizeOf78<|ay 3 _ O O isAgg78 sizeOf78 sm eu O O<|Fa 12 O underlying209 O sizeOf78<|ay 3 _ O O isAgg78 sizeOf78 sm (kN sm) O O<|Ca O (fC _ _)<|Ca O (dM _ _)<|La 5 O O aX<|Ca O (kP _ _)<|La 6 O O aX<|Ca O (kP _ _)<|aa<|?_;refine ⟨_,_,rfl,hGF,by intro x hx;simp only[List.mem_cons,List.not_mem_nil,or_false]at hx;subst hx;rfl,by intro x hx;simp only[List.mem_cons,List.not_mem_nil,or_false]at hx;subst hx;rfl,λadr=> ?_⟩
 refine Sa 8 hGF O O O aX<|aa<|Xa [0,1,2,3,4,5,6,7,8,9,10,11,12,13,14] ⟨15,9,78,(fe 0++fe 0).map U64⟩ [16] (bE O zv78 O)<|Fa 0 O underlying209 O sizeOf78<|ay 2 _ O O isAgg78 sizeOf78 sm eu O O<|Fa 24 O underlying209 O sizeOf78<|ay 2 _ O O isAgg78 sizeOf78 sm (gw (m:=12) (n:=12) sm sm O) O O<|Ca O (fC _ _)<|Fa 0 O underlying209 O sizeOf78<|ay 3 _ O O isAgg78 sizeOf78 sm eu O O<|Fa 24 O underlying209 O sizeOf78<|ay 3 _ O O isAgg78 sizeOf78 sm (gw (m:=12) (n:=12) sm sm O) O O<|Ca O (fC _ _)<|Ca O (dM _ _)<|La 5 O O aX<|Ca O (kP _ _)<|La 7 O O aX<|Ca O (kP _ _)<|aa<|?_;refine ⟨_,_,rfl,hGF,by intro x hx;simp only[List.mem_cons,List.not_mem_nil,or_false]at hx;subst hx;rfl,by intro x hx;simp only[List.mem_cons,List.not_mem_nil,or_false]at hx;subst hx;rfl,λadr=> ?_⟩
 refine Sa 9 hGF O O O aX<|aa<|Xa [0,1,2,3,4,5,6,7,8,9,10,11,12,13,14] ⟨15,10,78,(fe 0++fe 0).map U64⟩ [16] (bE O zv78 O)<|Fa 12 O underlying209 O sizeOf78<|ay 2 _ O O isAgg78 sizeOf78 sm (kN sm) O O<|Fa 24 O underlying209 O sizeOf78<|ay 2 _ O O isAgg78 sizeOf78 sm (gw (m:=12) (n:=12) sm sm O) O O<|Ca O (fC _ _)<|Fa 12 O underlying209 O sizeOf78<|ay 3 _ O O isAgg78 sizeOf78 sm (kN sm) O O<|Fa 24 O underlying209 O sizeOf78<|ay 3 _ O O isAgg78 sizeOf78 sm (gw (m:=12) (n:=12) sm sm O) O O<|Ca O (fC _ _)<|Ca O (dM _ _)<|La 6 O O aX<|Ca O (kP _ _)<|La 7 O O aX<|Ca O (kP _ _)<|aa<|?_;refine ⟨_,_,rfl,hGF,by intro x hx;simp only[List.mem_cons,List.not_mem_nil,or_false]at hx;subst hx;rfl,by intro x hx;simp only[List.mem_cons,List.not_mem_nil,or_false]at hx;subst hx;rfl,λadr=> ?_⟩
 refine Sa 10 hGF O O O aX<|aa<|Xd []<|La 5 O O aX<|La 10 O O aX<|Ca O (DD _)<|Ca O (fC _ _)<|La 8 O O aX<|La 7 O O aX<|Ca O (DD _)<|Ca O (fC _ _)<|La 9 O O aX<|La 6 O O aX<|Ca O (fC _ _)<|eh lq O O O sm sm sm O O<|Sa 4 hGF O O O dv<|aa<|am<|Rr<|?_;exact av 4 O O O isAgg209 sizeOf209 sm (λw hw=>⟨e6 (zq R2 [x.1,x.2.1,x.2.2,y.1,y.2.1,y.2.2,XI] (ta (tm j0 j3) (txi 6 (tsb (tsb (tm (ta j1 j2) (ta j4 j5)) (tm j1 j4)) (tm j2 j5)) O)) (ta (tm j0 j3) (tm j6 (ta (tm j1 j5) (tm j2 j4))))) (zq R2 [x.1,x.2.1,x.2.2,y.1,y.2.1,y.2.2,XI] (ta (tsb (tsb (tm (ta j0 j1) (ta j3 j4)) (tm j0 j3)) (tm j1 j4)) (txi 6 (tm j2 j5) O)) (ta (ta (tm j0 j4) (tm j1 j3)) (tm j6 (tm j2 j5)))) (zq R2 [x.1,x.2.1,x.2.2,y.1,y.2.1,y.2.2,XI] (ta (tsb (tsb (tm (ta j0 j2) (ta j3 j5)) (tm j0 j3)) (tm j2 j5)) (tm j1 j4)) (ta (ta (tm j0 j5) (tm j1 j4)) (tm j2 j3))),ac hw⟩)
def TO57:Tb prog Gt:=TO56.add (cy (g:=K6.mul) ent224 nK)
theorem nt(x:W6):PUR 258 [EV6 x] (EV6 (K6.mul x x)):=by
 intro w hw;refine Hf func258 O hw<|λhGF=>Xp<|Bx 1 hGF O<|λb1=>Al 2 hGF zv209<|λb2=>aa<|fM (E:=EE [2999999]) [0,1,2,3,4,5] [⟨6,3,78,(fe 0++fe 0).map U64⟩,⟨7,4,78,(fe 0++fe 0).map U64⟩] [8,9] cV O kr kr kr kr kr kr dc (by intro x hx;simp only[List.mem_cons,List.not_mem_nil,or_false]at hx;rcases hx with rfl|rfl<;>exact bE O zv78 O)<|Fa 0 O underlying209 O sizeOf78<|ay 1 _ O O isAgg78 sizeOf78 sm eu O O<|Ca O (iW _)<|Fa 24 O underlying209 O sizeOf78<|ay 1 _ O O isAgg78 sizeOf78 sm (gw (m:=12) (n:=12) sm sm O) O O<|Ca O (iW _)<|aa<|?_
 refine ⟨_,_,rfl,hGF,by intro x hx;simp only[List.mem_cons,List.not_mem_nil,or_false]at hx;rcases hx with rfl|rfl<;>rfl,by intro x hx;simp only[List.mem_cons,List.not_mem_nil,or_false]at hx;rcases hx with rfl|rfl<;>rfl,λadr=> ?_⟩
 refine Sa 3 hGF O O O aX<|Sa 4 hGF O O O aX<|aa<|fM (E:=EE [2999999]) [0,1,2,3,4,5,6,7,8,9] [⟨10,5,78,(fe 0++fe 0).map U64⟩,⟨11,6,78,(fe 0++fe 0).map U64⟩] [12,13] cV O kr kr kr kr kr kr dc (by intro x hx;simp only[List.mem_cons,List.not_mem_nil,or_false]at hx;rcases hx with rfl|rfl<;>exact bE O zv78 O)<|Fa 0 O underlying209 O sizeOf78<|ay 1 _ O O isAgg78 sizeOf78 sm eu O O<|Fa 12 O underlying209 O sizeOf78<|ay 1 _ O O isAgg78 sizeOf78 sm (kN sm) O O<|Ca O (dM _ _)<|Fa 12 O underlying209 O sizeOf78<|ay 1 _ O O isAgg78 sizeOf78 sm (kN sm) O O<|Fa 24 O underlying209 O sizeOf78<|ay 1 _ O O isAgg78 sizeOf78 sm (gw (m:=12) (n:=12) sm sm O) O O<|Ca O (dM _ _)<|aa<|?_
 refine ⟨_,_,rfl,hGF,by intro x hx;simp only[List.mem_cons,List.not_mem_nil,or_false]at hx;rcases hx with rfl|rfl<;>rfl,by intro x hx;simp only[List.mem_cons,List.not_mem_nil,or_false]at hx;rcases hx with rfl|rfl<;>rfl,λadr=> ?_⟩
 refine Sa 5 hGF O O O aX<|Sa 6 hGF O O O aX<|aa<|Xd []<|La 5 O O aX<|La 5 O O aX<|Ca O (fC _ _)<|La 6 O O aX<|La 6 O O aX<|Ca O (fC _ _)<|Sa 5 hGF O O O aX<|Sa 6 hGF O O O aX<|aa<|Xa [0,1,2,3,4,5,6,7,8] ⟨9,7,78,(fe 0++fe 0).map U64⟩ [10] (bE O zv78 O)<|Fa 0 O underlying209 O sizeOf78<|ay 1 _ O O isAgg78 sizeOf78 sm eu O O<|Fa 12 O underlying209 O sizeOf78<|ay 1 _ O O isAgg78 sizeOf78 sm (kN sm) O O<|Ca O (kP _ _)<|Fa 24 O underlying209 O sizeOf78<|ay 1 _ O O isAgg78 sizeOf78 sm (gw (m:=12) (n:=12) sm sm O) O O<|Ca O (fC _ _)<|Ca O (iW _)<|aa<|?_;refine ⟨_,_,rfl,hGF,by intro x hx;simp only[List.mem_cons,List.not_mem_nil,or_false]at hx;subst hx;rfl,by intro x hx;simp only[List.mem_cons,List.not_mem_nil,or_false]at hx;subst hx;rfl,λadr=> ?_⟩
 refine Sa 7 hGF O O O aX<|aa<|Xd []<|La 3 O O aX<|La 6 O O aX<|Ca O (DD _)<|Ca O (fC _ _)<|La 5 O O aX<|La 4 O O aX<|Ca O (DD _)<|Ca O (fC _ _)<|La 7 O O aX<|La 5 O O aX<|Ca O (fC _ _)<|La 6 O O aX<|Ca O (fC _ _)<|La 3 O O aX<|Ca O (kP _ _)<|La 4 O O aX<|Ca O (kP _ _)<|eh lq O O O sm sm sm O O<|Sa 2 hGF O O O dv<|aa<|am<|Rr<|?_;exact av 2 O O O isAgg209 sizeOf209 sm (λw hw=>⟨e6 (zq R2 [x.1,x.2.1,x.2.2,XI] (ta (tm j0 j0) (txi 3 (ta (tm j1 j2) (tm j1 j2)) O)) (ta (tm j0 j0) (tm j3 (ta (tm j1 j2) (tm j2 j1))))) (zq R2 [x.1,x.2.1,x.2.2,XI] (ta (ta (tm j0 j1) (tm j0 j1)) (txi 3 (tm j2 j2) O)) (ta (ta (tm j0 j1) (tm j1 j0)) (tm j3 (tm j2 j2)))) (zq R2 [x.1,x.2.1,x.2.2,XI] (tsb (tsb (ta (ta (tm (ta (tsb j0 j1) j2) (ta (tsb j0 j1) j2)) (ta (tm j0 j1) (tm j0 j1))) (ta (tm j1 j2) (tm j1 j2))) (tm j0 j0)) (tm j2 j2)) (ta (ta (tm j0 j2) (tm j1 j1)) (tm j2 j0))),ac hw⟩)
def TO58:Tb prog Gt:=TO57.add (cL (g:=λx=>K6.mul x x) ent258 nt)
theorem BP(x:W6)(c:W2):PUR 231 [EV6 x,EV2 c] (EV6 (sc6 x c)):=by
 intro w hw;have hGF:BOk Gt (pl w):=gt_low.plain hw;refine cw (G:=Gt) func231 O O (Hp (pl w) []) (cj (pl w) trivial ao) (az hGF)<|ae (E:=EE [234])<|Bx 2 hGF O<|λb2=>Bx 3 hGF O<|λb3=>Al 4 hGF zv209<|λb4=>aa<|ae (E:=EE [234])<|Al 5 hGF zv264<|λb5=>aa<|ah<|ae (E:=EE [234])<|La 2 O O dv<|?_;refine dw O O ent234 O O (λw' hw'=>(l8 x w' (hGF.g _ _ _ hw')).mono λe' w'' h=> ?_);obtain ⟨c1,rfl,hg,h1,ho⟩:=h;refine ⟨_,_,rfl,az hGF,hw'.news ao hg [(33,c1,((fe (x.1).1++fe (x.1).2)++((fe (x.2.1).1++fe (x.2.1).2)++(fe (x.2.2).1++fe (x.2.2).2))).map U64,209)] ?_ bS, ?_⟩
 ·intro n' b' c' t' hl
  rcases aK hl with ⟨_,e⟩|⟨_,hl⟩
  ·cases e;exact ⟨h1,ho⟩
  ·cases hl
 clear hw' hg h1 ho;refine aa<|ai<|?_;refine fq (λ_=>pl w) (λ_ _=>pl w) (λ_=>hGF) (λ_ _=>hGF) (λ_=>rfl) (λ_ _=>rfl) O O ent262 (Oi c1 x) (λv hv=>by obtain ⟨k,hk,rfl⟩:=List.mem_map.1 hv;rfl) O (λk=>[(2,b2,((fe (x.1).1++fe (x.1).2)++((fe (x.2.1).1++fe (x.2.1).2)++(fe (x.2.2).1++fe (x.2.2).2))).map U64,209),(3,b3,(fe c.1++fe c.2).map U64,78),(4,b4,((fe 0++fe 0)++((fe 0++fe 0)++(fe 0++fe 0))).map U64,209),(5,b5,(FM (FF (λj=>if j<k then ml2 (p3 x j) c else ze2)) 3).map U64,264),(33,c1,((fe (x.1).1++fe (x.1).2)++((fe (x.2.1).1++fe (x.2.1).2)++(fe (x.2.2).1++fe (x.2.2).2))).map U64,209)]) (λ_ _ _=>False) ⟨rfl,rfl,rfl,congrArg (λl=>some (b5,l,_)) (congrArg (List.map U64) (wy λj _=>(if_neg (Nat.not_lt_zero j)).symm)),rfl,trivial⟩ (λk _ w' h=>aI (n:=33) O w' h) ?_ ?_ (λ_ _ _ _ _ h=>h.elim)
 ·intro k v hx R hR
  obtain ⟨hk,rfl⟩:=Pd x k v hx;refine ae (E:=EE [234])<|Asg O<|aa<|bG (E:=EE [234])<|dS 7 (hR (pl w) O hGF).1 zv78 O O<|λb7=>aA 7 (hR (pl w) O hGF).1 O O O sizeOf78 sm sm (bc _) O<|aa<|?_;refine ⟨rfl,_,rfl, ?_⟩;refine ai<|bG (E:=EE [234])<|Mv O<|La 7 O O aX<|La 3 O O aX<|Ca O (dM _ _)<|fI (k) (12*(k)) O O underlying264 sizeOf78 om om om O O<|lH 5 ((FM (FF (λj=>if j<k+1 then ml2 (p3 x j) c else ze2)) 3).map U64) (hR (pl w) O hGF).2.1 O O O sizeOf78 sm (bc _) (by simp;omega) (um _ _ (ml2 (p3 x k) c) 3 (k) _ om O (λj _=>zG (λj=>ml2 (p3 x j) c) (λ_=>ze2) k j)) O<|aa<|?_
  repeat (refine aO ?_)
  exact ⟨_,rfl,trv⟩
 ·intro D hD
  rw[uv];refine ae (E:=EE [234])<|La 5 O O JG<|Ca O (k6of _)<|Sa 4 hD O O O dv<|aa<|am<|Rr<|?_;exact dX (.inl O) ao (av 4 O O O isAgg209 sizeOf209 sm (λw hw=>⟨e6 O O O,ac hw⟩))
theorem k6v(x:W6):PUR 226 [EV6 x] (EV6 (v6 x)):=(bV (l1 (V6 _)) (V6 _) (pE TO58 func226 [.inl [x.1.1,x.1.2,x.2.1.1,x.2.1.2,x.2.2.1,x.2.2.2]] (.inl (.inl [(v6 x).1.1,(v6 x).1.2,(v6 x).2.1.1,(v6 x).2.1.2,(v6 x).2.2.1,(v6 x).2.2.2])) (let t0:=xi2 (x.2.2.1,x.2.2.2);(.inl (.inl [t0.1,t0.2,x.1.1,x.1.2,x.2.1.1,x.2.1.2]),[])) [] kr aE O))
def TO59:Tb prog Gt:=TO58.add (cL (g:=v6) ent226 k6v)
def oth(x:W6):W6:=(i3a x.1 x.2.1 x.2.2,i3b x.1 x.2.1 x.2.2,i3c x.1 x.2.1 x.2.2)
theorem qk(x:W6):PUR 274 [EV6 x] (EV6 (oth x)):=(bV (l1 (V6 _)) (V6 _) (pE TO59 func274 [.inl [x.1.1,x.1.2,x.2.1.1,x.2.1.2,x.2.2.1,x.2.2.2]] (.inl (.inl [(oth x).1.1,(oth x).1.2,(oth x).2.1.1,(oth x).2.1.2,(oth x).2.2.1,(oth x).2.2.2])) (let t0:=ml2 (x.1.1,x.1.2) (x.1.1,x.1.2);let t1:=ml2 (x.2.1.1,x.2.1.2) (x.2.2.1,x.2.2.2);let t2:=xi2 (t1.1,t1.2);let t3:=sb2 (t0.1,t0.2) (t2.1,t2.2);let t4:=ml2 (x.2.2.1,x.2.2.2) (x.2.2.1,x.2.2.2);let t5:=xi2 (t4.1,t4.2);let t6:=ml2 (x.1.1,x.1.2) (x.2.1.1,x.2.1.2);let t7:=sb2 (t5.1,t5.2) (t6.1,t6.2);let t8:=ml2 (x.2.1.1,x.2.1.2) (x.2.1.1,x.2.1.2);let t9:=ml2 (x.1.1,x.1.2) (x.2.2.1,x.2.2.2);let t10:=sb2 (t8.1,t8.2) (t9.1,t9.2);(.inl (.inl [t3.1,t3.2,t7.1,t7.2,t10.1,t10.2]),[])) [] kr aE O))
def TO60:Tb prog Gt:=TO59.add (cL (g:=oth) ent274 qk)
theorem We(x:W6):ad2 (xi2 (ad2 (ml2 x.2.1 (oth x).2.2) (ml2 x.2.2 (oth x).2.1))) (ml2 x.1 (oth x).1)=i3n x.1 x.2.1 x.2.2:=by
 show R2.add (xi2 (R2.add _ _)) _=R2.add _ (xi2 (R2.add _ _));rw[R2.add_comm,R2.add_comm (ml2 x.2.1 (oth x).2.2)];rfl
theorem FK(x:W6)(c:W2):PUR 231 [EV6 (oth x),EV2 c] (EV6 (sc6 (oth x) c)):=BP (oth x) c
theorem Gv(x:W6):PUR 259 [EV6 x] (EV6 (iv6 x)):=by
 intro w hw;refine Hf func259 O hw<|λhGF=>Xp<|Bx 1 hGF O<|λb1=>Al 2 hGF zv209<|λb2=>aa<|Xp<|La 1 O O dv<|Ca O (qk _)<|Al 3 hGF zv209<|λb3=>Sa 3 hGF O O O dv<|aa<|Xa [0,1,2,3,4,5,6,7,8,9,10,11,12,13,14,15,16,17] ⟨18,4,78,(fe 0++fe 0).map U64⟩ [19] (bE O zv78 O)<|Fa 12 O underlying209 O sizeOf78<|ay 1 _ O O isAgg78 sizeOf78 sm (kN sm) O O<|Fa 24 O underlying209 O sizeOf78<|ay 3 _ O O isAgg78 sizeOf78 sm (gw (m:=12) (n:=12) sm sm O) O O<|Ca O (dM _ _)<|Fa 24 O underlying209 O sizeOf78<|ay 1 _ O O isAgg78 sizeOf78 sm (gw (m:=12) (n:=12) sm sm O) O O<|Fa 12 O underlying209 O sizeOf78<|ay 3 _ O O isAgg78 sizeOf78 sm (kN sm) O O<|Ca O (dM _ _)<|Ca O (fC _ _)<|Ca O (DD _)<|Fa 0 O underlying209 O sizeOf78<|ay 1 _ O O isAgg78 sizeOf78 sm eu O O<|Fa 0 O underlying209 O sizeOf78<|ay 3 _ O O isAgg78 sizeOf78 sm eu O O<|Ca O (dM _ _)<|Ca O (fC _ _)<|aa<|?_;refine ⟨_,_,rfl,hGF,by intro x hx;simp only[List.mem_cons,List.not_mem_nil,or_false]at hx;subst hx;rfl,by intro x hx;simp only[List.mem_cons,List.not_mem_nil,or_false]at hx;subst hx;rfl,λadr=> ?_⟩
 refine Sa 4 hGF O O O aX<|aa<|Xd []<|La 3 O O dv<|La 4 O O aX<|Ca O (JW _)<|Ca O (FK x _)<|Sa 2 hGF O O O dv<|aa<|am<|Rr<|?_;exact av 2 O O O isAgg209 sizeOf209 sm (λw hw=>⟨by rw[We];rfl,ac hw⟩)
def TO61:Tb prog Gt:=TO60.add (cL (g:=iv6) ent259 Gv)
end Q6
end
def g2:W2:=pw2 XI th
theorem Te(a:Zp):a+0=a:=by grind
theorem zU(x:W2): ∀n,nm2 (pw2 x n)=nm2 x^n
 |0=>by
  show nm2 on2=_;rw[p0,nm2,on2];show (1:Zp)*1+0*0=1;rw[o5,iX];exact Te 1
 |n+1=>by rw[ou,gT,zU x n,ps]
theorem Km(x:W2):cj2 (cj2 x)=x:=bI O (BH _)
theorem Nd(c g:W2):ml2 (cj2 (ml2 (cj2 c) g)) g=ml2 c (nm2 g,0):=by
 rw[ge,Km,show ml2 (ml2 c (cj2 g)) g=ml2 c (ml2 (cj2 g) g)from R2.mul_assoc _ _ _,show ml2 (cj2 g) g=ml2 g (cj2 g)from R2.mul_comm _ _,Ro]
theorem XZ(a:Zp):a-0=a:=by grind
theorem aaC(a:Zp):0-a= -a:=by grind
theorem YW(a:Zp):0+a=a:=by grind
theorem tX{a b:Zp}(h:a+b=0): -a=b:=by grind
theorem XQ:pw2 XI 2=(0,zp 2):=by decide+kernel
theorem JZ(a b:Zp):ml2 (a,0) (0,b)=(0,a*b):=bI (by simp only[ml2];rw[iX,qE,XZ]) (by simp only[ml2];rw[iX,Te])
theorem E3(a b:Zp):ml2 (0,a) (0,b)=(-(a*b),0):=bI (by simp only[ml2];rw[iX,aaC]) (by simp only[ml2];rw[qE,iX,Te])
theorem im_4(c:Zp):pw2 (0,c) 4=(c^4,0):=by
 show ml2 (ml2 (ml2 (ml2 on2 (0,c)) (0,c)) (0,c)) (0,c)=_;rw[show ml2 on2 (0,c)=(0,c)from R2.one_mul _,E3,JZ,E3];exact bI (by grind) O
theorem im_3(c:Zp):pw2 (0,c) 3=(0,-(c^3)):=by
 show ml2 (ml2 (ml2 on2 (0,c)) (0,c)) (0,c)=_;rw[show ml2 on2 (0,c)=(0,c)from R2.one_mul _,E3,JZ];exact bI O (by grind)
theorem PB(c:Zp): ∀s,pw2 (0,c) (4*s)=(c^(4*s),0)
 |0=>by show on2=_;rw[Nat.mul_zero,p0];rfl
 |s+1=>by rw[Nat.mul_succ,vv,PB c s,im_4,nO,oW]
theorem aaX(c:Zp)(s:Nat):pw2 (0,c) (4*s+3)=(0,-(c^(4*s+3))):=by
 rw[vv,PB,im_3,JZ,oW];exact bI O (by grind)
def cjn(n:Nat)(x:W2):W2:=if n % 2=1 then cj2 x else x
theorem Wi(n:Nat)(x:W2):cj2 (cjn n x)=cjn (n+1) x:=by
 rw[cjn,cjn];by_cases h:n % 2=1
 ·rw[if_pos h,if_neg om,Km]
 ·rw[if_neg h,if_pos om]
theorem yX(a b c:W2):ml2 (ml2 a b) c=ml2 a (ml2 b c):=R2.mul_assoc a b c
/-! ### The powers of p -/
theorem iV(x y:W12):cz (K12.mul x y)=K12.mul (cz x) (cz y):=by
 rw[<-gG,<-gG,<-gG,K12.mul_pw]
theorem wE(x y:W12):cz (K12.add x y)=K12.add (cz x) (cz y):=by
 rw[<-gG,<-gG,<-gG,jS]
def jT(x:W12):Nat->W12
 |0=>x
 |n+1=>cz (jT x n)
theorem qu(x:W12)(m:Nat): ∀n,jT x (m+n)=jT (jT x m) n
 |0=>rfl
 |n+1=>by rw[<-Nat.add_assoc,jT,qu x m n];rfl
theorem v7(x y:W12): ∀n,jT (K12.mul x y) n=K12.mul (jT x n) (jT y n)
 |0=>rfl
 |n+1=>by rw[jT,v7 x y n,iV];rfl
def D5(z:Zp)(x:W12):W12:=((ml2 x.1.1 (z^0,0),ml2 x.1.2.1 (z^2,0),ml2 x.1.2.2 (z^4,0)),(ml2 x.2.1 (z^1,0),ml2 x.2.2.1 (z^3,0),ml2 x.2.2.2 (z^5,0)))
theorem oa(c:W2)(a b:Zp)(k:Nat):ml2 (ml2 c (b^k,0)) (a^k,0)=ml2 c ((a*b)^k,0):=by
 rw[yX,nO];have e:b^k*a^k=(a*b)^k:=by
  induction k with
  |zero=>rw[p0,p0,p0];exact o5
  |succ k ih=>rw[ps,ps,ps,<-ih];grind
 rw[e]
theorem CF(a b:Zp)(x:W12):D5 a (D5 b x)=D5 (a*b) x:=
 Prod.ext (Prod.ext (oa _ _ _ _) (Prod.ext (oa _ _ _ _) (oa _ _ _ _))) (Prod.ext (oa _ _ _ _) (Prod.ext (oa _ _ _ _) (oa _ _ _ _)))
def ZE:Zp:=nm2 GA
theorem aaI(k:Nat):nm2 (pw2 GA k)=ZE^k:=zU GA k
theorem lM(c:W2)(k:Nat):ml2 (cj2 (ml2 (cj2 c) (pw2 GA k))) (pw2 GA k)=ml2 c (ZE^k,0):=by rw[Nd,aaI]
theorem re(x:W12):cz (cz x)=D5 ZE x:=
 Prod.ext (Prod.ext (lM _ _) (Prod.ext (lM _ _) (lM _ _))) (Prod.ext (lM _ _) (Prod.ext (lM _ _) (lM _ _)))
theorem UD:ZE=zp 2^sx:=by rw[ZE,GA,zU,E5]
theorem Xs:sx*3=hf:=by decide+kernel
theorem Ra{a:Zp}(h:a*a=1)(h1:a≠1):a= -1:=by
 have e:(a-1)*(a+1)=0:=by grind
 rcases lv e with e|e
 ·exact absurd (by grind) h1
 ·grind
theorem U1:hf+hf=PP-1:=by decide+kernel
theorem Nv:zp 2^hf= -1:=Ra (by rw[<-oW,U1,fermat pY]) IP
theorem Iz:ZE*(ZE*ZE)= -1:=by
 have e:ZE*(ZE*ZE)=ZE^3:=by generalize ZE=a;grind
 rw[e,UD,<-EL,Xs,Nv]
theorem D3(x:W12):jT x 6=D5 (ZE*(ZE*ZE)) x:=by
 show cz (cz (cz (cz (cz (cz x)))))=_;rw[re x,re (D5 ZE x),re,CF ZE ZE x,CF]
def db(x:W12):W12:=(x.1,K6.neg x.2)
theorem u4(c:W2)(n:Nat):ml2 c ((-1:Zp)^(2*n),0)=c:=by
 have e:(-1:Zp)^(2*n)=1:=by
  induction n with
  |zero=>exact p0 _
  |succ n ih=>rw[Nat.mul_succ,oW,ih];generalize hm:(-1:Zp)=a;have:a*a=1:=by rw[<-hm,z_nn,o5]
              grind
 rw[e];exact R2.mul_one c
theorem z8(c:W2)(n:Nat):ml2 c ((-1:Zp)^(2*n+1),0)=ng2 c:=by
 have e:ml2 c ((-1:Zp)^(2*n+1),0)=ml2 (ml2 c ((-1:Zp)^(2*n),0)) (-1,0):=by rw[yX,nO,ps]
 rw[e,u4];generalize hm:(-1:Zp)=a;refine bI ?_ ?_
 ·show c.1*a-c.2*0= -c.1
  rw[iX,XZ,<-hm];grind
 ·show c.1*0+c.2*a= -c.2
  rw[iX,YW,<-hm];grind
theorem jI(x:W12):jT x 6=db x:=by
 rw[D3,Iz];exact Prod.ext (Prod.ext (u4 _ 0) (Prod.ext (u4 _ 1) (u4 _ 2))) (Prod.ext (z8 _ 0) (Prod.ext (z8 _ 1) (z8 _ 2)))
theorem vD(x:W12):db (db x)=x:=Prod.ext O (K6.neg_neg x.2)
theorem wr(x:W12):jT x 12=x:=by rw[show 12=6+6 from O,qu,jI,jI,vD]
/-! ### The conjugate's laws -/
theorem wU(x y:W12):db (K12.mul x y)=K12.mul (db x) (db y):=by rw[<-jI,<-jI,<-jI,v7]
theorem tvv{ρ:Nat->W6}{p:Po}{a:W6}(k:Nat)(ha:K6.d ρ p=a)(hk:ρ k=VV):K6.d ρ (kI p (pv k))=v6 a:=by rw[K6.d_mul,ha,K6.d_var,hk];exact A6 a
theorem ER{ρ:Nat->W6}{p q:Po}{a b:W6}(ha:K6.d ρ p=a)(hb:K6.d ρ q=b):K6.d ρ (iz p (lY q))=sb6 a b:=by rw[K6.d_add,K6.d_neg,ha,hb,zA]
section
open Go.RowKit
theorem ent218:ak prog 218:=λ_ _=>kr
theorem ent201:ak prog 201:=λ_ _=>kr
theorem ent217:ak prog 217:=λ_ _=>kr
theorem ent197:ak prog 197:=λ_ _=>kr
theorem ent165:ak prog 165:=λ_ _=>kr
theorem ent256:ak prog 256:=λ_ _=>kr
theorem ent164:ak prog 164:=λ_ _=>kr
theorem ent220:ak prog 220:=λ_ _=>kr
namespace Q6
attribute [local simp] a6 bj aH aB aP aZ aQ aJ aM be bz a5 bv
attribute [local simp] rB cM
abbrev cD(x:W12):Value:=aL (((fe (x.1.1).1++fe (x.1.1).2)++((fe (x.1.2.1).1++fe (x.1.2.1).2)++(fe (x.1.2.2).1++fe (x.1.2.2).2)))++((fe (x.2.1).1++fe (x.2.1).2)++((fe (x.2.2.1).1++fe (x.2.2.1).2)++(fe (x.2.2.2).1++fe (x.2.2.2).2))))
theorem zv211(w:World):(zeroValue 211).run prog w=.ok (aL (((fe 0++fe 0)++((fe 0++fe 0)++(fe 0++fe 0)))++((fe 0++fe 0)++((fe 0++fe 0)++(fe 0++fe 0))))) w:=by rw[jg];exact (zeroValue211 w).trans rr
theorem u7:Two prog 211 ⟨ "C0",209,0,false, "", "",0⟩ ⟨ "C1",209,36,false, "", "",288⟩ 36 36 ((fe 0++fe 0)++((fe 0++fe 0)++(fe 0++fe 0))) ((fe 0++fe 0)++((fe 0++fe 0)++(fe 0++fe 0))):=⟨underlying211,rfl,rfl,sizeOf209,sizeOf209,zv211,sm,sm⟩
theorem e12{a b a' b':W6}(h1:a=a')(h2:b=b'):Ending.returned (cD (a,b))=.returned (cD (a',b')):=by rw[h1,h2]
theorem KX{x y:W12}(h:x.1=y.1):decide (x.2=y.2)=decide (x=y):=decide_eq_decide.2 ⟨λe=>Prod.ext h e,λe=>by rw[e]⟩
theorem Lu{x y:W12}(h: ¬x.1=y.1):false=decide (x=y):=(decide_eq_false λe=>h (by rw[e])).symm
def p12(x:W12):Nat->W2
 |0=>x.1.1
 |1=>x.2.1
 |2=>x.1.2.1
 |3=>x.2.2.1
 |4=>x.1.2.2
 |_=>x.2.2.2
def q12:Sh W12:=q6.two q6 6
theorem V12(x:W12):cD x=dn rid (.inl [x.1.1.1,x.1.1.2,x.1.2.1.1,x.1.2.1.2,x.1.2.2.1,x.1.2.2.2,x.2.1.1,x.2.1.2,x.2.2.1.1,x.2.2.1.2,x.2.2.2.1,x.2.2.2.2]):=by
 show Value.agg _=Value.agg _;rw[clv,show cel [x.1.1.1,x.1.1.2,x.1.2.1.1,x.1.2.1.2,x.1.2.2.1,x.1.2.2.2,x.2.1.1,x.2.1.2,x.2.2.1.1,x.2.2.1.2,x.2.2.2.1,x.2.2.2.2]=fe x.1.1.1++(fe x.1.1.2++(fe x.1.2.1.1++(fe x.1.2.1.2++(fe x.1.2.2.1++(fe x.1.2.2.2++(fe x.2.1.1++(fe x.2.1.2++(fe x.2.2.1.1++(fe x.2.2.1.2++(fe x.2.2.2.1++fe x.2.2.2.2))))))))))from O];simp only[List.append_assoc]
end Q6
end
section
open Go.RowKit
namespace Q6
attribute [local simp] a6 bj aH aB aP aZ aQ aJ aM be bz a5 bv
attribute [local simp] rB cM
theorem uW  :PUR 165 [] (cD K12.one):=(bV O (V12 _) (pE TO61 func165 [] (.inl (.inl [K12.one.1.1.1,K12.one.1.1.2,K12.one.1.2.1.1,K12.one.1.2.1.2,K12.one.1.2.2.1,K12.one.1.2.2.2,K12.one.2.1.1,K12.one.2.1.2,K12.one.2.2.1.1,K12.one.2.2.1.2,K12.one.2.2.2.1,K12.one.2.2.2.2])) (let t0:=K6.one;(.inl (.inl [t0.1.1,t0.1.2,t0.2.1.1,t0.2.1.2,t0.2.2.1,t0.2.2.2,0,0,0,0,0,0]),[])) [] kr aE O))
theorem JD{f:Nat}{g:W12}(en:ak prog f)(h:PUR f [] (cD g)):Snd prog Gt f (c0 q12.rd g):=yf q12.rd en (bV O (V12 _).symm h)
def TO62:Tb prog Gt:=TO61.add (JD (g:=K12.one) ent165 uW)
theorem rQ(x y:W12):PUR 164 [cD x,cD y] (.bool (decide (x=y))):=by
 intro w hw;refine Hf func164 O hw<|λhGF=>Xp<|Bx 2 hGF O<|λb2=>Bx 3 hGF O<|λb3=>Asg O<|aa<|Xp<|Fa 0 O underlying211 O sizeOf209<|ay 2 _ O O isAgg209 sizeOf209 sm eu O O<|Fa 0 O underlying211 O sizeOf209<|ay 3 _ O O isAgg209 sizeOf209 sm eu O O<|?_;by_cases h:x.1=y.1
 ·refine Cbl true O ent202 (o7 _ _) (decide_eq_true h)<|Mv O<|Fa 36 O underlying211 O sizeOf209<|ay 2 _ O O isAgg209 sizeOf209 sm (jk sm) O O<|Fa 36 O underlying211 O sizeOf209<|ay 3 _ O O isAgg209 sizeOf209 sm (jk sm) O O<|Ca O (o7 _ _)<|Pk O O O<|Asg O<|aa<|am<|Rr<|?_
  exact aF O O (λw hw=>⟨rb (KX h),ac hw⟩)
 ·refine Cbl false O ent202 (o7 _ _) (decide_eq_false h)<|Mv O<|Sk<|Sk<|Sk<|Sk<|Sk<|Pk O O O<|Asg O<|aa<|am<|Rr<|?_
  exact aF O O (λw hw=>⟨rb (Lu h),ac hw⟩)
theorem jC{f:Nat}{g:W12->W12->Bool}(en:ak prog f)(h: ∀a b,PUR f [cD a,cD b] (.bool (g a b))):Snd prog Gt f (c2 q12.ag q12.ag rdB g):=gD q12.ag q12.ag rdB en (λa b=>bV (l2 (V12 _).symm (V12 _).symm) O (h a b))
def TO63:Tb prog Gt:=TO62.add (jC (g:=λx y=>decide (x=y)) ent164 rQ)
theorem mq{f:Nat}{g:W12->W12->W12}(en:ak prog f)(h: ∀a b,PUR f [cD a,cD b] (cD (g a b))):Snd prog Gt f (c2 q12.ag q12.ag q12.rd g):=gD q12.ag q12.ag q12.rd en (λa b=>bV (l2 (V12 _).symm (V12 _).symm) (V12 _).symm (h a b))
theorem CL(x:W12):PUR 201 [cD x] (cD (db x)):=(bV (l1 (V12 _)) (V12 _) (pE TO63 func201 [.inl [x.1.1.1,x.1.1.2,x.1.2.1.1,x.1.2.1.2,x.1.2.2.1,x.1.2.2.2,x.2.1.1,x.2.1.2,x.2.2.1.1,x.2.2.1.2,x.2.2.2.1,x.2.2.2.2]] (.inl (.inl [(db x).1.1.1,(db x).1.1.2,(db x).1.2.1.1,(db x).1.2.1.2,(db x).1.2.2.1,(db x).1.2.2.2,(db x).2.1.1,(db x).2.1.2,(db x).2.2.1.1,(db x).2.2.1.2,(db x).2.2.2.1,(db x).2.2.2.2])) (let t0:=K6.neg ((x.2.1.1,x.2.1.2),(x.2.2.1.1,x.2.2.1.2),(x.2.2.2.1,x.2.2.2.2));(.inl (.inl [x.1.1.1,x.1.1.2,x.1.2.1.1,x.1.2.1.2,x.1.2.2.1,x.1.2.2.2,t0.1.1,t0.1.2,t0.2.1.1,t0.2.1.2,t0.2.2.1,t0.2.2.2]),[])) [] kr aE O))
theorem eo{f:Nat}{g:W12->W12}(en:ak prog f)(h: ∀a,PUR f [cD a] (cD (g a))):Snd prog Gt f (c1 q12.ag q12.rd g):=gB q12.ag q12.rd en (λa=>bV (l1 (V12 _).symm) (V12 _).symm (h a))
theorem EC(x y:W12):PUR 218 [cD x,cD y] (cD (K12.mul x y)):=by
 intro w hw;refine Hf func218 O hw<|λhGF=>Xp<|Bx 2 hGF O<|λb2=>Bx 3 hGF O<|λb3=>Al 4 hGF zv211<|λb4=>aa<|fM (E:=EE [2999999]) [0,1,2,3,4,5,6,7,8,9] [⟨10,5,209,((fe 0++fe 0)++((fe 0++fe 0)++(fe 0++fe 0))).map U64⟩,⟨11,6,209,((fe 0++fe 0)++((fe 0++fe 0)++(fe 0++fe 0))).map U64⟩] [12,13] cV O kr kr kr kr kr kr dc (by intro x hx;simp only[List.mem_cons,List.not_mem_nil,or_false]at hx;rcases hx with rfl|rfl<;>exact bE O zv209 O)<|Fa 0 O underlying211 O sizeOf209<|ay 2 _ O O isAgg209 sizeOf209 sm eu O O<|Fa 0 O underlying211 O sizeOf209<|ay 3 _ O O isAgg209 sizeOf209 sm eu O O<|Ca O (nK _ _)<|Fa 36 O underlying211 O sizeOf209<|ay 2 _ O O isAgg209 sizeOf209 sm (jk sm) O O<|Fa 36 O underlying211 O sizeOf209<|ay 3 _ O O isAgg209 sizeOf209 sm (jk sm) O O<|Ca O (nK _ _)<|aa<|?_
 refine ⟨_,_,rfl,hGF,by intro x hx;simp only[List.mem_cons,List.not_mem_nil,or_false]at hx;rcases hx with rfl|rfl<;>rfl,by intro x hx;simp only[List.mem_cons,List.not_mem_nil,or_false]at hx;rcases hx with rfl|rfl<;>rfl,λadr=> ?_⟩
 refine Sa 5 hGF O O O dv<|Sa 6 hGF O O O dv<|aa<|Xa [0,1,2,3,4,5,6,7,8,9,10] ⟨11,7,209,((fe 0++fe 0)++((fe 0++fe 0)++(fe 0++fe 0))).map U64⟩ [12] (bE O zv209 O)<|Fa 0 O underlying211 O sizeOf209<|ay 2 _ O O isAgg209 sizeOf209 sm eu O O<|Fa 36 O underlying211 O sizeOf209<|ay 2 _ O O isAgg209 sizeOf209 sm (jk sm) O O<|Ca O (oe _ _)<|Fa 0 O underlying211 O sizeOf209<|ay 3 _ O O isAgg209 sizeOf209 sm eu O O<|Fa 36 O underlying211 O sizeOf209<|ay 3 _ O O isAgg209 sizeOf209 sm (jk sm) O O<|Ca O (oe _ _)<|Ca O (nK _ _)<|aa<|?_;refine ⟨_,_,rfl,hGF,by intro x hx;simp only[List.mem_cons,List.not_mem_nil,or_false]at hx;subst hx;rfl,by intro x hx;simp only[List.mem_cons,List.not_mem_nil,or_false]at hx;subst hx;rfl,λadr=> ?_⟩
 refine Sa 7 hGF O O O dv<|aa<|Xd []<|La 5 O O dv<|La 6 O O dv<|Ca O (k6v _)<|Ca O (oe _ _)<|La 7 O O dv<|La 5 O O dv<|Ca O (rT _ _)<|La 6 O O dv<|Ca O (rT _ _)<|cr u7 O O sm sm O O<|Sa 4 hGF O O O gY<|aa<|am<|Rr<|?_;exact av 4 O O O isAgg211 sizeOf211 sm (λw hw=>⟨e12 (zq K6 [x.1,x.2,y.1,y.2,VV] (ta (tm j0 j2) (tvv 4 (tm j1 j3) O)) (ta (tm j0 j2) (tm j4 (tm j1 j3)))) (zq K6 [x.1,x.2,y.1,y.2,VV] (ER (ER (tm (ta j0 j1) (ta j2 j3)) (tm j0 j2)) (tm j1 j3)) (ta (tm j0 j3) (tm j1 j2))),ac hw⟩)
theorem nS(x:W12):PUR 197 [cD x] (cD (K12.mul x x)):=by
 intro w hw;refine Hf func197 O hw<|λhGF=>Xp<|Bx 1 hGF O<|λb1=>Al 2 hGF zv211<|λb2=>aa<|Xp<|Fa 0 O underlying211 O sizeOf209<|ay 1 _ O O isAgg209 sizeOf209 sm eu O O<|Fa 36 O underlying211 O sizeOf209<|ay 1 _ O O isAgg209 sizeOf209 sm (jk sm) O O<|Ca O (nK _ _)<|Al 3 hGF zv209<|λb3=>Sa 3 hGF O O O dv<|aa<|Xa [0,1,2,3,4,5,6,7,8,9,10,11] ⟨12,4,209,((fe 0++fe 0)++((fe 0++fe 0)++(fe 0++fe 0))).map U64⟩ [13] (bE O zv209 O)<|Fa 0 O underlying211 O sizeOf209<|ay 1 _ O O isAgg209 sizeOf209 sm eu O O<|Fa 36 O underlying211 O sizeOf209<|ay 1 _ O O isAgg209 sizeOf209 sm (jk sm) O O<|Ca O (oe _ _)<|Fa 0 O underlying211 O sizeOf209<|ay 1 _ O O isAgg209 sizeOf209 sm eu O O<|Fa 36 O underlying211 O sizeOf209<|ay 1 _ O O isAgg209 sizeOf209 sm (jk sm) O O<|Ca O (k6v _)<|Ca O (oe _ _)<|Ca O (nK _ _)<|aa<|?_;refine ⟨_,_,rfl,hGF,by intro x hx;simp only[List.mem_cons,List.not_mem_nil,or_false]at hx;subst hx;rfl,by intro x hx;simp only[List.mem_cons,List.not_mem_nil,or_false]at hx;subst hx;rfl,λadr=> ?_⟩
 refine Sa 4 hGF O O O dv<|aa<|Xd []<|La 4 O O dv<|La 3 O O dv<|Ca O (rT _ _)<|La 3 O O dv<|Ca O (k6v _)<|Ca O (rT _ _)<|La 3 O O dv<|La 3 O O dv<|Ca O (oe _ _)<|cr u7 O O sm sm O O<|Sa 2 hGF O O O gY<|aa<|am<|Rr<|?_;exact av 2 O O O isAgg211 sizeOf211 sm (λw hw=>⟨e12 (zq K6 [x.1,x.2,VV] (ER (ER (tm (ta j0 j1) (ta j0 (tvv 2 j1 O))) (tm j0 j1)) (tvv 2 (tm j0 j1) O)) (ta (tm j0 j0) (tm j2 (tm j1 j1)))) (zq K6 [x.1,x.2,VV] (ta (tm j0 j1) (tm j0 j1)) (ta (tm j0 j1) (tm j1 j0))),ac hw⟩)
theorem Rv(x:W12):sb6 (K6.mul x.1 x.1) (v6 (K6.mul x.2 x.2))=qnm K6 VV x:=zq K6 [x.1,x.2,VV] (ER (tm j0 j0) (tvv 2 (tm j1 j1) O)) (ta (tm j0 j0) (tn (tm j2 (tm j1 j1))))
theorem XN(x:W12)(n:W6):K6.mul x.1 n=K6.add (K6.mul x.1 n) (K6.mul VV (K6.mul (K6.neg x.2) K6.zero)):=zq K6 [x.1,x.2,n,VV] (tm j0 j2) (ta (tm j0 j2) (tm j3 (tm (tn j1) tz0)))
theorem XH(x:W12)(n:W6):K6.neg (K6.mul x.2 n)=K6.add (K6.mul x.1 K6.zero) (K6.mul (K6.neg x.2) n):=zq K6 [x.1,x.2,n] (tn (tm j1 j2)) (ta (tm j0 tz0) (tm (tn j1) j2))
theorem Vt(x:W12):PUR 220 [cD x] (cD (tY x)):=by
 intro w hw;refine Hf func220 O hw<|λhGF=>Xp<|Bx 1 hGF O<|λb1=>Al 2 hGF zv211<|λb2=>aa<|Xa [0,1,2,3,4,5,6,7] ⟨8,3,209,((fe 0++fe 0)++((fe 0++fe 0)++(fe 0++fe 0))).map U64⟩ [9] (bE O zv209 O)<|Fa 0 O underlying211 O sizeOf209<|ay 1 _ O O isAgg209 sizeOf209 sm eu O O<|Ca O (nt _)<|Fa 36 O underlying211 O sizeOf209<|ay 1 _ O O isAgg209 sizeOf209 sm (jk sm) O O<|Ca O (nt _)<|Ca O (k6v _)<|Ca O (rT _ _)<|aa<|?_;refine ⟨_,_,rfl,hGF,by intro x hx;simp only[List.mem_cons,List.not_mem_nil,or_false]at hx;subst hx;rfl,by intro x hx;simp only[List.mem_cons,List.not_mem_nil,or_false]at hx;subst hx;rfl,λadr=> ?_⟩
 refine Sa 3 hGF O O O dv<|aa<|Xp<|La 3 O O dv<|Ca O (Gv _)<|Al 4 hGF zv209<|λb4=>Sa 4 hGF O O O dv<|aa<|Xd []<|Fa 0 O underlying211 O sizeOf209<|ay 1 _ O O isAgg209 sizeOf209 sm eu O O<|La 4 O O dv<|Ca O (nK _ _)<|Fa 36 O underlying211 O sizeOf209<|ay 1 _ O O isAgg209 sizeOf209 sm (jk sm) O O<|La 4 O O dv<|Ca O (nK _ _)<|Ca O (FN _)<|cr u7 O O sm sm O O<|Sa 2 hGF O O O gY<|aa<|am<|Rr<|?_;exact av 2 O O O isAgg211 sizeOf211 sm (λw hw=>⟨by rw[Rv];exact e12 (XN _ _) (XH _ _),ac hw⟩)
end Q6
end
def GV:Nat->W2
 |0=>on2
 |n+1=>ml2 (cj2 (GV n)) GA
theorem U5:cj2 on2=on2:=by decide+kernel
theorem Gg(y:W2): ∀k,cj2 (pw2 y k)=pw2 (cj2 y) k
 |0=>U5
 |k+1=>by rw[ou,ge,Gg y k,ou]
theorem Ah(a b:W2)(k:Nat):ml2 (pw2 a k) (pw2 b k)=pw2 (ml2 a b) k:=(R2.mul_pw a b k).symm
def frq(c:W2)(n k:Nat):W2:=ml2 (cjn n c) (pw2 (GV n) k)
theorem sR(c:W2)(n k:Nat):ml2 (cj2 (frq c n k)) (pw2 GA k)=frq c (n+1) k:=by
 rw[frq,ge,Wi,yX,Gg,Ah];rfl
theorem sZ(c:W2)(k:Nat):frq c 0 k=c:=by
 have e:pw2 (GV 0) k=on2:=R2.one_pw k;rw[frq,e];exact R2.mul_one c
theorem CE(x:W12): ∀n,jT x n=((frq x.1.1 n 0,frq x.1.2.1 n 2,frq x.1.2.2 n 4),(frq x.2.1 n 1,frq x.2.2.1 n 3,frq x.2.2.2 n 5))
 |0=>by rw[sZ,sZ,sZ,sZ,sZ,sZ];rfl
 |n+1=>by
  rw[jT,CE x n];exact Prod.ext (Prod.ext (sR _ _ _) (Prod.ext (sR _ _ _) (sR _ _ _))) (Prod.ext (sR _ _ _) (Prod.ext (sR _ _ _) (sR _ _ _)))
/-! ### The sixth root, as numbers -/
def sxh:Nat:=(sx-1) / 2
def CNn:Nat:=151655185184498381465642749684540099398075398968325446656007613510403227271200139370504932015952886146304766135027
theorem C7:2*sxh+1=sx:=by decide+kernel
theorem JU:4*(sxh / 4)+3=sxh:=by decide+kernel
theorem S8(c:Zp):pw2 (0,c) sxh=(0,-(c^sxh)):=by
 have h:=aaX c (sxh / 4);rw[JU]at h;exact h
theorem Ql:pm 2 PP (64*6) sxh+CNn=PP:=by decide+kernel
theorem Un: -(zp 2^sxh)=zp CNn:=tX (by
 rw[AO 2 sxh (64*6) (Fl ep (by have:=sx_val;have:=C7;have:=mo;omega)),<-gg,Ql,mJ])
theorem z7:GA=(-(zp CNn),zp CNn):=by
 have e:pw2 XI sx=ml2 (pw2 (pw2 XI 2) sxh) XI:=by rw[<-CA,<-C7];rfl
 rw[GA,e,XQ,S8,Un];generalize zp CNn=a;refine bI ?_ ?_
 ·show 0*1-a*1= -a
  rw[r9,r9,aaC]
 ·show 0*1+a*1=a
  rw[r9,r9,YW]
end Go.Proofs.YtjookodjbjabbaaGreatDoor
