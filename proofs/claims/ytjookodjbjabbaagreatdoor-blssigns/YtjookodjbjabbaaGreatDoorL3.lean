/- L3 -/
import Derived.Test.YtjookodjbjabbaaGreatDoorL2
import Derived.Test.YtjookodjbjabbaaGreatDoorXW
import Derived.Test.YtjookodjbjabbaaGreatDoorX3
import Derived.Test.YtjookodjbjabbaaGreatDoorL1
set_option maxRecDepth 100000
set_option maxHeartbeats 1000000
namespace Go.Proofs.YtjookodjbjabbaaGreatDoor
open Go.Proofs.Tryz
section
open Go.RowKit
attribute [local simp] a7 bv aJ aB aQ a5 aT aK aO bf bC a6 bz J1.bE J2.bE cf fC
def X1(bs:L8):Zp:=zp (BN (LO bs 0) 48)
def X2(bs:L8):W2:=(zp (BN (LO bs 48) 48),zp (BN (LO bs 0) 48))
def LB(bs:L8):Bool:=FG bs &&& 32#8 !=0#8
def NY{α:Type}(z:α)(inG:Option (α×α)→Prop)(l:Bool)(x y:α)(c:Int)(P:Option (α×α)):Prop:=
 ((l=true∧y=z)∧c=103∧P=none)∨(¬(l=true∧y=z)∧((¬inG (some (x,y))∧c=104∧P=none)∨(inG (some (x,y))∧c=0∧P=some (x,y))))
def FLG(bs:L8)(n:Nat){α:Type}(c:Int)(P:Option α)(R:Prop):Prop:=
 (¬bs.length=n∧c=100∧P=none)∨(bs.length=n∧((FG bs &&& 128#8=0#8∧c=101∧P=none)∨(¬FG bs &&& 128#8=0#8∧((¬FG bs &&& 64#8=0#8∧c=INF bs n∧P=none)∨(FG bs &&& 64#8=0#8∧R)))))
def D1(bs:L8)(c:Int)(P:Pt Zp):Prop:=FLG bs 48 c P ((¬BN (LO bs 0) 48<PP∧c=102∧P=none)∨(BN (LO bs 0) 48<PP∧
 ((¬J1.LQ (X1 bs)∧c=103∧P=none)∨(J1.LQ (X1 bs)∧NY 0 (fun Q=>E1.times Q ORD=none) (LB bs) (X1 bs) (J1.LY (X1 bs) (LB bs)) c P))))
def D2(bs:L8)(c:Int)(P:Pt W2):Prop:=FLG bs 96 c P ((¬(BN (LO bs 48) 48<PP∧BN (LO bs 0) 48<PP)∧c=102∧P=none)∨((BN (LO bs 48) 48<PP∧BN (LO bs 0) 48<PP)∧
 ((¬J2.LQ (X2 bs)∧c=103∧P=none)∨(∃r,ml2 r r=J2.RS4 (X2 bs)∧LG2 r=false∧NY ze2 (fun Q=>E2w.times Q ORD=none) (LB bs) (X2 bs) (J2.sgY r (LB bs)) c P))))
theorem yz1{y:Zp}:((y,0):W2)=ze2↔y=0:=⟨fun h=>congrArg Prod.fst h,fun h=>by rw[h];rfl⟩
end
section
theorem bv_a: ∀b:BitVec 8,b &&& 224#8=0#8→(b|||128#8) &&& 31#8=b∧((b|||128#8)|||32#8) &&& 31#8=b∧¬((b|||128#8) &&& 224#8) &&& 128#8=0#8∧¬(((b|||128#8)|||32#8) &&& 224#8) &&& 128#8=0#8∧((b|||128#8) &&& 224#8) &&& 64#8=0#8∧(((b|||128#8)|||32#8) &&& 224#8) &&& 64#8=0#8∧((b|||128#8) &&& 224#8) &&& 32#8=0#8∧¬(((b|||128#8)|||32#8) &&& 224#8) &&& 32#8=0#8:=by decide+kernel
def ENF(B:L8)(l:Bool):L8:=if l=true then OR0 (OR0 B 128#8) 32#8 else OR0 B 128#8
theorem XO(b:BitVec 8)(r:L8):MK (b::r)=(b &&& 31#8)::r:=rfl
theorem Dw(b:BitVec 8)(r:L8):FG (b::r)=b &&& 224#8:=rfl
theorem Dj(b:BitVec 8)(r:L8):ENF (b::r) true=((b|||128#8)|||32#8)::r:=rfl
theorem Cx(b:BitVec 8)(r:L8):ENF (b::r) false=(b|||128#8)::r:=rfl
theorem pI(B:L8)(l:Bool):(ENF B l).length=B.length:=by
 cases l<;>simp[ENF,fC]
structure Top(B:L8):Prop where
 ne:0<B.length
 lt:B.getD 0 0 &&& 224#8=0#8
theorem BI{B:L8}(h:Top B)(l:Bool):MK (ENF B l)=B∧¬FG (ENF B l) &&& 128#8=0#8∧FG (ENF B l) &&& 64#8=0#8∧LB (ENF B l)=l:=by
 cases B with
 |nil=>exact absurd h.ne dc
 |cons b r=>
  obtain ⟨h1,h2,h3,h4,h5,h6,h7,h8⟩:=bv_a b h.lt
  cases l with
  |true=>exact ⟨by rw[Dj,XO,h2],by rw[Dj,Dw];exact h4,by rw[Dj,Dw];exact h6,by rw[LB,Dj,Dw];exact bne_iff_ne.2 h8⟩
  |false=>exact ⟨by rw[Cx,XO,h1],by rw[Cx,Dw];exact h3,by rw[Cx,Dw];exact h5,by rw[LB,Cx,Dw];exact bne_eq_false_iff_eq.2 h7⟩
/-! ### Numbers below p have noughts there -/
theorem Jd(bs:L8): ∀n,(bs.getD 0 0).toNat*256^n≤BN bs (n+1)
 |0=>by rw[BN,BN];omega
 |n+1=>by
  have:=Jd bs n
  rw[BN,Nat.pow_succ]
  generalize 256^n=p at*
  generalize BN bs (n+1)=q at*
  generalize (bs.getD 0 0).toNat=t at*
  have:t*(p*256)=t*p*256:=by rw[Nat.mul_assoc]
  omega
theorem Uo:PP<32*256^47:=by decide+kernel
theorem bv_t: ∀b:BitVec 8,b.toNat<32→b &&& 224#8=0#8:=by decide+kernel
theorem S6{bs:L8}(h:bs.length=48)(hl:BN bs 48<PP):Top bs:=by
 refine ⟨om,bv_t _ ?_⟩
 have h1:=Jd bs 47
 have h2:=Uo
 generalize (bs.getD 0 0).toNat=t at*
 have h3:t*256^47<32*256^47:=Nat.lt_of_le_of_lt h1 (Nat.lt_trans hl h2)
 exact Nat.lt_of_mul_lt_mul_right h3
theorem pC(x:Zp):BN (ch x) 48<PP:=by rw[CS];exact x.isLt
theorem xw(x:Zp):Top (ch x):=S6 (aO x) (pC x)
theorem vB(x:Zp):zp (BN (ch x) 48)=x:=by
 rw[CS];exact td x
end
section
def EN1:Pt Zp→L8
 |none=>(List.replicate 48 0#8).set 0 192#8
 |some p=>ENF (ch p.1) (LG2 (p.2,0))
def EN2:Pt W2→L8
 |none=>(List.replicate 96 0#8).set 0 192#8
 |some p=>ENF (ch p.1.2++ch p.1.1) (LG2 p.2)
theorem NN(x y:Zp):EN1 (some (x,y))=ENF (ch x) (LG2 (y,0)):=rfl
theorem Pl(x y:W2):EN2 (some (x,y))=ENF (ch x.2++ch x.1) (LG2 y):=rfl
theorem aa4(y:Zp):ng2 (y,0)=(-y,0):=bO rfl (by show-(0:Zp)=0;exact z_n0')
theorem LD{y:Zp}(h:y≠0):LG2 (-y,0)= !LG2 (y,0):=by
 rw[←aa4];exact pG (fun e=>h (yz1.1 e))
/-! ### Roots -/
theorem PM{x y:Zp}(h:y*y=J1.RS4 x):J1.LQ x:=by
 show SQr (J1.RS4 x)*SQr (J1.RS4 x)=J1.RS4 x
 rw[←h];exact Af y
theorem aaN{x y:Zp}(h:y*y=J1.RS4 x):J1.LY x (LG2 (y,0))=y:=by
 have hq:=PM h
 have s:=Ym y
 have sm:LG2 (SQ (J1.RS4 x),0)=false:=Pv (lh hq)
 rw[h]at s
 cases hl:LG2 (y,0)with
 |false=>
  rw[J1.aaQ hq]
  generalize SQ (J1.RS4 x)=t at*
  rcases s with e|e
  ·exact e
  ·by_cases h0:y=0
   ·rw[e,h0];exact z_n0'
   ·rw[e,LD h0,hl]at sm;cases sm
 |true=>
  rw[J1.abb hq]
  generalize SQ (J1.RS4 x)=t at*
  rcases s with e|e
  ·rw[e,hl]at sm;cases sm
  ·rw[e];exact J1.JM y
theorem Xy{x y:W2}(h:ml2 y y=J2.RS4 x): ∃r,ml2 r r=J2.RS4 x∧LG2 r=false∧J2.sgY r (LG2 y)=y:=by
 cases hl:LG2 y with
 |false=>exact ⟨y,h,hl,rfl⟩
 |true=>
  have h0:y≠ze2:=fun e=>by rw[e,uN]at hl;cases hl
  exact ⟨ng2 y,(J2.Pq y).trans h,by rw[pG h0,hl];rfl,R2.neg_neg y⟩
/-! ### Written and read -/
theorem KN{bs:L8}(h:bs.length=48):LO bs 0=MK bs:=by
 rw[LO,List.drop_zero];exact List.take_of_length_le (by rw[cf];omega)
theorem R9{x y:Zp}(on:E1.on (x,y)){c:Int}{Q:Pt Zp}(h:NY 0 (fun Q=>E1.times Q ORD=none) (LG2 (y,0)) x y c Q):D1 (EN1 (some (x,y))) c Q:=by
 have hy:=J1.oz.1 on
 obtain ⟨m,f,s,l⟩:=BI (xw x) (LG2 (y,0))
 have hlen:(EN1 (some (x,y))).length=48:=(pI _ _).trans (aO x)
 have lo:LO (EN1 (some (x,y))) 0=ch x:=(KN hlen).trans m
 have ex:X1 (EN1 (some (x,y)))=x:=by rw[X1,lo,vB]
 refine .inr ⟨hlen,.inr ⟨f,.inr ⟨s,.inr ⟨by rw[lo];exact pC x,.inr ?_⟩⟩⟩⟩
 rw[ex,show LB (EN1 (some (x,y)))=LG2 (y,0)from l,aaN hy]
 exact ⟨PM hy,h⟩
theorem LO_2{a b:L8}{bs:L8}(ha:a.length=48)(hb:b.length=48)(h:MK bs=a++b):LO bs 0=a∧LO bs 48=b:=by
 rw[LO,LO,h,List.drop_zero]
 exact ⟨List.take_left' ha,by rw[List.drop_left' ha];exact List.take_of_length_le om⟩
theorem MV{a b:L8}(h:Top a):Top (a++b):=by
 cases a with
 |nil=>exact absurd h.ne dc
 |cons x r=>exact ⟨sm,h.lt⟩
theorem Rp{x y:W2}(on:E2w.on (x,y)){c:Int}{Q:Pt W2}(h:NY ze2 (fun Q=>E2w.times Q ORD=none) (LG2 y) x y c Q):D2 (EN2 (some (x,y))) c Q:=by
 have hy:=J2.oz.1 on
 obtain ⟨m,f,s,l⟩:=BI (MV (b:=ch x.1) (xw x.2)) (LG2 y)
 have hlen:(EN2 (some (x,y))).length=96:=(pI _ _).trans (by rw[List.length_append,aO,aO])
 obtain ⟨l0,l48⟩:=LO_2 (bs:=EN2 (some (x,y))) (aO x.2) (aO x.1) m
 have ex:X2 (EN2 (some (x,y)))=x:=by rw[X2,l0,l48,vB,vB]
 obtain ⟨r,hr,hs,e⟩:=Xy hy
 refine .inr ⟨hlen,.inr ⟨f,.inr ⟨s,.inr ⟨by rw[l0,l48];exact ⟨pC _,pC _⟩,.inr ⟨r, ?_⟩⟩⟩⟩⟩
 rw[ex,show LB (EN2 (some (x,y)))=LG2 y from l,e]
 exact ⟨hr,hs,h⟩
theorem M3:D1 (EN1 none) 0 none:=.inr ⟨dc,.inr ⟨dc,.inl ⟨dc,by decide+kernel,rfl⟩⟩⟩
theorem Md:D2 (EN2 none) 0 none:=.inr ⟨dc,.inr ⟨dc,.inl ⟨dc,by decide+kernel,rfl⟩⟩⟩
theorem OK{α:Type}{z:α}{inG:Option (α×α)→Prop}{l:Bool}{x y:α}(h: ¬(l=true∧y=z))(g:inG (some (x,y))):NY z inG l x y 0 (some (x,y)):=.inr ⟨h,.inr ⟨g,rfl,rfl⟩⟩
theorem TY{y:Zp}: ¬(LG2 (y,0)=true∧y=0):=fun ⟨h,e⟩=>by
 rw[e,show ((0,0):W2)=ze2 from rfl,uN]at h;cases h
theorem R5{y:W2}: ¬(LG2 y=true∧y=ze2):=fun ⟨h,e⟩=>by
 rw[e,uN]at h;cases h
theorem rP{P:Pt Zp}(on:E1.onP P)(g:E1.times P ORD=none):D1 (EN1 P) 0 P:=by
 cases P with
 |none=>exact M3
 |some p=>exact R9 (x:=p.1) (y:=p.2) on (OK TY g)
theorem YL{P:Pt W2}(on:E2w.onP P)(g:E2w.times P ORD=none):D2 (EN2 P) 0 P:=by
 cases P with
 |none=>exact Md
 |some p=>exact Rp (x:=p.1) (y:=p.2) on (OK R5 g)
end
section
open Go.RowKit
attribute [local simp] a7 bv aJ aB aQ a5 aT aK aO bf bC a6 bz J1.bE J2.bE cf fC
theorem qi(xs:L8)(a1:Option Addr)(len1 cap1:Nat)(a2:Option Addr)(len2 cap2:Nat)(hl1:xs.length=len1)(hl2:xs.length=len2)(w:World)(hw:Gt w)(h1:BytesAt w a1 xs)(h2:BytesAt w a2 xs):
 CLS 15 [.slice a1 len1 cap1,.slice a2 len2 cap2].toArray w (fun e w'=>e=.returned (.bool true)∧Grow w w'):=by
 refine Hf func15 rfl hw<|fun hGF=>Xp<|Asg rfl<|aa<|Xp<|Mv rfl<|wm rfl rfl (fun w' hw'=>vS underlying22 underlying5 underlying9 (h1.grow (ac hw')) _ _ hl1) rfl rfl<|Mv rfl<|wm rfl rfl (fun w' hw'=>vS underlying22 underlying5 underlying9 (h2.grow (ac hw')) _ _ hl2) rfl rfl<|Bnr (v:=.bool true) rfl rfl (fun w=>zZ _ _ w)<|Asg rfl<|aa<|am<|Rr<|?_
 exact aG rfl rfl (fun w hw=>⟨rfl,ac hw⟩)
end
section
open Go.RowKit
attribute [local simp] a7 bv aJ aB aQ a5 aT aK aO bf bC a6 bz J1.bE J2.bE cf fC
theorem ent93:ak prog 93:=fun _ _=>kr
theorem ent150:ak prog 150:=fun _ _=>kr
theorem ent92:ak prog 92:=fun _ _=>kr
theorem ent45:ak prog 45:=fun _ _=>kr
theorem ent161:ak prog 161:=fun _ _=>kr
theorem OY(h:Bool):PUR 72 [.bool false,.bool h] (U8 192#8):=by
 intro w hw
 refine Hf func72 rfl hw<|fun hGF=>Xp<|Asg rfl<|aa<|ah<|ai<|Xp<|Mv rfl<|bu rfl (fun _=>a9 _) rfl rfl<|Asg rfl<|aa<|aR rfl<|Xp<|Asg rfl<|aa<|am<|Rr<|?_
 exact aG rfl rfl (fun w hw=>⟨rfl,ac hw⟩)
theorem Oz  :PUR 72 [.bool true,.bool true] (U8 160#8):=by
 intro w hw
 refine Hf func72 rfl hw<|fun hGF=>Xp<|Asg rfl<|aa<|ah<|ai<|Xp<|Mv rfl<|bu rfl (fun _=>a9 _) rfl rfl<|Asg rfl<|aa<|aC rfl<|Xp<|Mv rfl<|Asg rfl<|aa<|aR rfl<|Xp<|Asg rfl<|aa<|am<|Rr<|?_
 exact aG rfl rfl (fun w hw=>⟨rfl,ac hw⟩)
theorem PN  :PUR 72 [.bool true,.bool false] (U8 128#8):=by
 intro w hw
 refine Hf func72 rfl hw<|fun hGF=>Xp<|Asg rfl<|aa<|ah<|ai<|Xp<|Mv rfl<|bu rfl (fun _=>a9 _) rfl rfl<|Asg rfl<|aa<|aC rfl<|Xp<|Mv rfl<|Asg rfl<|aa<|aC rfl<|aq<|Xp<|Asg rfl<|aa<|am<|Rr<|?_
 exact aG rfl rfl (fun w hw=>⟨rfl,ac hw⟩)
theorem Qg{bs:L8}(h:0<bs.length):[bs.getD 0 0 &&& 31#8]++bs.drop 1=MK bs:=by
 cases bs with
 |nil=>cases h
 |cons a r=>rfl
theorem BytesAt.cut3{w:World}{a:Option Addr}{rs:L8}(h:BytesAt w a rs)(l k m:Nat)(hm: ¬m=l):BytesAt w (if m=l then a else a.map (·.add (l*1))) ((rs.drop l).take k):=by
 have e:=h.cut (cap:=rs.length+l+1) l k om
 rw[if_neg om]at e
 rw[if_neg hm]
 exact e
theorem BytesAt.tail{w:World}{a:Option Addr}{rs:L8}(h:BytesAt w a rs):BytesAt w (if rs.length=1 then a else a.map (·.add (1*1))) (rs.drop 1):=by
 have e:=h.cut (cap:=rs.length) 1 rs.length (Nat.le_refl _)
 rw[List.take_of_length_le (by rw[List.length_drop];omega)]at e
 exact e
theorem Ap(e:Option Addr)(cap:Nat)(bs:L8)(h0:0<bs.length)(hl:bs.length≤1000)(hcap:bs.length≤cap)(w:World)(hw:Gt w)(hby:BytesAt w e bs):CLS 93 [.slice e bs.length cap].toArray w (fun r w'=> ∃b7 c7 k7,r=.returned (.slice (spt b7) bs.length k7)∧Grow w w'∧w.heap.size≤b7∧OwnB w' b7 c7 5∧c7.take bs.length=(MK bs).map U8∧bs.length≤k7):=by
 refine Hf func93 rfl hw<|fun hGF=>Xp<|Asg rfl<|aa<|GZ (E:=EE []) [0,1,2,3,5,6,7,8,9,10,4,11,12] cL rfl kr kr kr<|Mv rfl<|?_
 obtain ⟨ad,rfl,_⟩:=hby 0 _ (gm U8 bs 0 0 om)
 refine gY 0 rfl rfl underlying22 sizeOf5 rfl om rfl rfl<|bT rfl isAgg5 (fun w' h=>by obtain ⟨ad',e,hc⟩:=(hby.grow (ac h)) 0 _ (gm U8 bs 0 0 om);cases e;exact hc) rfl rfl<|Bnr (v:=U8 (bs.getD 0 0 &&& 31#8)) rfl rfl (fun _=>sE _ _ 224#8)<|Mv rfl<|Mv rfl<|bi rfl (fun _=>aI underlying22 _ _ _ _) rfl rfl<|Mv rfl<|bi rfl (fun _=>aI underlying22 _ _ _ _) rfl rfl<|gF (l:=1) (h':=bs.length) (m:=bs.length) rfl underlying22 sizeOf5 rfl rfl rfl ⟨om,Nat.le_refl _,hcap⟩ rfl rfl<|ek 7 [bs.getD 0 0 &&& 31#8] hGF rfl rfl rfl dc dc underlying22 sizeOf5 zeroValue5 rfl rfl<|?_
 intro b7
 refine cu (xs:=[bs.getD 0 0 &&& 31#8]) (ys:=bs.drop 1) 7 hGF rfl (by rw[List.length_drop];rfl) underlying22 underlying22 ti5 (.inr ⟨b7,_,rfl,rfl,rfl,Nat.le_refl _,rfl⟩) (fun w' h=>(hby.grow (ac h)).tail) (by simp;omega) rfl rfl (fun h0=>absurd h0 (List.cons_ne_nil _ _)) (fun b8 c8 k8 q1 q2 q3=> ?_)
 rw[Qg h0]at q2 q3
 rw[cf]at q2 q3
 refine Asg rfl<|aa<|am<|Rr<|?_
 exact aG rfl rfl (fun w hw=>⟨b8,c8,k8,by rw[Qg h0,cf],ac hw,(hw.own 7 b8 _ _ rfl).2.elim id False.elim,(hw.own 7 b8 _ _ rfl).1,q3,q2⟩)
def NQ(bs:L8):Bool:=decide (∀j,j<bs.length→bs.getD j 0=0#8)
theorem Xl{bs:L8}(h: ∀j,j<bs.length→bs.getD j 0=0#8):NQ bs=true:=decide_eq_true h
theorem NQ_f{bs:L8}{i:Nat}(hi:i<bs.length)(h: ¬bs.getD i 0=0#8):NQ bs=false:=decide_eq_false (fun k=>h (k i hi))
theorem Hi(e:Option Addr)(cap:Nat)(bs:L8)(hL:bs.length≤1000)(w:World)(hw:Gt w)(hby:BytesAt w e bs):CLS 150 [.slice e bs.length cap].toArray w (fun r w'=>r=.returned (.bool (NQ bs))∧Grow w w'):=by
 refine Hf func150 rfl hw<|fun hGF=>Xp<|Asg rfl<|aa<|ah<|Xp<|Mv rfl<|bi rfl (fun _=>aI underlying22 _ _ _ _) rfl rfl<|Mv rfl<|aa<|ai<|bL (ι:={i:Nat // i≤bs.length∧∀j,j<i→bs.getD j 0=0#8}) (fun y=>[(5,.slice e bs.length cap),(6,I (bs.length:Int)),(7,I (y.1:Int))]) (fun y=>[]) (fun y=>bs.length-y.1) ⟨0,Nat.zero_le _,fun _ h=>absurd h (Nat.not_lt_zero _)⟩ hGF trv trivial<|?_
 rintro ⟨i,hi,hall⟩
 dsimp only
 by_cases hz:bs.getD i 0=0#8
 ·refine Xp<|Bnr rfl rfl (fun _=>az _ _ _)<|aa<|ah<|?_
  refine bG rfl (fun hc=> ?_) (fun hc=> ?_)
  ·have hi2:i<bs.length:=by simp at hc;omega
   refine aq<|ah<|ai<|Xp<|?_
   obtain ⟨ad,rfl,_⟩:=hby i _ (gm U8 bs 0 i om)
   refine gY i rfl rfl underlying22 sizeOf5 rfl om rfl rfl<|bT (v:=U8 (bs.getD i 0)) rfl isAgg5 (fun w' h=>by obtain ⟨ad',e,hc⟩:=(hby.grow (ac h)) i _ (gm U8 bs 0 i om);cases e;exact hc) rfl rfl<|Asg rfl<|aa<|Xp<|Mv rfl<|Bnb false rfl rfl (fun _=>dk _ _ 0#8) (bne_eq_false_iff_eq.2 hz)<|aa<|aC rfl<|aq<|Xq<|Bnr rfl rfl (fun _=>au _ _ _ oi)<|Mv rfl<|aa<|?_
   repeat (refine aP ?_)
   refine aD ?_
   have hall': ∀j,j<i+1→bs.getD j 0=0#8:=fun j hj=>by
    rcases Nat.lt_or_ge j i with h|h
    ·exact hall j h
    ·obtain rfl:j=i:=om
     exact hz
   exact ⟨rfl,⟨i+1,om,hall'⟩,_,by show bs.length-(i+1)<bs.length-i;omega,rfl,trv,trivial⟩
  ·obtain rfl:i=bs.length:=by simp at hc;omega
   refine aW<|Xp<|Asg rfl<|aa<|am<|Rr<|?_
   exact aG rfl rfl (fun w hw=>⟨by rw[Xl hall];rfl,ac hw⟩)
 ·refine Xp<|Bnr rfl rfl (fun _=>az _ _ _)<|aa<|ah<|?_
  refine bG rfl (fun hc=> ?_) (fun hc=> ?_)
  ·have hi2:i<bs.length:=by simp at hc;omega
   refine aq<|ah<|ai<|Xp<|?_
   obtain ⟨ad,rfl,_⟩:=hby i _ (gm U8 bs 0 i om)
   refine gY i rfl rfl underlying22 sizeOf5 rfl om rfl rfl<|bT (v:=U8 (bs.getD i 0)) rfl isAgg5 (fun w' h=>by obtain ⟨ad',e,hc⟩:=(hby.grow (ac h)) i _ (gm U8 bs 0 i om);cases e;exact hc) rfl rfl<|Asg rfl<|aa<|Xp<|Mv rfl<|Bnb true rfl rfl (fun _=>dk _ _ 0#8) (bne_iff_ne.2 hz)<|aa<|aR rfl<|Xp<|Asg rfl<|aa<|am<|Rr<|?_
   exact aG rfl rfl (fun w hw=>⟨by rw[NQ_f hi2 hz];rfl,ac hw⟩)
  ·obtain rfl:i=bs.length:=by simp at hc;omega
   refine aW<|Xp<|Asg rfl<|aa<|am<|Rr<|?_
   exact aG rfl rfl (fun w hw=>⟨by rw[Xl hall];rfl,ac hw⟩)
theorem xZ(b k len:Nat)(c:List Value)(bs:L8)(hn:bs.length=len)(hL:len≤1000)(q:Bool)(hq:NQ bs=q)(w:World)(hw:Gt w)(h:w.rangeAt b 0 c)(ht:c.take bs.length=bs.map U8):CLS 150 [.slice (spt b) len k].toArray w (fun r w'=>r=.returned (.bool q)∧Grow w w'):=by
 subst hn;subst hq
 exact Hi _ k bs hL w hw (cH h ht)
def RdV(bs:L8)(N:Nat)(f:BitVec 8)(c:Int):Prop:=(¬bs.length=N∧f=0#8∧c=100)∨(bs.length=N∧((FG bs=128#8∧f=FG bs∧c=0)∨(¬FG bs=128#8∧((FG bs=160#8∧f=FG bs∧c=0)∨(¬FG bs=160#8∧((FG bs=192#8∧((NQ (MK bs)=true∧f=FG bs∧c=0)∨(NQ (MK bs)=false∧f=0#8∧c=101)))∨(¬FG bs=192#8∧f=0#8∧c=101)))))))
theorem og(e:Option Addr)(cap N:Nat)(bs:L8)(h0:0<N)(hL:N≤1000)(hcap:bs.length≤cap)(f:BitVec 8)(c:Int)(h:RdV bs N f c)(w:World)(hw:Gt w)(hby:BytesAt w e bs):
 CLS 92 [.slice e bs.length cap,I (N:Int)].toArray w (fun r w'=>r=.returned (.tuple #[U8 f,I c])∧Grow w w'):=by
 refine Hf func92 rfl hw<|fun hGF=>ae (E:=EE [93,2000093])<|Asg rfl<|Asg rfl<|aa<|ah<|ae (E:=EE [93,2000093])<|Mv rfl<|bi rfl (fun _=>aI underlying22 _ _ _ _) rfl rfl<|Mv rfl<|?_
 rcases h with ⟨hN,rfl,rfl⟩|⟨hN,h⟩
 ·refine Bnb true rfl rfl (fun _=>bF _ _ _) (bne_iff_ne.2 om)<|aa<|aR rfl<|ae (E:=EE [93,2000093])<|Asg rfl<|Asg rfl<|aa<|am<|Rr<|?_
  exact cj rfl rfl rfl (fun w hw=>⟨rfl,ac hw⟩)
 ·refine Bnb false rfl rfl (fun _=>bF _ _ _) (bne_eq_false_iff_eq.2 om)<|aa<|aC rfl<|aq<|ah<|ae (E:=EE [93,2000093])<|Mv rfl<|?_
  obtain ⟨ad,he,_⟩:=hby 0 _ (gm U8 bs 0 0 om)
  refine gY (ad:=ad) 0 (by rw[←he];rfl) rfl underlying22 sizeOf5 rfl om rfl rfl<|bT (v:=U8 (bs.getD 0 0)) rfl isAgg5 (fun w' h=>by obtain ⟨ad',e',hc⟩:=(hby.grow (ac h)) 0 _ (gm U8 bs 0 0 om);rw[he]at e';cases e';exact hc) rfl rfl<|Bnr (v:=U8 (FG bs)) rfl rfl (fun _=>cE _ _ 224#8)<|Asg rfl<|aa<|ae (E:=EE [93,2000093])<|Mv rfl<|aa<|ai<|ah<|ae (E:=EE [93,2000093])<|?_
  rcases h with ⟨hf,rfl,rfl⟩|⟨hf,h⟩
  ·refine Bnb true rfl rfl (fun _=>cP _ _ 128#8) (beq_iff_eq.2 hf)<|Asg rfl<|aa<|aR rfl<|aq<|aR rfl<|ae (E:=EE [93,2000093])<|Mv rfl<|Asg rfl<|Asg rfl<|aa<|am<|Rr<|?_
   exact cj rfl rfl rfl (fun w hw=>⟨rfl,ac hw⟩)
  ·refine Bnb false rfl rfl (fun _=>cP _ _ 128#8) (beq_eq_false_iff_ne.2 hf)<|Asg rfl<|aa<|aC rfl<|bN (E:=EE [93,2000093])<|?_
   rcases h with ⟨hf,rfl,rfl⟩|⟨hf,h⟩
   ·refine Bnb true rfl rfl (fun _=>cP _ _ 160#8) (beq_iff_eq.2 hf)<|Asg rfl<|aa<|aR rfl<|ae (E:=EE [93,2000093])<|Mv rfl<|Asg rfl<|Asg rfl<|aa<|am<|Rr<|?_
    exact cj rfl rfl rfl (fun w hw=>⟨rfl,ac hw⟩)
   ·refine Bnb false rfl rfl (fun _=>cP _ _ 160#8) (beq_eq_false_iff_ne.2 hf)<|Asg rfl<|aa<|aC rfl<|ae (E:=EE [93,2000093])<|?_
    rcases h with ⟨hf,h⟩|⟨hf,rfl,rfl⟩
    ·refine Bnb true rfl rfl (fun _=>cP _ _ 192#8) (beq_iff_eq.2 hf)<|Asg rfl<|aa<|aR rfl<|ae (E:=EE [93,2000093])<|Mv rfl<|?_
     refine bQ rfl rfl ent93 rfl rfl (fun w' hw'=>(Ap e cap bs om om hcap w' (hGF.g _ _ _ hw') (hby.grow (ac hw'))).mono fun e' w'' h=> ?_)
     obtain ⟨b7,c7,k7,rfl,hg,hb7,hob,q3,q2⟩:=h
     refine ⟨_,_,rfl,aA hGF,hw'.news ao hg [(33,b7,c7,5)] ?_ bX,bU ao rfl, ?_⟩
     ·intro n' b' c' t' hl
      rcases aL hl with ⟨_,e⟩|⟨_,hl⟩
      ·cases e;exact ⟨hb7,hob⟩
      ·cases hl
     clear hw' hg hb7 hob
     rcases h with ⟨hq,rfl,rfl⟩|⟨hq,rfl,rfl⟩
     ·refine Cc rfl ent150 (fun w' hC hG=>xZ b7 k7 bs.length c7 (MK bs) (cf bs) om true hq w' hG (aH (n:=33) rfl w' hC) (by rw[cf];exact q3))<|aa<|aR rfl<|ae (E:=EE [93,2000093])<|Mv rfl<|Asg rfl<|Asg rfl<|aa<|am<|Rr<|?_
      exact cj rfl rfl rfl (fun w hw=>⟨rfl,ac hw⟩)
     ·refine Cc rfl ent150 (fun w' hC hG=>xZ b7 k7 bs.length c7 (MK bs) (cf bs) om false hq w' hG (aH (n:=33) rfl w' hC) (by rw[cf];exact q3))<|aa<|aC rfl<|aq<|ae (E:=EE [93,2000093])<|Asg rfl<|Asg rfl<|aa<|am<|Rr<|?_
      exact cj rfl rfl rfl (fun w hw=>⟨rfl,ac hw⟩)
    ·refine Bnb false rfl rfl (fun _=>cP _ _ 192#8) (beq_eq_false_iff_ne.2 hf)<|Asg rfl<|aa<|aC rfl<|aq<|ae (E:=EE [93,2000093])<|Asg rfl<|Asg rfl<|aa<|am<|Rr<|?_
     exact cj rfl rfl rfl (fun w hw=>⟨rfl,ac hw⟩)
theorem AG:nu prog 54 "Neg" 112:=fun _ _=>kr
theorem nP:nu prog 54 "Equal" 310:=fun _ _=>kr
theorem gy:nu prog 54 "InGroup" 311:=fun _ _=>kr
theorem zo(p t:J1.GP)(f:BitVec 8)(c:Int)(h:(¬f &&& 32#8=0#8∧((p.P=(J1.kT p).P∧t=J1.gInf∧c=103)∨(¬p.P=(J1.kT p).P∧((¬E1.times p.P ORD=none∧t=J1.gInf∧c=104)∨(E1.times p.P ORD=none∧p=t∧c=0)))))∨(f &&& 32#8=0#8∧((¬E1.times p.P ORD=none∧t=J1.gInf∧c=104)∨(E1.times p.P ORD=none∧p=t∧c=0)))):PUR 95 [J1.PtV p,.bool true,U8 f] (.tuple #[J1.PtV t,I c]):=by
 intro w hw
 refine Hf func95 rfl hw<|fun hGF=>Xp<|Bx 3 hGF rfl<|fun b3=>Al 6 hGF J1.zv54<|fun b6=>Asg rfl<|aa<|Xp<|Al 8 hGF J1.zv54<|fun b8=>aa<|ah<|ai<|Xp<|Mv rfl<|bu rfl (fun _=>a9 _) rfl rfl<|Asg rfl<|aa<|aC rfl<|Xd []<|Mv rfl<|Bnr (v:=U8 (f &&& 32#8)) rfl rfl (fun _=>cE _ _ 32#8)<|?_
 rcases h with ⟨hf,h⟩|⟨hf,h⟩
 ·refine Bnb true rfl rfl (fun _=>dk _ _ 0#8) (bne_iff_ne.2 hf)<|Mv rfl<|La 3 rfl rfl cn<|iJ rfl underlying54 rfl rfl<|La 3 rfl rfl cn<|iJ rfl underlying54 rfl rfl<|vI rfl rfl AG rfl ent112 (J1.yl p) rfl rfl<|?_
  rcases h with ⟨he,rfl,rfl⟩|⟨he,h⟩
  ·refine fW true rfl rfl nP rfl ent310 (J1.nN p (J1.kT p)) (decide_eq_true he) rfl rfl<|Pk rfl rfl rfl<|Asg rfl<|aa<|aR rfl<|Xp<|La 8 rfl rfl cn<|Sa 6 hGF rfl rfl rfl cn<|Asg rfl<|aa<|am<|Rr<|?_
   exact a8 6 rfl rfl rfl rfl isAgg54 sizeOf54 sm (fun w hw=>⟨rfl,ac hw⟩)
  ·refine fW false rfl rfl nP rfl ent310 (J1.nN p (J1.kT p)) (decide_eq_false he) rfl rfl<|Pk rfl rfl rfl<|Asg rfl<|aa<|aC rfl<|Xp<|La 3 rfl rfl cn<|iJ rfl underlying54 rfl rfl<|?_
   rcases h with ⟨hg,rfl,rfl⟩|⟨hg,rfl,rfl⟩
   ·refine fW false rfl rfl gy rfl ent311 (J1.fu p) (decide_eq_false hg) rfl rfl<|bu rfl (fun _=>a9 _) rfl rfl<|Asg rfl<|aa<|aR rfl<|Xp<|La 8 rfl rfl cn<|Sa 6 hGF rfl rfl rfl cn<|Asg rfl<|aa<|am<|Rr<|?_
    exact a8 6 rfl rfl rfl rfl isAgg54 sizeOf54 sm (fun w hw=>⟨rfl,ac hw⟩)
   ·refine fW true rfl rfl gy rfl ent311 (J1.fu p) (decide_eq_true hg) rfl rfl<|bu rfl (fun _=>a9 _) rfl rfl<|Asg rfl<|aa<|aC rfl<|aq<|Xp<|La 3 rfl rfl cn<|Sa 6 hGF rfl rfl rfl cn<|Asg rfl<|aa<|am<|Rr<|?_
    exact a8 6 rfl rfl rfl rfl isAgg54 sizeOf54 sm (fun w hw=>⟨rfl,ac hw⟩)
 ·refine Bnb false rfl rfl (fun _=>dk _ _ 0#8) (bne_eq_false_iff_eq.2 hf)<|Mv rfl<|Sk<|Sk<|Sk<|Sk<|Sk<|Sk<|Pk rfl rfl rfl<|Asg rfl<|aa<|aC rfl<|Xp<|La 3 rfl rfl cn<|iJ rfl underlying54 rfl rfl<|?_
  rcases h with ⟨hg,rfl,rfl⟩|⟨hg,rfl,rfl⟩
  ·refine fW false rfl rfl gy rfl ent311 (J1.fu p) (decide_eq_false hg) rfl rfl<|bu rfl (fun _=>a9 _) rfl rfl<|Asg rfl<|aa<|aR rfl<|Xp<|La 8 rfl rfl cn<|Sa 6 hGF rfl rfl rfl cn<|Asg rfl<|aa<|am<|Rr<|?_
   exact a8 6 rfl rfl rfl rfl isAgg54 sizeOf54 sm (fun w hw=>⟨rfl,ac hw⟩)
  ·refine fW true rfl rfl gy rfl ent311 (J1.fu p) (decide_eq_true hg) rfl rfl<|bu rfl (fun _=>a9 _) rfl rfl<|Asg rfl<|aa<|aC rfl<|aq<|Xp<|La 3 rfl rfl cn<|Sa 6 hGF rfl rfl rfl cn<|Asg rfl<|aa<|am<|Rr<|?_
   exact a8 6 rfl rfl rfl rfl isAgg54 sizeOf54 sm (fun w hw=>⟨rfl,ac hw⟩)
theorem UJ(p:J1.GP)(f:BitVec 8):PUR 95 [J1.PtV p,.bool false,U8 f] (.tuple #[J1.PtV J1.gInf,I 103]):=by
 intro w hw
 refine Hf func95 rfl hw<|fun hGF=>Xp<|Bx 3 hGF rfl<|fun b3=>Al 6 hGF J1.zv54<|fun b6=>Asg rfl<|aa<|Xp<|Al 8 hGF J1.zv54<|fun b8=>aa<|ah<|ai<|Xp<|Mv rfl<|bu rfl (fun _=>a9 _) rfl rfl<|Asg rfl<|aa<|aR rfl<|Xp<|La 8 rfl rfl cn<|Sa 6 hGF rfl rfl rfl cn<|Asg rfl<|aa<|am<|Rr<|?_
 exact a8 6 rfl rfl rfl rfl isAgg54 sizeOf54 sm (fun w hw=>⟨rfl,ac hw⟩)
theorem zd:nu prog 80 "Neg" 318:=fun _ _=>kr
theorem m8:nu prog 80 "Equal" 316:=fun _ _=>kr
theorem gw:nu prog 80 "InGroup" 317:=fun _ _=>kr
theorem zw(p t:J2.GP)(f:BitVec 8)(c:Int)(h:(¬f &&& 32#8=0#8∧((p.P=(J2.kT p).P∧t=J2.gInf∧c=103)∨(¬p.P=(J2.kT p).P∧((¬E2w.times p.P ORD=none∧t=J2.gInf∧c=104)∨(E2w.times p.P ORD=none∧p=t∧c=0)))))∨(f &&& 32#8=0#8∧((¬E2w.times p.P ORD=none∧t=J2.gInf∧c=104)∨(E2w.times p.P ORD=none∧p=t∧c=0)))):PUR 192 [J2.PtV p,.bool true,U8 f] (.tuple #[J2.PtV t,I c]):=by
 intro w hw
 refine Hf func192 rfl hw<|fun hGF=>Xp<|Bx 3 hGF rfl<|fun b3=>Al 6 hGF J2.zv80<|fun b6=>Asg rfl<|aa<|Xp<|Al 8 hGF J2.zv80<|fun b8=>aa<|ah<|ai<|Xp<|Mv rfl<|bu rfl (fun _=>a9 _) rfl rfl<|Asg rfl<|aa<|aC rfl<|Xd []<|Mv rfl<|Bnr (v:=U8 (f &&& 32#8)) rfl rfl (fun _=>cE _ _ 32#8)<|?_
 rcases h with ⟨hf,h⟩|⟨hf,h⟩
 ·refine Bnb true rfl rfl (fun _=>dk _ _ 0#8) (bne_iff_ne.2 hf)<|Mv rfl<|La 3 rfl rfl co<|iJ rfl underlying80 rfl rfl<|La 3 rfl rfl co<|iJ rfl underlying80 rfl rfl<|vI rfl rfl zd rfl ent318 (J2.yl p) rfl rfl<|?_
  rcases h with ⟨he,rfl,rfl⟩|⟨he,h⟩
  ·refine fW true rfl rfl m8 rfl ent316 (J2.nN p (J2.kT p)) (decide_eq_true he) rfl rfl<|Pk rfl rfl rfl<|Asg rfl<|aa<|aR rfl<|Xp<|La 8 rfl rfl co<|Sa 6 hGF rfl rfl rfl co<|Asg rfl<|aa<|am<|Rr<|?_
   exact a8 6 rfl rfl rfl rfl isAgg80 sizeOf80 sm (fun w hw=>⟨rfl,ac hw⟩)
  ·refine fW false rfl rfl m8 rfl ent316 (J2.nN p (J2.kT p)) (decide_eq_false he) rfl rfl<|Pk rfl rfl rfl<|Asg rfl<|aa<|aC rfl<|Xp<|La 3 rfl rfl co<|iJ rfl underlying80 rfl rfl<|?_
   rcases h with ⟨hg,rfl,rfl⟩|⟨hg,rfl,rfl⟩
   ·refine fW false rfl rfl gw rfl ent317 (J2.fu p) (decide_eq_false hg) rfl rfl<|bu rfl (fun _=>a9 _) rfl rfl<|Asg rfl<|aa<|aR rfl<|Xp<|La 8 rfl rfl co<|Sa 6 hGF rfl rfl rfl co<|Asg rfl<|aa<|am<|Rr<|?_
    exact a8 6 rfl rfl rfl rfl isAgg80 sizeOf80 sm (fun w hw=>⟨rfl,ac hw⟩)
   ·refine fW true rfl rfl gw rfl ent317 (J2.fu p) (decide_eq_true hg) rfl rfl<|bu rfl (fun _=>a9 _) rfl rfl<|Asg rfl<|aa<|aC rfl<|aq<|Xp<|La 3 rfl rfl co<|Sa 6 hGF rfl rfl rfl co<|Asg rfl<|aa<|am<|Rr<|?_
    exact a8 6 rfl rfl rfl rfl isAgg80 sizeOf80 sm (fun w hw=>⟨rfl,ac hw⟩)
 ·refine Bnb false rfl rfl (fun _=>dk _ _ 0#8) (bne_eq_false_iff_eq.2 hf)<|Mv rfl<|Sk<|Sk<|Sk<|Sk<|Sk<|Sk<|Pk rfl rfl rfl<|Asg rfl<|aa<|aC rfl<|Xp<|La 3 rfl rfl co<|iJ rfl underlying80 rfl rfl<|?_
  rcases h with ⟨hg,rfl,rfl⟩|⟨hg,rfl,rfl⟩
  ·refine fW false rfl rfl gw rfl ent317 (J2.fu p) (decide_eq_false hg) rfl rfl<|bu rfl (fun _=>a9 _) rfl rfl<|Asg rfl<|aa<|aR rfl<|Xp<|La 8 rfl rfl co<|Sa 6 hGF rfl rfl rfl co<|Asg rfl<|aa<|am<|Rr<|?_
   exact a8 6 rfl rfl rfl rfl isAgg80 sizeOf80 sm (fun w hw=>⟨rfl,ac hw⟩)
  ·refine fW true rfl rfl gw rfl ent317 (J2.fu p) (decide_eq_true hg) rfl rfl<|bu rfl (fun _=>a9 _) rfl rfl<|Asg rfl<|aa<|aC rfl<|aq<|Xp<|La 3 rfl rfl co<|Sa 6 hGF rfl rfl rfl co<|Asg rfl<|aa<|am<|Rr<|?_
   exact a8 6 rfl rfl rfl rfl isAgg80 sizeOf80 sm (fun w hw=>⟨rfl,ac hw⟩)
theorem Sy(p:J2.GP)(f:BitVec 8):PUR 192 [J2.PtV p,.bool false,U8 f] (.tuple #[J2.PtV J2.gInf,I 103]):=by
 intro w hw
 refine Hf func192 rfl hw<|fun hGF=>Xp<|Bx 3 hGF rfl<|fun b3=>Al 6 hGF J2.zv80<|fun b6=>Asg rfl<|aa<|Xp<|Al 8 hGF J2.zv80<|fun b8=>aa<|ah<|ai<|Xp<|Mv rfl<|bu rfl (fun _=>a9 _) rfl rfl<|Asg rfl<|aa<|aR rfl<|Xp<|La 8 rfl rfl co<|Sa 6 hGF rfl rfl rfl co<|Asg rfl<|aa<|am<|Rr<|?_
 exact a8 6 rfl rfl rfl rfl isAgg80 sizeOf80 sm (fun w hw=>⟨rfl,ac hw⟩)
theorem JJ:ch 0=List.replicate 48 0#8:=by decide+kernel
theorem CT(bs:L8):OR0 bs 160#8=OR0 (OR0 bs 128#8) 32#8:=by
 cases bs with
 |nil=>rfl
 |cons a r=>show (a|||160#8)::r=((a|||128#8)|||32#8)::r;rw[BitVec.or_assoc];rfl
theorem zv32(w:World):(zeroValue 32).run prog w=.ok (.agg ((List.replicate 96 (0#8)).map U8).toArray) w:=(zeroValue32 w).trans rr
theorem Uc(p:J1.GP)(h:p.P=none):PUR 31 [J1.PtV p] (.agg ((OR0 (ch 0) 192#8).map U8).toArray):=by
 intro w hw
 refine Hf func31 rfl hw<|fun hGF=>Xp<|Bx 1 hGF rfl<|fun b1=>Al 2 hGF zv29<|fun b2=>aa<|Xp<|La 1 rfl rfl cn<|Ca rfl (J1.EM p h)<|Mv rfl<|Ext rfl rfl<|Ext rfl rfl<|Ext rfl rfl<|Al 3 hGF zv52<|fun b3=>Al 4 hGF zv52<|fun b4=>Sa 3 hGF rfl rfl rfl bJ<|Sa 4 hGF rfl rfl rfl bJ<|Asg rfl<|aa<|Xp<|La 3 rfl rfl bJ<|Ca rfl (ee _)<|Al 6 hGF zv29<|fun b6=>aw 6 hGF rfl rfl rfl sizeOf29 sm sm (bH _) rfl<|aa<|Xd []<|gP 0 rfl rfl underlying29 sizeOf5 dc dc rfl rfl<|Lm 6 U8 0 rfl rfl isAgg5 sm<|Mv rfl<|La 4 rfl rfl bJ<|Ca rfl (ig _)<|Ca rfl (OY _)<|Bnr (v:=U8 ((ch 0).getD 0 0|||192#8)) rfl rfl (fun _=>dw _ _ 192#8)<|gP 0 rfl rfl underlying29 sizeOf5 dc dc rfl rfl<|aV 6 U8 hGF rfl rfl rfl sizeOf5 rfl sm rfl<|aa<|Xp<|La 6 rfl rfl sD<|aw 2 hGF rfl rfl rfl sizeOf29 sm sm (bH _) rfl<|aa<|am<|?_
 refine Rr ?_
 exact av 2 rfl rfl rfl isAgg29 sizeOf29 sm (fun w hw=>⟨rfl,ac hw⟩)
theorem TJ(p:J1.GP)(h: ¬p.P=none)(hl:decide (hf<(J1.PY p.P).val)=true):PUR 31 [J1.PtV p] (.agg ((OR0 (ch (J1.PX p.P)) 160#8).map U8).toArray):=by
 intro w hw
 refine Hf func31 rfl hw<|fun hGF=>Xp<|Bx 1 hGF rfl<|fun b1=>Al 2 hGF zv29<|fun b2=>aa<|Xp<|La 1 rfl rfl cn<|Ca rfl (J1.xf p h)<|Mv rfl<|Ext rfl rfl<|Ext rfl rfl<|Ext rfl rfl<|Al 3 hGF zv52<|fun b3=>Al 4 hGF zv52<|fun b4=>Sa 3 hGF rfl rfl rfl bJ<|Sa 4 hGF rfl rfl rfl bJ<|Asg rfl<|aa<|Xp<|La 3 rfl rfl bJ<|Ca rfl (ee _)<|Al 6 hGF zv29<|fun b6=>aw 6 hGF rfl rfl rfl sizeOf29 sm sm (bH _) rfl<|aa<|Xd []<|gP 0 rfl rfl underlying29 sizeOf5 dc dc rfl rfl<|Lm 6 U8 0 rfl rfl isAgg5 sm<|Mv rfl<|La 4 rfl rfl bJ<|Cbl true rfl ent73 (ig _) (hl)<|Ca rfl (Oz)<|Bnr (v:=U8 ((ch (J1.PX p.P)).getD 0 0|||160#8)) rfl rfl (fun _=>dw _ _ 160#8)<|gP 0 rfl rfl underlying29 sizeOf5 dc dc rfl rfl<|aV 6 U8 hGF rfl rfl rfl sizeOf5 rfl sm rfl<|aa<|Xp<|La 6 rfl rfl sD<|aw 2 hGF rfl rfl rfl sizeOf29 sm sm (bH _) rfl<|aa<|am<|?_
 refine Rr ?_
 exact av 2 rfl rfl rfl isAgg29 sizeOf29 sm (fun w hw=>⟨rfl,ac hw⟩)
theorem Ry(p:J1.GP)(h: ¬p.P=none)(hl:decide (hf<(J1.PY p.P).val)=false):PUR 31 [J1.PtV p] (.agg ((OR0 (ch (J1.PX p.P)) 128#8).map U8).toArray):=by
 intro w hw
 refine Hf func31 rfl hw<|fun hGF=>Xp<|Bx 1 hGF rfl<|fun b1=>Al 2 hGF zv29<|fun b2=>aa<|Xp<|La 1 rfl rfl cn<|Ca rfl (J1.xf p h)<|Mv rfl<|Ext rfl rfl<|Ext rfl rfl<|Ext rfl rfl<|Al 3 hGF zv52<|fun b3=>Al 4 hGF zv52<|fun b4=>Sa 3 hGF rfl rfl rfl bJ<|Sa 4 hGF rfl rfl rfl bJ<|Asg rfl<|aa<|Xp<|La 3 rfl rfl bJ<|Ca rfl (ee _)<|Al 6 hGF zv29<|fun b6=>aw 6 hGF rfl rfl rfl sizeOf29 sm sm (bH _) rfl<|aa<|Xd []<|gP 0 rfl rfl underlying29 sizeOf5 dc dc rfl rfl<|Lm 6 U8 0 rfl rfl isAgg5 sm<|Mv rfl<|La 4 rfl rfl bJ<|Cbl false rfl ent73 (ig _) (hl)<|Ca rfl (PN)<|Bnr (v:=U8 ((ch (J1.PX p.P)).getD 0 0|||128#8)) rfl rfl (fun _=>dw _ _ 128#8)<|gP 0 rfl rfl underlying29 sizeOf5 dc dc rfl rfl<|aV 6 U8 hGF rfl rfl rfl sizeOf5 rfl sm rfl<|aa<|Xp<|La 6 rfl rfl sD<|aw 2 hGF rfl rfl rfl sizeOf29 sm sm (bH _) rfl<|aa<|am<|?_
 refine Rr ?_
 exact av 2 rfl rfl rfl isAgg29 sizeOf29 sm (fun w hw=>⟨rfl,ac hw⟩)
theorem Uu(p:J2.GP)(h:p.P=none):PUR 35 [J2.PtV p] (.agg ((OR0 (ch 0++ch 0) 192#8).map U8).toArray):=by
 intro w hw
 refine Hf func35 rfl hw<|fun hGF=>Xp<|Bx 1 hGF rfl<|fun b1=>Al 2 hGF zv32<|fun b2=>aa<|Xp<|La 1 rfl rfl co<|Ca rfl (J2.EM p h)<|Mv rfl<|Ext rfl rfl<|Ext rfl rfl<|Ext rfl rfl<|Al 3 hGF zv78<|fun b3=>Al 4 hGF zv78<|fun b4=>Sa 3 hGF rfl rfl rfl aZ<|Sa 4 hGF rfl rfl rfl aZ<|Asg rfl<|aa<|ef (E:=EE [2999999]) [0,1,2,3,4,5] [⟨6,6,29,(List.replicate 48 (0#8)).map U8⟩,⟨7,7,29,(List.replicate 48 (0#8)).map U8⟩] [8,9] cL rfl kr kr kr kr kr kr dc (by intro x hx;simp only[List.mem_cons,List.not_mem_nil,or_false]at hx;rcases hx with rfl|rfl<;>exact bp rfl zv29 rfl)<|Fa 6 rfl underlying78 rfl sizeOf52<|ay 3 _ rfl rfl isAgg52 sizeOf52 sm (iC sm) rfl rfl<|Ca rfl (ee _)<|Fa 0 rfl underlying78 rfl sizeOf52<|ay 3 _ rfl rfl isAgg52 sizeOf52 sm ed rfl rfl<|Ca rfl (ee _)<|aa<|?_
 refine ⟨_,_,rfl,hGF,by intro x hx;simp only[List.mem_cons,List.not_mem_nil,or_false]at hx;rcases hx with rfl|rfl<;>rfl,by intro x hx;simp only[List.mem_cons,List.not_mem_nil,or_false]at hx;rcases hx with rfl|rfl<;>rfl,fun adr=> ?_⟩
 refine aw 6 hGF rfl rfl rfl sizeOf29 sm sm (bH _) rfl<|aw 7 hGF rfl rfl rfl sizeOf29 sm sm (bH _) rfl<|aa<|Xp<|Al 8 hGF zv32<|fun b8=>aa<|Xd []<|iV (l:=0) (h':=48) (m:=48) rfl underlying32 sizeOf5 rfl rfl rfl dc dc rfl rfl<|bD (l:=0) (h':=48) rfl underlying29 sizeOf5 rfl rfl dc dc rfl rfl<|dB 8 (o:=0) (cs:=ch 0) hGF rfl rfl rfl underlying22 sz5 sm (fun w' h=>BytesAt.range (aH (n:=6) rfl w' h)) sm rfl rfl<|?_
 rw[rL]
 refine aa<|Xd []<|iV (l:=48) (h':=96) (m:=96) rfl underlying32 sizeOf5 rfl rfl rfl dc dc rfl rfl<|bD (l:=0) (h':=48) rfl underlying29 sizeOf5 rfl rfl dc dc rfl rfl<|dB 8 (o:=48) (cs:=ch 0) hGF rfl rfl rfl underlying22 sz5 sm (fun w' h=>BytesAt.range (aH (n:=7) rfl w' h)) sm rfl rfl<|?_
 rw[se]
 refine aa<|Xd []<|gP 0 rfl rfl underlying32 sizeOf5 dc dc rfl rfl<|Lm 8 U8 0 rfl rfl isAgg5 sm<|Mv rfl<|La 4 rfl rfl aZ<|Ca rfl (pq _)<|Ca rfl (OY _)<|Bnr (v:=U8 ((ch 0++ch 0).getD 0 0|||192#8)) rfl rfl (fun _=>dw _ _ 192#8)<|gP 0 rfl rfl underlying32 sizeOf5 dc dc rfl rfl<|aV 8 U8 hGF rfl rfl rfl sizeOf5 rfl sm rfl<|aa<|Xp<|La 8 rfl rfl Vl<|aw 2 hGF rfl rfl rfl sizeOf32 sm sm (bH _) rfl<|aa<|am<|Rr<|?_
 exact av 2 rfl rfl rfl isAgg32 sizeOf32 sm (fun w hw=>⟨rfl,ac hw⟩)
theorem Tj(p:J2.GP)(h: ¬p.P=none)(hl:LG2 (J2.PY p.P)=true):PUR 35 [J2.PtV p] (.agg ((OR0 (ch (J2.PX p.P).2++ch (J2.PX p.P).1) 160#8).map U8).toArray):=by
 intro w hw
 refine Hf func35 rfl hw<|fun hGF=>Xp<|Bx 1 hGF rfl<|fun b1=>Al 2 hGF zv32<|fun b2=>aa<|Xp<|La 1 rfl rfl co<|Ca rfl (J2.xf p h)<|Mv rfl<|Ext rfl rfl<|Ext rfl rfl<|Ext rfl rfl<|Al 3 hGF zv78<|fun b3=>Al 4 hGF zv78<|fun b4=>Sa 3 hGF rfl rfl rfl aZ<|Sa 4 hGF rfl rfl rfl aZ<|Asg rfl<|aa<|ef (E:=EE [2999999]) [0,1,2,3,4,5] [⟨6,6,29,(List.replicate 48 (0#8)).map U8⟩,⟨7,7,29,(List.replicate 48 (0#8)).map U8⟩] [8,9] cL rfl kr kr kr kr kr kr dc (by intro x hx;simp only[List.mem_cons,List.not_mem_nil,or_false]at hx;rcases hx with rfl|rfl<;>exact bp rfl zv29 rfl)<|Fa 6 rfl underlying78 rfl sizeOf52<|ay 3 _ rfl rfl isAgg52 sizeOf52 sm (iC sm) rfl rfl<|Ca rfl (ee _)<|Fa 0 rfl underlying78 rfl sizeOf52<|ay 3 _ rfl rfl isAgg52 sizeOf52 sm ed rfl rfl<|Ca rfl (ee _)<|aa<|?_
 refine ⟨_,_,rfl,hGF,by intro x hx;simp only[List.mem_cons,List.not_mem_nil,or_false]at hx;rcases hx with rfl|rfl<;>rfl,by intro x hx;simp only[List.mem_cons,List.not_mem_nil,or_false]at hx;rcases hx with rfl|rfl<;>rfl,fun adr=> ?_⟩
 refine aw 6 hGF rfl rfl rfl sizeOf29 sm sm (bH _) rfl<|aw 7 hGF rfl rfl rfl sizeOf29 sm sm (bH _) rfl<|aa<|Xp<|Al 8 hGF zv32<|fun b8=>aa<|Xd []<|iV (l:=0) (h':=48) (m:=48) rfl underlying32 sizeOf5 rfl rfl rfl dc dc rfl rfl<|bD (l:=0) (h':=48) rfl underlying29 sizeOf5 rfl rfl dc dc rfl rfl<|dB 8 (o:=0) (cs:=ch (J2.PX p.P).2) hGF rfl rfl rfl underlying22 sz5 sm (fun w' h=>BytesAt.range (aH (n:=6) rfl w' h)) sm rfl rfl<|?_
 rw[rL]
 refine aa<|Xd []<|iV (l:=48) (h':=96) (m:=96) rfl underlying32 sizeOf5 rfl rfl rfl dc dc rfl rfl<|bD (l:=0) (h':=48) rfl underlying29 sizeOf5 rfl rfl dc dc rfl rfl<|dB 8 (o:=48) (cs:=ch (J2.PX p.P).1) hGF rfl rfl rfl underlying22 sz5 sm (fun w' h=>BytesAt.range (aH (n:=7) rfl w' h)) sm rfl rfl<|?_
 rw[se]
 refine aa<|Xd []<|gP 0 rfl rfl underlying32 sizeOf5 dc dc rfl rfl<|Lm 8 U8 0 rfl rfl isAgg5 sm<|Mv rfl<|La 4 rfl rfl aZ<|Cbl true rfl ent81 (pq _) (hl)<|Ca rfl (Oz)<|Bnr (v:=U8 ((ch (J2.PX p.P).2++ch (J2.PX p.P).1).getD 0 0|||160#8)) rfl rfl (fun _=>dw _ _ 160#8)<|gP 0 rfl rfl underlying32 sizeOf5 dc dc rfl rfl<|aV 8 U8 hGF rfl rfl rfl sizeOf5 rfl sm rfl<|aa<|Xp<|La 8 rfl rfl Vl<|aw 2 hGF rfl rfl rfl sizeOf32 sm sm (bH _) rfl<|aa<|am<|Rr<|?_
 exact av 2 rfl rfl rfl isAgg32 sizeOf32 sm (fun w hw=>⟨rfl,ac hw⟩)
theorem Vb(p:J2.GP)(h: ¬p.P=none)(hl:LG2 (J2.PY p.P)=false):PUR 35 [J2.PtV p] (.agg ((OR0 (ch (J2.PX p.P).2++ch (J2.PX p.P).1) 128#8).map U8).toArray):=by
 intro w hw
 refine Hf func35 rfl hw<|fun hGF=>Xp<|Bx 1 hGF rfl<|fun b1=>Al 2 hGF zv32<|fun b2=>aa<|Xp<|La 1 rfl rfl co<|Ca rfl (J2.xf p h)<|Mv rfl<|Ext rfl rfl<|Ext rfl rfl<|Ext rfl rfl<|Al 3 hGF zv78<|fun b3=>Al 4 hGF zv78<|fun b4=>Sa 3 hGF rfl rfl rfl aZ<|Sa 4 hGF rfl rfl rfl aZ<|Asg rfl<|aa<|ef (E:=EE [2999999]) [0,1,2,3,4,5] [⟨6,6,29,(List.replicate 48 (0#8)).map U8⟩,⟨7,7,29,(List.replicate 48 (0#8)).map U8⟩] [8,9] cL rfl kr kr kr kr kr kr dc (by intro x hx;simp only[List.mem_cons,List.not_mem_nil,or_false]at hx;rcases hx with rfl|rfl<;>exact bp rfl zv29 rfl)<|Fa 6 rfl underlying78 rfl sizeOf52<|ay 3 _ rfl rfl isAgg52 sizeOf52 sm (iC sm) rfl rfl<|Ca rfl (ee _)<|Fa 0 rfl underlying78 rfl sizeOf52<|ay 3 _ rfl rfl isAgg52 sizeOf52 sm ed rfl rfl<|Ca rfl (ee _)<|aa<|?_
 refine ⟨_,_,rfl,hGF,by intro x hx;simp only[List.mem_cons,List.not_mem_nil,or_false]at hx;rcases hx with rfl|rfl<;>rfl,by intro x hx;simp only[List.mem_cons,List.not_mem_nil,or_false]at hx;rcases hx with rfl|rfl<;>rfl,fun adr=> ?_⟩
 refine aw 6 hGF rfl rfl rfl sizeOf29 sm sm (bH _) rfl<|aw 7 hGF rfl rfl rfl sizeOf29 sm sm (bH _) rfl<|aa<|Xp<|Al 8 hGF zv32<|fun b8=>aa<|Xd []<|iV (l:=0) (h':=48) (m:=48) rfl underlying32 sizeOf5 rfl rfl rfl dc dc rfl rfl<|bD (l:=0) (h':=48) rfl underlying29 sizeOf5 rfl rfl dc dc rfl rfl<|dB 8 (o:=0) (cs:=ch (J2.PX p.P).2) hGF rfl rfl rfl underlying22 sz5 sm (fun w' h=>BytesAt.range (aH (n:=6) rfl w' h)) sm rfl rfl<|?_
 rw[rL]
 refine aa<|Xd []<|iV (l:=48) (h':=96) (m:=96) rfl underlying32 sizeOf5 rfl rfl rfl dc dc rfl rfl<|bD (l:=0) (h':=48) rfl underlying29 sizeOf5 rfl rfl dc dc rfl rfl<|dB 8 (o:=48) (cs:=ch (J2.PX p.P).1) hGF rfl rfl rfl underlying22 sz5 sm (fun w' h=>BytesAt.range (aH (n:=7) rfl w' h)) sm rfl rfl<|?_
 rw[se]
 refine aa<|Xd []<|gP 0 rfl rfl underlying32 sizeOf5 dc dc rfl rfl<|Lm 8 U8 0 rfl rfl isAgg5 sm<|Mv rfl<|La 4 rfl rfl aZ<|Cbl false rfl ent81 (pq _) (hl)<|Ca rfl (PN)<|Bnr (v:=U8 ((ch (J2.PX p.P).2++ch (J2.PX p.P).1).getD 0 0|||128#8)) rfl rfl (fun _=>dw _ _ 128#8)<|gP 0 rfl rfl underlying32 sizeOf5 dc dc rfl rfl<|aV 8 U8 hGF rfl rfl rfl sizeOf5 rfl sm rfl<|aa<|Xp<|La 8 rfl rfl Vl<|aw 2 hGF rfl rfl rfl sizeOf32 sm sm (bH _) rfl<|aa<|am<|Rr<|?_
 exact av 2 rfl rfl rfl isAgg32 sizeOf32 sm (fun w hw=>⟨rfl,ac hw⟩)
theorem aaL:OR0 (ch 0) 192#8=EN1 none:=by rw[JJ];rfl
theorem Zo:OR0 (ch 0++ch 0) 192#8=EN2 none:=by rw[JJ];rfl
theorem QS(p:J1.GP):PUR 31 [J1.PtV p] (.agg ((EN1 p.P).map U8).toArray):=by
 by_cases h:p.P=none
 ·have k:=Uc p h
  rw[aaL]at k
  rw[h];exact k
 ·obtain ⟨v,hv⟩: ∃v,p.P=some v:=by
   cases e:p.P with
   |none=>exact absurd e h
   |some v=>exact ⟨v,rfl⟩
  have ex:J1.PX p.P=v.1:=by rw[hv];rfl
  have ey:J1.PY p.P=v.2:=by rw[hv];rfl
  have e1:EN1 p.P=ENF (ch v.1) (LG2 (v.2,0)):=by rw[hv];rfl
  have lg:decide (hf<v.2.val)=LG2 (v.2,0):=Jy (x:=(v.2,0)) rfl
  cases hl:LG2 (v.2,0)with
  |true=>
   have k:=TJ p h (by rw[ey,lg,hl])
   rw[ex,CT]at k
   rw[e1,hl];exact k
  |false=>
   have k:=Ry p h (by rw[ey,lg,hl])
   rw[ex]at k
   rw[e1,hl];exact k
theorem R3(p:J2.GP):PUR 35 [J2.PtV p] (.agg ((EN2 p.P).map U8).toArray):=by
 by_cases h:p.P=none
 ·have k:=Uu p h
  rw[Zo]at k
  rw[h];exact k
 ·obtain ⟨v,hv⟩: ∃v,p.P=some v:=by
   cases e:p.P with
   |none=>exact absurd e h
   |some v=>exact ⟨v,rfl⟩
  have ex:J2.PX p.P=v.1:=by rw[hv];rfl
  have ey:J2.PY p.P=v.2:=by rw[hv];rfl
  have e1:EN2 p.P=ENF (ch v.1.2++ch v.1.1) (LG2 v.2):=by rw[hv];rfl
  cases hl:LG2 v.2 with
  |true=>
   have k:=Tj p h (by rw[ey,hl])
   rw[ex,CT]at k
   rw[e1,hl];exact k
  |false=>
   have k:=Vb p h (by rw[ey,hl])
   rw[ex]at k
   rw[e1,hl];exact k
end
section
open Go.RowKit
attribute [local simp] a7 bv aJ aB aQ a5 aT aK aO bf bC a6 bz J1.bE J2.bE cf fC
theorem oI{bs:L8}{c:Int}{P:Pt Zp}(h:D1 bs c P):E1.onP P:=by
 rcases h with ⟨_,_,rfl⟩|⟨_,⟨_,_,rfl⟩|⟨_,⟨_,_,rfl⟩|⟨_,⟨_,_,rfl⟩|⟨_,⟨_,_,rfl⟩|⟨q,h⟩⟩⟩⟩⟩
 ·exact True.intro
 ·exact True.intro
 ·exact True.intro
 ·exact True.intro
 ·exact True.intro
 ·rcases h with ⟨_,_,rfl⟩|⟨_,⟨_,_,rfl⟩|⟨_,_,rfl⟩⟩
  ·exact True.intro
  ·exact True.intro
  ·exact J1.P2 q _
theorem oG{bs:L8}{c:Int}{P:Pt W2}(h:D2 bs c P):E2w.onP P:=by
 rcases h with ⟨_,_,rfl⟩|⟨_,⟨_,_,rfl⟩|⟨_,⟨_,_,rfl⟩|⟨_,⟨_,_,rfl⟩|⟨_,⟨_,_,rfl⟩|⟨r,hr,_,h⟩⟩⟩⟩⟩
 ·exact True.intro
 ·exact True.intro
 ·exact True.intro
 ·exact True.intro
 ·exact True.intro
 ·rcases h with ⟨_,_,rfl⟩|⟨_,⟨_,_,rfl⟩|⟨_,_,rfl⟩⟩
  ·exact True.intro
  ·exact True.intro
  ·exact J2.gG (J2.oz.2 (J2.JL hr _))
def cA1(P:Pt Zp)(on:E1.onP P):J1.GP:=⟨match P with|none=>(0,0,0)|some p=>(p.1,p.2,1),P,on,by
 cases P with
 |none=>rfl
 |some p=>exact E1.jr_at p ko⟩
def cA2(P:Pt W2)(on:E2w.onP P):J2.GP:=⟨match P with|none=>(ze2,ze2,ze2)|some p=>(p.1,p.2,on2),P,on,by
 cases P with
 |none=>rfl
 |some p=>exact mA p⟩
theorem qF(a:Option Addr)(len k:Nat)(xs:L8)(h48:xs.length=48)(hn:len=48)(hl:BN xs 48<PP)(x:Zp)(hx:zp (BN xs 48)=x)(w:World)(hw:Gt w)(hby:BytesAt w a xs):CLS 74 [.slice a len k].toArray w (fun r w'=>r=.returned (.tuple #[EV x,.bool true])∧Grow w w'):=by
 have h:=eB a k xs w hw hby
 rw[h48,show FV xs=x from (if_pos ⟨h48,hl⟩).trans hx,show FO xs=true from decide_eq_true ⟨h48,hl⟩]at h
 subst hn
 exact h
theorem qw(a:Option Addr)(len k:Nat)(xs:L8)(h48:xs.length=48)(hn:len=48)(hl: ¬BN xs 48<PP)(w:World)(hw:Gt w)(hby:BytesAt w a xs):CLS 74 [.slice a len k].toArray w (fun r w'=>r=.returned (.tuple #[EV 0,.bool false])∧Grow w w'):=by
 have h:=eB a k xs w hw hby
 rw[h48,show FV xs=0 from if_neg (fun e=>hl e.2),show FO xs=false from decide_eq_false (fun e=>hl e.2)]at h
 subst hn
 exact h
theorem Ec.ne_iff{α:Type}(C:Ec α){x y:α}:(some (x,y):Pt α)=C.ne (some (x,y))↔y=C.R.zero:=by
 constructor
 ·intro h
  have e:y=C.R.neg y:=congrArg Prod.snd (Option.some.inj h)
  have k:=C.R.add_neg y
  rw[←e]at k
  exact C.dbl0 k
 ·intro h
  show some (x,y)=some (x,C.R.neg y)
  rw[h,C.R.neg_zero]
theorem J1.ptv_eq{p r:J1.GP}(h:p.J=r.J):J1.PtV p=J1.PtV r:=by rw[J1.PtV,J1.PtV,J1.GL,J1.GL,h]
theorem J2.ptv_eq{p r:J2.GP}(h:p.J=r.J):J2.PtV p=J2.PtV r:=by rw[J2.PtV,J2.PtV,J2.GL,J2.GL,h]
theorem l_t{f:BitVec 8}(h:(f &&& 32#8 !=0#8)=true): ¬f &&& 32#8=0#8:=bne_iff_ne.1 h
theorem l_f{f:BitVec 8}(h:(f &&& 32#8 !=0#8)=false):f &&& 32#8=0#8:=bne_eq_false_iff_eq.1 h
theorem Z5: ∀b:BitVec 8,(b &&& 224#8) &&& 128#8=0#8→¬b &&& 224#8=128#8∧¬b &&& 224#8=160#8∧¬b &&& 224#8=192#8:=by decide+kernel
theorem Xx: ∀b:BitVec 8,¬(b &&& 224#8) &&& 128#8=0#8→¬(b &&& 224#8) &&& 64#8=0#8→¬b &&& 224#8=128#8∧¬b &&& 224#8=160#8∧(b &&& 224#8=192#8↔(b &&& 224#8) &&& 32#8=0#8):=by decide+kernel
theorem Z0: ∀b:BitVec 8,¬(b &&& 224#8) &&& 128#8=0#8→(b &&& 224#8) &&& 64#8=0#8→b &&& 224#8=128#8∨b &&& 224#8=160#8:=by decide+kernel
theorem f160{f:BitVec 8}(h:f=160#8): ¬f=128#8:=by rw[h];decide
theorem rd3{bs:L8}{N:Nat}{α:Type}{c:Int}{P:Option α}{R:Prop}(h:FLG bs N c P R):(¬c=0∧P=none∧RdV bs N 0#8 c)∨(c=0∧P=none∧RdV bs N (FG bs) 0∧¬FG bs &&& 64#8=0#8)∨(bs.length=N∧FG bs &&& 64#8=0#8∧RdV bs N (FG bs) 0∧R):=by
 rcases h with ⟨h48,rfl,rfl⟩|⟨h48,⟨f,rfl,rfl⟩|⟨f,⟨s,rfl,rfl⟩|⟨s,r⟩⟩⟩
 ·exact .inl ⟨dc,rfl,.inl ⟨h48,rfl,rfl⟩⟩
 ·obtain ⟨h1,h2,h3⟩:=Z5 (bs.getD 0 0) f
  exact .inl ⟨dc,rfl,.inr ⟨h48,.inr ⟨h1,.inr ⟨h2,.inr ⟨h3,rfl,rfl⟩⟩⟩⟩⟩
 ·obtain ⟨h1,h2,h3⟩:=Xx (bs.getD 0 0) f s
  by_cases k:FG bs &&& 32#8=0#8
  ·have h4:FG bs=192#8:=h3.2 k
   cases q:NQ (MK bs)with
   |true=>exact .inr (.inl ⟨if_pos ⟨fun j hj=>of_decide_eq_true q j (by rw[cf];omega),k⟩,rfl,.inr ⟨h48,.inr ⟨h1,.inr ⟨h2,.inl ⟨h4,.inl ⟨q,rfl,rfl⟩⟩⟩⟩⟩,s⟩)
   |false=>
    have e:INF bs N=101:=if_neg (fun z=>of_decide_eq_false q (fun j hj=>z.1 j (by rw[cf]at hj;omega)))
    rw[e]
    exact .inl ⟨dc,rfl,.inr ⟨h48,.inr ⟨h1,.inr ⟨h2,.inl ⟨h4,.inr ⟨q,rfl,rfl⟩⟩⟩⟩⟩⟩
  ·have e:INF bs N=101:=if_neg (fun z=>k z.2)
   rw[e]
   exact .inl ⟨dc,rfl,.inr ⟨h48,.inr ⟨h1,.inr ⟨h2,.inr ⟨fun h=>k (h3.1 h),rfl,rfl⟩⟩⟩⟩⟩
 ·refine .inr (.inr ⟨h48,s, ?_,r⟩)
  rcases Z0 (bs.getD 0 0) f s with h|h
  ·exact .inr ⟨h48,.inl ⟨h,rfl,rfl⟩⟩
  ·exact .inr ⟨h48,.inr ⟨f160 h,.inl ⟨h,rfl,rfl⟩⟩⟩
theorem r4w{A B C D:Prop}(h:(¬(A∧B)∧C)∨((A∧B)∧D)):(¬B∧A∧C)∨(B∧¬A∧C)∨(¬B∧¬A∧C)∨(B∧A∧D):=by
 rcases h with ⟨h,c⟩|⟨⟨a,b⟩,d⟩
 ·by_cases a:A
  ·exact .inl ⟨fun b=>h ⟨a,b⟩,a,c⟩
  ·by_cases b:B
   ·exact .inr (.inl ⟨b,a,c⟩)
   ·exact .inr (.inr (.inl ⟨b,a,c⟩))
 ·exact .inr (.inr (.inr ⟨b,a,d⟩))
theorem NG(p:J1.GP)(x y:Zp)(hP:p.P=some (x,y))(hJ:p.J=(x,y,1))(f:BitVec 8)(l:Bool)(hl:(f &&& 32#8 !=0#8)=l)(c:Int)(P:Pt Zp)(h:NY 0 (fun Q=>E1.times Q ORD=none) l x y c P)(on:E1.onP P):PUR 95 [J1.PtV p,.bool true,U8 f] (.tuple #[J1.PtV (cA1 P on),I c]):=by
 have hne:p.P=(J1.kT p).P↔y=0:=by
  show p.P=E1.ne p.P↔y=0
  rw[hP]
  exact Ec.ne_iff E1
 have lf:(¬f &&& 32#8=0#8∧l=true)∨(f &&& 32#8=0#8∧l=false):=by
  cases l with
  |true=>exact .inl ⟨l_t hl,rfl⟩
  |false=>exact .inr ⟨l_f hl,rfl⟩
 have gp: ∀{t:J1.GP} {k:Int},((¬E1.times (some (x,y)) ORD=none∧t=J1.gInf∧k=104)∨(E1.times (some (x,y)) ORD=none∧p=t∧k=0))→¬(l=true∧y=0)→PUR 95 [J1.PtV p,.bool true,U8 f] (.tuple #[J1.PtV t,I k]):=fun g hn=>by
  rw[←hP]at g
  rcases lf with ⟨h1,h2⟩|⟨h1,_⟩
  ·exact zo p _ f _ (.inl ⟨h1,.inr ⟨fun k=>hn ⟨h2,hne.1 k⟩,g⟩⟩)
  ·exact zo p _ f _ (.inr ⟨h1,g⟩)
 rcases h with ⟨⟨rfl,hy⟩,rfl,rfl⟩|⟨hn,⟨g,rfl,rfl⟩|⟨g,rfl,rfl⟩⟩
 ·exact zo p _ f _ (.inl ⟨l_t hl,.inl ⟨hne.2 hy,rfl,rfl⟩⟩)
 ·exact gp (.inl ⟨g,rfl,rfl⟩) hn
 ·have e:J1.PtV (cA1 (some (x,y)) on)=J1.PtV p:=J1.ptv_eq hJ.symm
  rw[e]
  exact gp (.inr ⟨g,rfl,rfl⟩) hn
theorem T7(e:Option Addr)(cap:Nat)(bs:L8)(c:Int)(P:Pt Zp)(h:D1 bs c P)(on:E1.onP P)(hc:bs.length≤cap)(w:World)(hw:Gt w)(hby:BytesAt w e bs):CLS 45 [.slice e bs.length cap].toArray w (fun r w'=>r=.returned (.tuple #[J1.PtV (cA1 P on),I c])∧Grow w w'):=by
 refine Hf func45 rfl hw<|fun hGF=>ae (E:=EE [93,2000093])<|Al 2 hGF J1.zv54<|fun b2=>Asg rfl<|aa<|ae (E:=EE [93,2000093])<|Mv rfl<|?_
 rcases rd3 h with ⟨h0,rfl,hR⟩|⟨rfl,rfl,hR,h6⟩|⟨h48,h6,hR,h⟩
 ·refine Cc rfl ent92 (fun w' hC hG=>og e cap 48 bs dc dc hc _ _ hR w' hG (hby.grow (ac hC)))<|Mv rfl<|Ext rfl rfl<|Ext rfl rfl<|Asg rfl<|Asg rfl<|aa<|ah<|ae (E:=EE [93,2000093])<|Mv rfl<|Bnb true rfl rfl (fun _=>bF _ _ _) (bne_iff_ne.2 h0)<|Mv rfl<|Sk<|Sk<|Sk<|Pk rfl rfl rfl<|aa<|aR rfl<|ae (E:=EE [93,2000093])<|Ca rfl (J1.ma)<|Mv rfl<|Sa 2 hGF rfl rfl rfl cn<|Asg rfl<|aa<|am<|Rr<|?_
  exact a8 2 rfl rfl rfl rfl isAgg54 sizeOf54 sm (fun w hw=>⟨rfl,ac hw⟩)
 ·refine Cc rfl ent92 (fun w' hC hG=>og e cap 48 bs dc dc hc _ _ hR w' hG (hby.grow (ac hC)))<|Mv rfl<|Ext rfl rfl<|Ext rfl rfl<|Asg rfl<|Asg rfl<|aa<|ah<|ae (E:=EE [93,2000093])<|Mv rfl<|Bnb false rfl rfl (fun _=>bF _ _ _) (rfl)<|Mv rfl<|Mv rfl<|Bnr (v:=U8 (FG bs &&& 64#8)) rfl rfl (fun _=>cE _ _ 64#8)<|Bnb true rfl rfl (fun _=>dk _ _ 0#8) (bne_iff_ne.2 h6)<|Pk rfl rfl rfl<|aa<|aR rfl<|ae (E:=EE [93,2000093])<|Ca rfl (J1.ma)<|Mv rfl<|Sa 2 hGF rfl rfl rfl cn<|Asg rfl<|aa<|am<|Rr<|?_
  exact a8 2 rfl rfl rfl rfl isAgg54 sizeOf54 sm (fun w hw=>⟨rfl,ac hw⟩)
 ·refine Cc rfl ent92 (fun w' hC hG=>og e cap 48 bs dc dc hc _ _ hR w' hG (hby.grow (ac hC)))<|Mv rfl<|Ext rfl rfl<|Ext rfl rfl<|Asg rfl<|Asg rfl<|aa<|ah<|ae (E:=EE [93,2000093])<|Mv rfl<|Bnb false rfl rfl (fun _=>bF _ _ _) (rfl)<|Mv rfl<|Mv rfl<|Bnr (v:=U8 (FG bs &&& 64#8)) rfl rfl (fun _=>cE _ _ 64#8)<|Bnb false rfl rfl (fun _=>dk _ _ 0#8) (bne_eq_false_iff_eq.2 h6)<|Pk rfl rfl rfl<|aa<|aC rfl<|aq<|ae (E:=EE [93,2000093])<|Mv rfl<|?_
  refine bQ rfl rfl ent93 rfl rfl (fun w' hw'=>(Ap e cap bs om om hc w' (hGF.g _ _ _ hw') (hby.grow (ac hw'))).mono fun e' w'' h=> ?_)
  obtain ⟨b7,c7,k7,rfl,hg,hb7,hob,q3,q2⟩:=h
  refine ⟨_,_,rfl,aA hGF,hw'.news ao hg [(33,b7,c7,5)] ?_ bX,bU ao rfl, ?_⟩
  ·intro n' b' c' t' hl
   rcases aL hl with ⟨_,e⟩|⟨_,hl⟩
   ·cases e;exact ⟨hb7,hob⟩
   ·cases hl
  clear hw' hg hb7 hob
  rcases h with ⟨hp,rfl,rfl⟩|⟨hp,h⟩
  ·refine Cc rfl ent74 (fun w' hC hG=>qw _ _ _ (MK bs) (by rw[cf];exact h48) h48 (KN h48▸hp) w' hG (cH (aH (n:=33) rfl w' hC) (by rw[cf];exact q3)))<|Mv rfl<|Ext rfl rfl<|Ext rfl rfl<|Al 6 hGF zv52<|fun b6=>Sa 6 hGF rfl rfl rfl bJ<|Asg rfl<|aa<|ah<|ae (E:=EE [93,2000093])<|Mv rfl<|bu rfl (fun _=>a9 _) rfl rfl<|aa<|aR rfl<|ae (E:=EE [93,2000093])<|Ca rfl (J1.ma)<|Sa 2 hGF rfl rfl rfl cn<|Asg rfl<|aa<|am<|Rr<|?_
   exact a8 2 rfl rfl rfl rfl isAgg54 sizeOf54 sm (fun w hw=>⟨rfl,ac hw⟩)
  ·refine Cc rfl ent74 (fun w' hC hG=>qF _ _ _ (MK bs) (by rw[cf];exact h48) h48 (KN h48▸hp) (X1 bs) (by rw[←KN h48];rfl) w' hG (cH (aH (n:=33) rfl w' hC) (by rw[cf];exact q3)))<|Mv rfl<|Ext rfl rfl<|Ext rfl rfl<|Al 6 hGF zv52<|fun b6=>Sa 6 hGF rfl rfl rfl bJ<|Asg rfl<|aa<|ah<|ae (E:=EE [93,2000093])<|Mv rfl<|bu rfl (fun _=>a9 _) rfl rfl<|aa<|aC rfl<|aq<|ae (E:=EE [93,2000093])<|La 6 rfl rfl bJ<|Mv rfl<|Bnr (v:=U8 (FG bs &&& 32#8)) rfl rfl (fun _=>cE _ _ 32#8)<|Bnr (v:=.bool (LB bs)) rfl rfl (fun _=>dk _ _ 0#8)<|?_
   rcases h with ⟨hq,rfl,rfl⟩|⟨hq,h⟩
   ·refine Ca rfl (J1.zS (X1 bs) (LB bs) hq)<|Mv rfl<|Ext rfl rfl<|Ext rfl rfl<|Al 8 hGF J1.zv54<|fun b8=>Sa 8 hGF rfl rfl rfl cn<|Asg rfl<|aa<|ae (E:=EE [93,2000093])<|La 8 rfl rfl cn<|Mv rfl<|Mv rfl<|Ca rfl (UJ _ _)<|Ext rfl rfl<|Ext rfl rfl<|Sa 2 hGF rfl rfl rfl cn<|Asg rfl<|aa<|am<|Rr<|?_
    exact a8 2 rfl rfl rfl rfl isAgg54 sizeOf54 sm (fun w hw=>⟨rfl,ac hw⟩)
   ·refine Ca rfl (J1.zI (X1 bs) (LB bs) hq)<|Mv rfl<|Ext rfl rfl<|Ext rfl rfl<|Al 8 hGF J1.zv54<|fun b8=>Sa 8 hGF rfl rfl rfl cn<|Asg rfl<|aa<|ae (E:=EE [93,2000093])<|La 8 rfl rfl cn<|Mv rfl<|Mv rfl<|Ca rfl (NG (J1.GQ (X1 bs) (LB bs) hq) _ _ rfl rfl _ _ rfl c P h on)<|Ext rfl rfl<|Ext rfl rfl<|Sa 2 hGF rfl rfl rfl cn<|Asg rfl<|aa<|am<|Rr<|?_
    exact a8 2 rfl rfl rfl rfl isAgg54 sizeOf54 sm (fun w hw=>⟨rfl,ac hw⟩)
theorem Gf(e:Option Addr)(cap len:Nat)(bs:L8)(hn:bs.length=len)(c:Int)(P:Pt Zp)(h:D1 bs c P)(hc:len≤cap)(w:World)(hw:Gt w)(hby:BytesAt w e bs):CLS 45 [.slice e len cap].toArray w (fun r w'=>r=.returned (.tuple #[J1.PtV (cA1 P (oI h)),I c])∧Grow w w'):=by
 subst hn
 exact T7 e cap bs c P h (oI h) hc w hw hby
theorem KJ(p:J2.GP)(x y:W2)(hP:p.P=some (x,y))(hJ:p.J=(x,y,on2))(f:BitVec 8)(l:Bool)(hl:(f &&& 32#8 !=0#8)=l)(c:Int)(P:Pt W2)(h:NY ze2 (fun Q=>E2w.times Q ORD=none) l x y c P)(on:E2w.onP P):PUR 192 [J2.PtV p,.bool true,U8 f] (.tuple #[J2.PtV (cA2 P on),I c]):=by
 have hne:p.P=(J2.kT p).P↔y=ze2:=by
  show p.P=E2w.ne p.P↔y=ze2
  rw[hP]
  exact Ec.ne_iff E2w
 have lf:(¬f &&& 32#8=0#8∧l=true)∨(f &&& 32#8=0#8∧l=false):=by
  cases l with
  |true=>exact .inl ⟨l_t hl,rfl⟩
  |false=>exact .inr ⟨l_f hl,rfl⟩
 have gp: ∀{t:J2.GP} {k:Int},((¬E2w.times (some (x,y)) ORD=none∧t=J2.gInf∧k=104)∨(E2w.times (some (x,y)) ORD=none∧p=t∧k=0))→¬(l=true∧y=ze2)→PUR 192 [J2.PtV p,.bool true,U8 f] (.tuple #[J2.PtV t,I k]):=fun g hn=>by
  rw[←hP]at g
  rcases lf with ⟨h1,h2⟩|⟨h1,_⟩
  ·exact zw p _ f _ (.inl ⟨h1,.inr ⟨fun k=>hn ⟨h2,hne.1 k⟩,g⟩⟩)
  ·exact zw p _ f _ (.inr ⟨h1,g⟩)
 rcases h with ⟨⟨rfl,hy⟩,rfl,rfl⟩|⟨hn,⟨g,rfl,rfl⟩|⟨g,rfl,rfl⟩⟩
 ·exact zw p _ f _ (.inl ⟨l_t hl,.inl ⟨hne.2 hy,rfl,rfl⟩⟩)
 ·exact gp (.inl ⟨g,rfl,rfl⟩) hn
 ·have e:J2.PtV (cA2 (some (x,y)) on)=J2.PtV p:=J2.ptv_eq hJ.symm
  rw[e]
  exact gp (.inr ⟨g,rfl,rfl⟩) hn
theorem Ss(e:Option Addr)(cap:Nat)(bs:L8)(c:Int)(P:Pt W2)(h:D2 bs c P)(on:E2w.onP P)(hc:bs.length≤cap)(w:World)(hw:Gt w)(hby:BytesAt w e bs):CLS 161 [.slice e bs.length cap].toArray w (fun r w'=>r=.returned (.tuple #[J2.PtV (cA2 P on),I c])∧Grow w w'):=by
 refine Hf func161 rfl hw<|fun hGF=>ae (E:=EE [93,2000093])<|Al 2 hGF J2.zv80<|fun b2=>Asg rfl<|aa<|ae (E:=EE [93,2000093])<|Mv rfl<|?_
 rcases rd3 h with ⟨h0,rfl,hR⟩|⟨rfl,rfl,hR,h6⟩|⟨h48,h6,hR,h⟩
 ·refine Cc rfl ent92 (fun w' hC hG=>og e cap 96 bs dc dc hc _ _ hR w' hG (hby.grow (ac hC)))<|Mv rfl<|Ext rfl rfl<|Ext rfl rfl<|Asg rfl<|Asg rfl<|aa<|ah<|ae (E:=EE [93,2000093])<|Mv rfl<|Bnb true rfl rfl (fun _=>bF _ _ _) (bne_iff_ne.2 h0)<|Mv rfl<|Sk<|Sk<|Sk<|Pk rfl rfl rfl<|aa<|aR rfl<|ae (E:=EE [93,2000093])<|Ca rfl (J2.ma)<|Mv rfl<|Sa 2 hGF rfl rfl rfl co<|Asg rfl<|aa<|am<|Rr<|?_
  exact a8 2 rfl rfl rfl rfl isAgg80 sizeOf80 sm (fun w hw=>⟨rfl,ac hw⟩)
 ·refine Cc rfl ent92 (fun w' hC hG=>og e cap 96 bs dc dc hc _ _ hR w' hG (hby.grow (ac hC)))<|Mv rfl<|Ext rfl rfl<|Ext rfl rfl<|Asg rfl<|Asg rfl<|aa<|ah<|ae (E:=EE [93,2000093])<|Mv rfl<|Bnb false rfl rfl (fun _=>bF _ _ _) (rfl)<|Mv rfl<|Mv rfl<|Bnr (v:=U8 (FG bs &&& 64#8)) rfl rfl (fun _=>cE _ _ 64#8)<|Bnb true rfl rfl (fun _=>dk _ _ 0#8) (bne_iff_ne.2 h6)<|Pk rfl rfl rfl<|aa<|aR rfl<|ae (E:=EE [93,2000093])<|Ca rfl (J2.ma)<|Mv rfl<|Sa 2 hGF rfl rfl rfl co<|Asg rfl<|aa<|am<|Rr<|?_
  exact a8 2 rfl rfl rfl rfl isAgg80 sizeOf80 sm (fun w hw=>⟨rfl,ac hw⟩)
 ·refine Cc rfl ent92 (fun w' hC hG=>og e cap 96 bs dc dc hc _ _ hR w' hG (hby.grow (ac hC)))<|Mv rfl<|Ext rfl rfl<|Ext rfl rfl<|Asg rfl<|Asg rfl<|aa<|ah<|ae (E:=EE [93,2000093])<|Mv rfl<|Bnb false rfl rfl (fun _=>bF _ _ _) (rfl)<|Mv rfl<|Mv rfl<|Bnr (v:=U8 (FG bs &&& 64#8)) rfl rfl (fun _=>cE _ _ 64#8)<|Bnb false rfl rfl (fun _=>dk _ _ 0#8) (bne_eq_false_iff_eq.2 h6)<|Pk rfl rfl rfl<|aa<|aC rfl<|aq<|ae (E:=EE [93,2000093])<|Mv rfl<|?_
  refine bQ rfl rfl ent93 rfl rfl (fun w' hw'=>(Ap e cap bs om om hc w' (hGF.g _ _ _ hw') (hby.grow (ac hw'))).mono fun e' w'' h=> ?_)
  obtain ⟨b7,c7,k7,rfl,hg,hb7,hob,q3,q2⟩:=h
  refine ⟨_,_,rfl,aA hGF,hw'.news ao hg [(33,b7,c7,5)] ?_ bX,bU ao rfl, ?_⟩
  ·intro n' b' c' t' hl
   rcases aL hl with ⟨_,e⟩|⟨_,hl⟩
   ·cases e;exact ⟨hb7,hob⟩
   ·cases hl
  clear hw' hg hb7 hob
  refine Asg rfl<|aa<|ae (E:=EE [93,2000093])<|Mv rfl<|gF (l:=0) (h':=48) (m:=48) rfl underlying22 sizeOf5 rfl rfl rfl ⟨dc,Nat.le_refl _,om⟩ rfl rfl<|?_
  rcases r4w h with ⟨hp2,hp,rfl,rfl⟩|⟨hp2,hp,rfl,rfl⟩|⟨hp2,hp,rfl,rfl⟩|⟨hp2,hp,h⟩
  ·refine Cc rfl ent74 (fun w' hC hG=>qw _ _ _ (LO bs 0) (kX om) rfl hp2 w' hG (BytesAt.cut3 (cH (aH (n:=33) rfl w' hC) (by rw[cf];exact q3)) 0 48 48 dc))<|Mv rfl<|Ext rfl rfl<|Ext rfl rfl<|Al 7 hGF zv52<|fun b7=>Sa 7 hGF rfl rfl rfl bJ<|Asg rfl<|aa<|ae (E:=EE [93,2000093])<|Mv rfl<|gF (l:=48) (h':=96) (m:=96) rfl underlying22 sizeOf5 rfl rfl rfl ⟨dc,Nat.le_refl _,om⟩ rfl rfl<|Cc rfl ent74 (fun w' hC hG=>qF _ _ _ (LO bs 48) (kX om) rfl hp (X2 bs).1 rfl w' hG (BytesAt.cut3 (cH (aH (n:=33) rfl w' hC) (by rw[cf];exact q3)) 48 48 96 dc))<|Mv rfl<|Ext rfl rfl<|Ext rfl rfl<|Al 9 hGF zv52<|fun b9=>Sa 9 hGF rfl rfl rfl bJ<|Asg rfl<|aa<|ah<|ae (E:=EE [93,2000093])<|Mv rfl<|bu rfl (fun _=>a9 _) rfl rfl<|Mv rfl<|Sk<|Sk<|Pk rfl rfl rfl<|aa<|aR rfl<|ae (E:=EE [93,2000093])<|Ca rfl (J2.ma)<|Sa 2 hGF rfl rfl rfl co<|Asg rfl<|aa<|am<|Rr<|?_
   exact a8 2 rfl rfl rfl rfl isAgg80 sizeOf80 sm (fun w hw=>⟨rfl,ac hw⟩)
  ·refine Cc rfl ent74 (fun w' hC hG=>qF _ _ _ (LO bs 0) (kX om) rfl hp2 (X2 bs).2 rfl w' hG (BytesAt.cut3 (cH (aH (n:=33) rfl w' hC) (by rw[cf];exact q3)) 0 48 48 dc))<|Mv rfl<|Ext rfl rfl<|Ext rfl rfl<|Al 7 hGF zv52<|fun b7=>Sa 7 hGF rfl rfl rfl bJ<|Asg rfl<|aa<|ae (E:=EE [93,2000093])<|Mv rfl<|gF (l:=48) (h':=96) (m:=96) rfl underlying22 sizeOf5 rfl rfl rfl ⟨dc,Nat.le_refl _,om⟩ rfl rfl<|Cc rfl ent74 (fun w' hC hG=>qw _ _ _ (LO bs 48) (kX om) rfl hp w' hG (BytesAt.cut3 (cH (aH (n:=33) rfl w' hC) (by rw[cf];exact q3)) 48 48 96 dc))<|Mv rfl<|Ext rfl rfl<|Ext rfl rfl<|Al 9 hGF zv52<|fun b9=>Sa 9 hGF rfl rfl rfl bJ<|Asg rfl<|aa<|ah<|ae (E:=EE [93,2000093])<|Mv rfl<|bu rfl (fun _=>a9 _) rfl rfl<|Mv rfl<|Mv rfl<|bu rfl (fun _=>a9 _) rfl rfl<|Pk rfl rfl rfl<|aa<|aR rfl<|ae (E:=EE [93,2000093])<|Ca rfl (J2.ma)<|Sa 2 hGF rfl rfl rfl co<|Asg rfl<|aa<|am<|Rr<|?_
   exact a8 2 rfl rfl rfl rfl isAgg80 sizeOf80 sm (fun w hw=>⟨rfl,ac hw⟩)
  ·refine Cc rfl ent74 (fun w' hC hG=>qw _ _ _ (LO bs 0) (kX om) rfl hp2 w' hG (BytesAt.cut3 (cH (aH (n:=33) rfl w' hC) (by rw[cf];exact q3)) 0 48 48 dc))<|Mv rfl<|Ext rfl rfl<|Ext rfl rfl<|Al 7 hGF zv52<|fun b7=>Sa 7 hGF rfl rfl rfl bJ<|Asg rfl<|aa<|ae (E:=EE [93,2000093])<|Mv rfl<|gF (l:=48) (h':=96) (m:=96) rfl underlying22 sizeOf5 rfl rfl rfl ⟨dc,Nat.le_refl _,om⟩ rfl rfl<|Cc rfl ent74 (fun w' hC hG=>qw _ _ _ (LO bs 48) (kX om) rfl hp w' hG (BytesAt.cut3 (cH (aH (n:=33) rfl w' hC) (by rw[cf];exact q3)) 48 48 96 dc))<|Mv rfl<|Ext rfl rfl<|Ext rfl rfl<|Al 9 hGF zv52<|fun b9=>Sa 9 hGF rfl rfl rfl bJ<|Asg rfl<|aa<|ah<|ae (E:=EE [93,2000093])<|Mv rfl<|bu rfl (fun _=>a9 _) rfl rfl<|Mv rfl<|Sk<|Sk<|Pk rfl rfl rfl<|aa<|aR rfl<|ae (E:=EE [93,2000093])<|Ca rfl (J2.ma)<|Sa 2 hGF rfl rfl rfl co<|Asg rfl<|aa<|am<|Rr<|?_
   exact a8 2 rfl rfl rfl rfl isAgg80 sizeOf80 sm (fun w hw=>⟨rfl,ac hw⟩)
  ·refine Cc rfl ent74 (fun w' hC hG=>qF _ _ _ (LO bs 0) (kX om) rfl hp2 (X2 bs).2 rfl w' hG (BytesAt.cut3 (cH (aH (n:=33) rfl w' hC) (by rw[cf];exact q3)) 0 48 48 dc))<|Mv rfl<|Ext rfl rfl<|Ext rfl rfl<|Al 7 hGF zv52<|fun b7=>Sa 7 hGF rfl rfl rfl bJ<|Asg rfl<|aa<|ae (E:=EE [93,2000093])<|Mv rfl<|gF (l:=48) (h':=96) (m:=96) rfl underlying22 sizeOf5 rfl rfl rfl ⟨dc,Nat.le_refl _,om⟩ rfl rfl<|Cc rfl ent74 (fun w' hC hG=>qF _ _ _ (LO bs 48) (kX om) rfl hp (X2 bs).1 rfl w' hG (BytesAt.cut3 (cH (aH (n:=33) rfl w' hC) (by rw[cf];exact q3)) 48 48 96 dc))<|Mv rfl<|Ext rfl rfl<|Ext rfl rfl<|Al 9 hGF zv52<|fun b9=>Sa 9 hGF rfl rfl rfl bJ<|Asg rfl<|aa<|ah<|ae (E:=EE [93,2000093])<|Mv rfl<|bu rfl (fun _=>a9 _) rfl rfl<|Mv rfl<|Mv rfl<|bu rfl (fun _=>a9 _) rfl rfl<|Pk rfl rfl rfl<|aa<|aC rfl<|aq<|ae (E:=EE [93,2000093])<|La 9 rfl rfl bJ<|La 7 rfl rfl bJ<|cv gg rfl rfl sm sm rfl rfl<|Mv rfl<|Bnr (v:=U8 (FG bs &&& 32#8)) rfl rfl (fun _=>cE _ _ 32#8)<|Bnr (v:=.bool (LB bs)) rfl rfl (fun _=>dk _ _ 0#8)<|?_
   rcases h with ⟨hq,rfl,rfl⟩|⟨r,hr,hlr,h⟩
   ·refine Ca rfl (J2.zS (X2 bs) (LB bs) hq)<|Mv rfl<|Ext rfl rfl<|Ext rfl rfl<|Al 11 hGF J2.zv80<|fun b11=>Sa 11 hGF rfl rfl rfl co<|Asg rfl<|aa<|ae (E:=EE [93,2000093])<|La 11 rfl rfl co<|Mv rfl<|Mv rfl<|Ca rfl (Sy _ _)<|Ext rfl rfl<|Ext rfl rfl<|Sa 2 hGF rfl rfl rfl co<|Asg rfl<|aa<|am<|Rr<|?_
    exact a8 2 rfl rfl rfl rfl isAgg80 sizeOf80 sm (fun w hw=>⟨rfl,ac hw⟩)
   ·refine Ca rfl (J2.zI (X2 bs) r hr hlr (LB bs))<|Mv rfl<|Ext rfl rfl<|Ext rfl rfl<|Al 11 hGF J2.zv80<|fun b11=>Sa 11 hGF rfl rfl rfl co<|Asg rfl<|aa<|ae (E:=EE [93,2000093])<|La 11 rfl rfl co<|Mv rfl<|Mv rfl<|Ca rfl (KJ (J2.gRt (X2 bs) r hr (LB bs)) _ _ rfl rfl _ _ rfl c P h on)<|Ext rfl rfl<|Ext rfl rfl<|Sa 2 hGF rfl rfl rfl co<|Asg rfl<|aa<|am<|Rr<|?_
    exact a8 2 rfl rfl rfl rfl isAgg80 sizeOf80 sm (fun w hw=>⟨rfl,ac hw⟩)
theorem RY(e:Option Addr)(cap len:Nat)(bs:L8)(hn:bs.length=len)(c:Int)(P:Pt W2)(h:D2 bs c P)(hc:len≤cap)(w:World)(hw:Gt w)(hby:BytesAt w e bs):CLS 161 [.slice e len cap].toArray w (fun r w'=>r=.returned (.tuple #[J2.PtV (cA2 P (oG h)),I c])∧Grow w w'):=by
 subst hn
 exact Ss e cap bs c P h (oG h) hc w hw hby
end
section
open Go.RowKit
attribute [local simp] a7 bv aJ aB aQ a5 aT aK aO bf bC a6 bz
end
section
open Go.RowKit
namespace Q6
attribute [local simp] a7 bv aJ aB aQ a5 aT aK aO bf bC a6 bz
def FF(f:Nat→W2)(i:Nat):L6:=fe2 (f i)
theorem gZ(f:Nat→W2)(v:W2)(n k o:Nat)(hk:k<n)(ho:o=12*k)(hv:f k=v): ∀j u,((fe v.1++fe v.2).map U64)[j]? =some u→((FM (FF f) n).map U64)[o+j]? =some u:=by
 subst hv
 exact A3 (FF f) n k hk (a6 _) o ho
theorem tS(f g:Nat→W2)(v:W2)(n k o:Nat)(hk:k<n)(ho:o=12*k)(hg: ∀i,i<n→g i=if i=k then v else f i):lay o ((fe v.1++fe v.2).map U64) ((FM (FF f) n).map U64)=(FM (FF g) n).map U64:=by
 have h:=vP (FF f) n k (fe2 v) hk (a6 _) o ho
 refine h.trans (congrArg (List.map U64) (mZ fun i hi=> ?_))
 show (if i=k then fe2 v else fe2 (f i))=fe2 (g i)
 rw[hg i hi]
 split<;>rfl
theorem yp{f g:Nat→W2}{n:Nat}(h: ∀i,i<n→f i=g i):FM (FF f) n=FM (FF g) n:=mZ fun i hi=>congrArg fe2 (h i hi)
theorem yE(A B:Nat→W2)(i j:Nat):(if j<i+1 then A j else B j)=if j=i then A i else (if j<i then A j else B j):=by
 by_cases h:j=i
 ·subst h;rw[if_pos (Nat.lt_succ_self _),if_pos rfl]
 ·rw[if_neg h]
  by_cases h':j<i
  ·rw[if_pos h',if_pos (Nat.lt_succ_of_lt h')]
  ·rw[if_neg h',if_neg (fun e=>h' (Nat.lt_of_le_of_ne (Nat.le_of_lt_succ e) h))]
theorem yo(n:Nat):FM (FF fun _=>ze2) n=FM (fun _=>List.replicate 12 0#64) n:=mZ fun i _=>by
 show fe2 ze2=_
 rw[show fe2 ze2=fe 0++fe 0 from rfl,jw];rfl
end Q6
end
section
open Go.RowKit
namespace Q6
attribute [local simp] a7 bv aJ aB aQ a5 aT aK aO bf bC a6 bz
end Q6
end
section
open Go.RowKit
namespace Q6
attribute [local simp] a7 bv aJ aB aQ a5 aT aK aO bf bC a6 bz
end Q6
end
section
open Go.RowKit
theorem ent224:ak prog 224:=fun _ _=>kr
theorem ent259:ak prog 259:=fun _ _=>kr
theorem ent226:ak prog 226:=fun _ _=>kr
theorem ent274:ak prog 274:=fun _ _=>kr
theorem ent227:ak prog 227:=fun _ _=>kr
theorem ent231:ak prog 231:=fun _ _=>kr
theorem ent203:ak prog 203:=fun _ _=>kr
theorem ent258:ak prog 258:=fun _ _=>kr
theorem ent225:ak prog 225:=fun _ _=>kr
theorem ent232:ak prog 232:=fun _ _=>kr
theorem ent202:ak prog 202:=fun _ _=>kr
theorem ent234:ak prog 234:=fun _ _=>kr
namespace Q6
attribute [local simp] a7 bv aJ aB aQ a5 aT aK aO bf bC a6 bz
abbrev EV6(x:W6):Value:=aM ((fe (x.1).1++fe (x.1).2)++((fe (x.2.1).1++fe (x.2.1).2)++(fe (x.2.2).1++fe (x.2.2).2)))
theorem zv209(w:World):(zeroValue 209).run prog w=.ok (aM ((fe 0++fe 0)++((fe 0++fe 0)++(fe 0++fe 0)))) w:=by rw[jw];exact (zeroValue209 w).trans rr
theorem lj:Three prog 209 ⟨ "C0",78,0,false, "", "",0⟩ ⟨ "C1",78,12,false, "", "",96⟩ ⟨ "C2",78,24,false, "", "",192⟩ 12 (fe 0++fe 0) (fe 0++fe 0) (fe 0++fe 0):=⟨underlying209,rfl,rfl,rfl,sizeOf78,sizeOf78,sizeOf78,zv209,sm,sm,sm⟩
theorem e6{a b c a' b' c':W2}(h1:a=a')(h2:b=b')(h3:c=c'):Ending.returned (aM ((fe (a).1++fe (a).2)++((fe (b).1++fe (b).2)++(fe (c).1++fe (c).2))))=.returned (aM ((fe (a').1++fe (a').2)++((fe (b').1++fe (b').2)++(fe (c').1++fe (c').2)))):=by rw[h1,h2,h3]
def q6:Sh W6:=q2.two (q2.two q2 2) 2
theorem V6(x:W6):EV6 x=dn rid (.inl [x.1.1,x.1.2,x.2.1.1,x.2.1.2,x.2.2.1,x.2.2.2]):=by
 show Value.agg _=Value.agg _
 rw[clv,show cel [x.1.1,x.1.2,x.2.1.1,x.2.1.2,x.2.2.1,x.2.2.2]=fe x.1.1++(fe x.1.2++(fe x.2.1.1++(fe x.2.1.2++(fe x.2.2.1++fe x.2.2.2))))from rfl]
 rw[List.append_assoc,List.append_assoc]
theorem bZ{f:Nat}{a a':List Value}{v v':Value}(ha:a=a')(hv:v=v')(h:PUR f a' v'):PUR f a v:=by rw[ha,hv];exact h
theorem l1{a b:Value}(h:a=b):[a]=[b]:=by rw[h]
theorem l2{a b c d:Value}(h:a=b)(k:c=d):[a,c]=[b,d]:=by rw[h,k]
theorem l3{a b c d e f:Value}(h:a=b)(k:c=d)(l:e=f):[a,c,e]=[b,d,f]:=by rw[h,k,l]
theorem t2{a b c:Value}(h:a=b):Value.tuple #[a,c]=.tuple #[b,c]:=by rw[h]
end Q6
end
section
open Go.RowKit
theorem ent262:ak prog 262:=fun _ _=>kr
namespace Q6
attribute [local simp] a7 bv aJ aB aQ a5 aT aK aO bf bC a6 bz
def p3(x:W6):Nat→W2
 |0=>x.1
 |1=>x.2.1
 |_=>x.2.2
theorem zv264(w:World):(zeroValue 264).run prog w=.ok (aM (FM (FF fun _=>ze2) 3)) w:=by
 rw[yo];exact (zeroValue264 w).trans rr
abbrev TV3(f:Nat→W2):Value:=aM (FM (FF f) 3)
theorem qj(f:Nat→W2)(i:Nat):(FF f i).length=12:=a6 _
attribute [local simp] qj
theorem SH{x y:W6}(h: ∀j,j<3→p3 x j=p3 y j):x=y:=Prod.ext (h 0 dc) (Prod.ext (h 1 dc) (h 2 dc))
theorem lt_s{Q:Nat→Prop}{k:Nat}(h: ∀j,j<k→Q j)(hk:Q k): ∀j,j<k+1→Q j:=fun j hj=>by
 rcases Nat.lt_or_ge j k with h1|h1
 ·exact h j h1
 ·obtain rfl:j=k:=om
  exact hk
theorem Fc(x:W6):PUR 233 [EV6 x] (TV3 (p3 x)):=by
 intro w hw
 refine Hf func233 rfl hw<|fun hGF=>Xp<|Bx 1 hGF rfl<|fun b1=>Al 2 hGF zv264<|fun b2=>aa<|Xp<|Fa 0 rfl underlying209 rfl sizeOf78<|ay 1 _ rfl rfl isAgg78 sizeOf78 sm ed rfl rfl<|Fa 12 rfl underlying209 rfl sizeOf78<|ay 1 _ rfl rfl isAgg78 sizeOf78 sm (kS sm) rfl rfl<|Fa 24 rfl underlying209 rfl sizeOf78<|ay 1 _ rfl rfl isAgg78 sizeOf78 sm (gu (m:=12) (n:=12) sm sm rfl) rfl rfl<|Nk (FF (p3 x)) rfl rfl rfl underlying264 sizeOf78 zv264 (a6 _) (a6 _) (a6 _) rfl rfl<|Sa 2 hGF rfl rfl rfl GD<|aa<|am<|Rr<|?_
 exact av 2 rfl rfl rfl isAgg264 sizeOf264 sm (fun w hw=>⟨rfl,ac hw⟩)
theorem k6of(f:Nat→W2):PUR 261 [TV3 f] (EV6 (f 0,f 1,f 2)):=by
 intro w hw
 refine Hf func261 rfl hw<|fun hGF=>Xp<|Bx 1 hGF rfl<|fun b1=>Al 2 hGF zv209<|fun b2=>aa<|Xp<|fK (0) (12*(0)) rfl rfl underlying264 sizeOf78 om om om rfl rfl<|ay 1 ((fe (f 0).1++fe (f 0).2).map U64) rfl rfl isAgg78 sizeOf78 sm (gZ _ (f 0) 3 (0) _ om rfl (rfl)) rfl rfl<|fK (1) (12*(1)) rfl rfl underlying264 sizeOf78 om om om rfl rfl<|ay 1 ((fe (f 1).1++fe (f 1).2).map U64) rfl rfl isAgg78 sizeOf78 sm (gZ _ (f 1) 3 (1) _ om rfl (rfl)) rfl rfl<|fK (2) (12*(2)) rfl rfl underlying264 sizeOf78 om om om rfl rfl<|ay 1 ((fe (f 2).1++fe (f 2).2).map U64) rfl rfl isAgg78 sizeOf78 sm (gZ _ (f 2) 3 (2) _ om rfl (rfl)) rfl rfl<|ew lj rfl rfl rfl sm sm sm rfl rfl<|Sa 2 hGF rfl rfl rfl dI<|aa<|am<|Rr<|?_
 exact av 2 rfl rfl rfl isAgg209 sizeOf209 sm (fun w hw=>⟨rfl,ac hw⟩)
theorem mh(x:W6)(w:World)(hw:Gt w):CLS 234 [EV6 x].toArray w (fun e w'=> ∃b1,e=.returned (.func (.func 262) #[] #[pnt b1])∧Grow w w'∧w.heap.size≤b1∧OwnB w' b1 (((fe (x.1).1++fe (x.1).2)++((fe (x.2.1).1++fe (x.2.1).2)++(fe (x.2.2).1++fe (x.2.2).2))).map U64) 209):=by
 refine Hf func234 rfl hw<|fun hGF=>Xp<|Bx 1 hGF rfl<|fun b1=>Asg rfl<|aa<|Xp<|gz rfl rfl rfl rfl<|Asg rfl<|aa<|am<|Rr<|?_
 exact aG rfl rfl (fun w hw=>⟨b1,rfl,ac hw,(hw.own 1 b1 _ _ rfl).2.elim id False.elim,(hw.own 1 b1 _ _ rfl).1⟩)
def PS(x:W6):List (List Value):=(List.range 3).map fun (k:Nat)=>[I (k:Int),EV2 (p3 x k)]
theorem uw(x:W6):(PS x).length=3:=by rw[PS,List.length_map,List.length_range]
theorem FY(x:W6)(k:Nat)(h:k<3):(PS x)[k]? =some [I (k:Int),EV2 (p3 x k)]:=by
 rw[PS,List.getElem?_map,List.getElem?_range h];rfl
theorem Pz(x:W6)(k:Nat)(v:List Value)(h:(PS x)[k]? =some v):k<3∧v=[I (k:Int),EV2 (p3 x k)]:=by
 have hk:k<3:=by
  rcases Nat.lt_or_ge k 3 with hk|hk
  ·exact hk
  ·rw[List.getElem?_eq_none (by rw[uw];exact hk)]at h;cases h
 exact ⟨hk,(Option.some.inj ((FY x k hk).symm.trans h)).symm⟩
def RdP(bb:Nat)(x:W6):Cls:=fun w=>w.rangeAt bb 0 (((fe (x.1).1++fe (x.1).2)++((fe (x.2.1).1++fe (x.2.1).2)++(fe (x.2.2).1++fe (x.2.2).2))).map U64)
theorem P7(bb:Nat)(x:W6):fV prog Gt 262 [pnt bb] (PS x) (RdP bb x):=by
 intro l J Jx hJ hJx hRd hGx hY w hj
 have okJ: ∀k,BOk Gt (Bi w (fun Y=>J Y k)):=fun k=>⟨fun _ _ _ h=>(hRd _ _ _ h.rid).1,hJ k⟩
 have okX: ∀k,BOk Gt (Bi w (fun Y=>Jx Y k)):=fun k=>⟨fun _ _ _ h=>hGx _ _ _ h.rid,hJx k⟩
 have c1: ∀k L w',Hp (Bi w (fun Y=>J Y k)) L w'→RdP bb x w':=fun k L w' h=>(hRd _ _ _ h.rid).2
 refine cx (G:=Gt) func262 rfl rfl (Hp (Bi w (fun Y=>J Y 0)) []) (cm (Bi w _) hj (hJ 0)) (aA (okJ 0))<|Xp<|da rfl isAgg209 sizeOf209 sm (fun w h=>c1 _ _ w h) rfl rfl<|Ca rfl (Fc _)<|Mv rfl<|aa<|ai<|gQ (ι:={i:Nat // i≤3}) (fun y=>[(0,.func (.yield l) #[] #[]),(1,pnt bb),(6,TV3 (p3 x)),(7,I (y.1:Int))]) (fun y=>Bi w (fun Y=>J Y y.1)) (fun y=>[]) (fun y=>3-y.1) ⟨0,Nat.zero_le _⟩ (fun _=>okJ _) rfl trv trivial<|?_
 rintro ⟨i,hi⟩
 dsimp only
 refine Xp<|Bnr rfl rfl (fun _=>az _ _ _)<|aa<|ah<|?_
 refine bG rfl (fun hc=> ?_) (fun hc=> ?_)
 ·have hi2:i<3:=by simp at hc;omega
  refine aq<|ah<|ai<|Xp<|Mv rfl<|AW (FF (p3 x)) (i) rfl rfl underlying264 sizeOf78 isAgg78 om om (a6 _) rfl rfl<|Al 4 (okJ _) zv78<|fun b4=>Asg rfl<|Sa 4 (okJ _) rfl rfl rfl aZ<|aa<|Xp<|Mv rfl<|Mv rfl<|La 4 rfl rfl aZ<|?_
  refine dC (hY.b (k:=i) (FY x i om) w) (okJ _) (okX _) rfl rfl rfl rfl rfl ?_ ?_
  ·refine bu rfl (fun _=>a9 _) rfl rfl<|aa<|aC rfl<|aq<|Xq<|Bnr rfl rfl (fun _=>au _ _ _ oi)<|Mv rfl<|aa<|?_
   repeat (refine aP ?_)
   exact aD<|⟨rfl,⟨i+1,om⟩,_,by show 3-(i+1)<3-i;omega,rfl,trv,trivial⟩
  ·refine bu rfl (fun _=>a9 _) rfl rfl<|aa<|aR rfl<|am<|Rr<|?_
   repeat (first|refine dH ?_|refine cq ?_|refine dS rfl ?_|refine bP ?_|refine bR ?_)
   exact dv rfl (fun w hw=>⟨⟨_,rfl⟩,.inr ⟨_,cg (hJx _) hw.rid⟩⟩)
 ·obtain rfl:i=3:=by simp at hc;omega
  refine aW ?_
  repeat (first|refine dH ?_|refine cq ?_|refine dS rfl ?_|refine bP ?_|refine bR ?_)
  refine cQ rfl (fun w hw=>⟨⟨_,rfl⟩,.inl ?_⟩)
  have:=cg (hJ _) hw.rid
  rw[uw]
  exact this
theorem Pg  :PUR 203 [] (EV6 K6.one):=(bZ rfl (V6 _) (pE TO52 func203 [] (.inl (.inl [K6.one.1.1,K6.one.1.2,K6.one.2.1.1,K6.one.2.1.2,K6.one.2.2.1,K6.one.2.2.2])) (let t0:=on2;(.inl (.inl [t0.1,t0.2,0,0,0,0]),[])) [] kr aE rfl))
theorem BE{f:Nat}{g:W6}(en:ak prog f)(h:PUR f [] (EV6 g)):Snd prog Gt f (c0 q6.rd g):=wh q6.rd en (bZ rfl (V6 _).symm h)
def TO53:Tb prog Gt:=TO52.add (BE (g:=K6.one) ent203 Pg)
theorem pN(x y:W6):PUR 202 [EV6 x,EV6 y] (.bool (decide (x=y))):=by
 intro w hw
 have hGF:BOk Gt (pl w):=gt_low.plain hw
 refine cz (G:=Gt) func202 rfl rfl (Hp (pl w) []) (cm (pl w) trivial ao) (aA hGF)<|ae (E:=EE [234])<|Bx 2 hGF rfl<|fun b2=>Bx 3 hGF rfl<|fun b3=>iw 4 hGF zeroValue4 rfl rfl<|fun b4=>aa<|ae (E:=EE [234])<|La 3 rfl rfl dI<|Ca rfl (Fc _)<|Al 5 hGF zv264<|fun b5=>Sa 5 hGF rfl rfl rfl GD<|aa<|ah<|ae (E:=EE [234])<|La 2 rfl rfl dI<|?_
 refine dz rfl rfl ent234 rfl rfl (fun w' hw'=>(mh x w' (hGF.g _ _ _ hw')).mono fun e' w'' h=> ?_)
 obtain ⟨c1,rfl,hg,h1,ho⟩:=h
 refine ⟨_,_,rfl,aA hGF,hw'.news ao hg [(33,c1,((fe (x.1).1++fe (x.1).2)++((fe (x.2.1).1++fe (x.2.1).2)++(fe (x.2.2).1++fe (x.2.2).2))).map U64,209)] ?_ bX, ?_⟩
 ·intro n' b' c' t' hl
  rcases aL hl with ⟨_,e⟩|⟨_,hl⟩
  ·cases e;exact ⟨h1,ho⟩
  ·cases hl
 clear hw' hg h1 ho
 refine aa<|ai<|?_
 refine wr (fun k=> ∀j,j<k→p3 x j=p3 y j) (fun _=>pl w) (fun _ _=>pl w) (fun _=>hGF) (fun _ _=>hGF) (fun _=>rfl) (fun _ _=>rfl) rfl rfl ent262 (P7 c1 x) (fun v hv=>by obtain ⟨k,hk,rfl⟩:=List.mem_map.1 hv;rfl) rfl (fun k=>[(2,b2,((fe (x.1).1++fe (x.1).2)++((fe (x.2.1).1++fe (x.2.1).2)++(fe (x.2.2).1++fe (x.2.2).2))).map U64,209),(3,b3,((fe (y.1).1++fe (y.1).2)++((fe (y.2.1).1++fe (y.2.1).2)++(fe (y.2.2).1++fe (y.2.2).2))).map U64,209),(4,b4,[.bool false],4),(5,b5,(FM (FF (p3 y)) 3).map U64,264),(33,c1,((fe (x.1).1++fe (x.1).2)++((fe (x.2.1).1++fe (x.2.1).2)++(fe (x.2.2).1++fe (x.2.2).2))).map U64,209)]) (fun c _ L'=>c=.ret∧lkB L' 4=some (b4,[.bool false],4)∧¬x=y) (fun j h=>absurd h (Nat.not_lt_zero j)) trv (fun k _ w' h=>aH (n:=33) rfl w' h) ?_ ?_ ?_ (fun D c k L' hD h=>by obtain ⟨rfl,hl,hne⟩:=h;refine IY ?_;refine bR ?_;refine bP ?_;exact (d9 (.inl rfl) ao (sV 4 rfl rfl hl isAgg4 (fun w hw=>⟨congrArg (fun b=>Ending.returned (.bool b)) (decide_eq_false hne).symm,ac hw⟩))))
 ·intro k v hx hQ R hR
  obtain ⟨hk,rfl⟩:=Pz x k v hx
  refine ae (E:=EE [234])<|Asg rfl<|aa<|bN (E:=EE [234])<|dX 7 (hR (pl w) rfl hGF).1 zv78 rfl rfl<|fun b7=>aw 7 (hR (pl w) rfl hGF).1 rfl rfl rfl sizeOf78 sm sm (be _) rfl<|aa<|?_
  refine ⟨rfl,_,rfl, ?_⟩
  refine ai<|Xd [234]<|La 7 rfl rfl aZ<|Mv rfl<|fK (k) (12*(k)) rfl rfl underlying264 sizeOf78 om om om rfl rfl<|ay 5 ((fe (p3 y k).1++fe (p3 y k).2).map U64) rfl rfl isAgg78 sizeOf78 sm (gZ _ (p3 y k) 3 (k) _ om rfl (rfl)) rfl rfl<|Ca rfl (uM _ _)<|bu rfl (fun _=>a9 _) rfl rfl<|aa<|?_
  refine bG rfl (fun hc=> ?_) (fun hc=> ?_)
  ·have hc: ¬p3 x k=p3 y k:=by simpa using hc
   refine ae (E:=EE [234])<|d8 4 (hR (pl w) rfl hGF).2.1 rfl rfl rfl sizeOf4 rfl (by simp[*]) rfl<|aa<|am<|Rr<|?_
   refine Rr ?_
   exact ⟨_,rfl,rfl,rfl,fun e=>hc (by rw[e])⟩
  ·have hc:p3 x k=p3 y k:=by simpa using hc
   refine aq ?_
   repeat (refine aP ?_)
   exact ⟨_,rfl,Q0 (lt_s hQ hc) trv⟩
 ·intro hQ D hD
  rw[uw]at*
  have hxy:=SH hQ
  refine ae (E:=EE [234])<|d8 4 hD rfl rfl rfl sizeOf4 rfl (by simp[*]) rfl<|aa<|am<|Rr<|?_
  exact d9 (.inl rfl) ao (sV 4 rfl rfl rfl isAgg4 (fun w hw=>⟨congrArg (fun b=>Ending.returned (.bool b)) (decide_eq_true hxy).symm,ac hw⟩))
 ·intro D hb
  exact aP<|aD<|rK hb
theorem ol(x y:W6):PUR 225 [EV6 x,EV6 y] (EV6 (K6.add x y)):=(bZ (l2 (V6 _) (V6 _)) (V6 _) (pE TO53 func225 [.inl [x.1.1,x.1.2,x.2.1.1,x.2.1.2,x.2.2.1,x.2.2.2],.inl [y.1.1,y.1.2,y.2.1.1,y.2.1.2,y.2.2.1,y.2.2.2]] (.inl (.inl [(K6.add x y).1.1,(K6.add x y).1.2,(K6.add x y).2.1.1,(K6.add x y).2.1.2,(K6.add x y).2.2.1,(K6.add x y).2.2.2])) (let t0:=ad2 (x.1.1,x.1.2) (y.1.1,y.1.2);let t1:=ad2 (x.2.1.1,x.2.1.2) (y.2.1.1,y.2.1.2);let t2:=ad2 (x.2.2.1,x.2.2.2) (y.2.2.1,y.2.2.2);(.inl (.inl [t0.1,t0.2,t1.1,t1.2,t2.1,t2.2]),[])) [] kr aE rfl))
theorem cC{f:Nat}{g:W6→W6→W6}(en:ak prog f)(h: ∀a b,PUR f [EV6 a,EV6 b] (EV6 (g a b))):Snd prog Gt f (c2 q6.ag q6.ag q6.rd g):=gK q6.ag q6.ag q6.rd en (fun a b=>bZ (l2 (V6 _).symm (V6 _).symm) (V6 _).symm (h a b))
def TO54:Tb prog Gt:=TO53.add (cC (g:=K6.add) ent225 ol)
theorem q9(x y:W6):PUR 227 [EV6 x,EV6 y] (EV6 (sb6 x y)):=(bZ (l2 (V6 _) (V6 _)) (V6 _) (pE TO54 func227 [.inl [x.1.1,x.1.2,x.2.1.1,x.2.1.2,x.2.2.1,x.2.2.2],.inl [y.1.1,y.1.2,y.2.1.1,y.2.1.2,y.2.2.1,y.2.2.2]] (.inl (.inl [(sb6 x y).1.1,(sb6 x y).1.2,(sb6 x y).2.1.1,(sb6 x y).2.1.2,(sb6 x y).2.2.1,(sb6 x y).2.2.2])) (let t0:=sb2 (x.1.1,x.1.2) (y.1.1,y.1.2);let t1:=sb2 (x.2.1.1,x.2.1.2) (y.2.1.1,y.2.1.2);let t2:=sb2 (x.2.2.1,x.2.2.2) (y.2.2.1,y.2.2.2);(.inl (.inl [t0.1,t0.2,t1.1,t1.2,t2.1,t2.2]),[])) [] kr aE rfl))
def TO55:Tb prog Gt:=TO54.add (cC (g:=sb6) ent227 q9)
theorem FN(x:W6):PUR 232 [EV6 x] (EV6 (K6.neg x)):=(bZ (l1 (V6 _)) (V6 _) (pE TO55 func232 [.inl [x.1.1,x.1.2,x.2.1.1,x.2.1.2,x.2.2.1,x.2.2.2]] (.inl (.inl [(K6.neg x).1.1,(K6.neg x).1.2,(K6.neg x).2.1.1,(K6.neg x).2.1.2,(K6.neg x).2.2.1,(K6.neg x).2.2.2])) (let t0:=ng2 (x.1.1,x.1.2);let t1:=ng2 (x.2.1.1,x.2.1.2);let t2:=ng2 (x.2.2.1,x.2.2.2);(.inl (.inl [t0.1,t0.2,t1.1,t1.2,t2.1,t2.2]),[])) [] kr aE rfl))
theorem cO{f:Nat}{g:W6→W6}(en:ak prog f)(h: ∀a,PUR f [EV6 a] (EV6 (g a))):Snd prog Gt f (c1 q6.ag q6.rd g):=gI q6.ag q6.rd en (fun a=>bZ (l1 (V6 _).symm) (V6 _).symm (h a))
def TO56:Tb prog Gt:=TO55.add (cO (g:=K6.neg) ent232 FN)
theorem ni(x y:W6):PUR 224 [EV6 x,EV6 y] (EV6 (K6.mul x y)):=by
 intro w hw
 refine Hf func224 rfl hw<|fun hGF=>Xp<|Bx 2 hGF rfl<|fun b2=>Bx 3 hGF rfl<|fun b3=>Al 4 hGF zv209<|fun b4=>aa<|ef (E:=EE [2999999]) [0,1,2,3,4,5,6,7,8,9,10,11,12,13,14] [⟨15,5,78,(fe 0++fe 0).map U64⟩,⟨16,6,78,(fe 0++fe 0).map U64⟩,⟨17,7,78,(fe 0++fe 0).map U64⟩] [18,19,20] cL rfl kr kr kr kr kr kr dc (by intro x hx;simp only[List.mem_cons,List.not_mem_nil,or_false]at hx;rcases hx with rfl|rfl|rfl<;>exact bp rfl zv78 rfl)<|Fa 0 rfl underlying209 rfl sizeOf78<|ay 2 _ rfl rfl isAgg78 sizeOf78 sm ed rfl rfl<|Fa 0 rfl underlying209 rfl sizeOf78<|ay 3 _ rfl rfl isAgg78 sizeOf78 sm ed rfl rfl<|Ca rfl (dQ _ _)<|Fa 12 rfl underlying209 rfl sizeOf78<|ay 2 _ rfl rfl isAgg78 sizeOf78 sm (kS sm) rfl rfl<|Fa 12 rfl underlying209 rfl sizeOf78<|ay 3 _ rfl rfl isAgg78 sizeOf78 sm (kS sm) rfl rfl<|Ca rfl (dQ _ _)<|Fa 24 rfl underlying209 rfl sizeOf78<|ay 2 _ rfl rfl isAgg78 sizeOf78 sm (gu (m:=12) (n:=12) sm sm rfl) rfl rfl<|Fa 24 rfl underlying209 rfl sizeOf78<|ay 3 _ rfl rfl isAgg78 sizeOf78 sm (gu (m:=12) (n:=12) sm sm rfl) rfl rfl<|Ca rfl (dQ _ _)<|aa<|?_
 refine ⟨_,_,rfl,hGF,by intro x hx;simp only[List.mem_cons,List.not_mem_nil,or_false]at hx;rcases hx with rfl|rfl|rfl<;>rfl,by intro x hx;simp only[List.mem_cons,List.not_mem_nil,or_false]at hx;rcases hx with rfl|rfl|rfl<;>rfl,fun adr=> ?_⟩
 refine Sa 5 hGF rfl rfl rfl aZ<|Sa 6 hGF rfl rfl rfl aZ<|Sa 7 hGF rfl rfl rfl aZ<|aa<|Xa [0,1,2,3,4,5,6,7,8,9,10,11,12,13,14] ⟨15,8,78,(fe 0++fe 0).map U64⟩ [16] (bp rfl zv78 rfl)<|Fa 0 rfl underlying209 rfl sizeOf78<|ay 2 _ rfl rfl isAgg78 sizeOf78 sm ed rfl rfl<|Fa 12 rfl underlying209 rfl sizeOf78<|ay 2 _ rfl rfl isAgg78 sizeOf78 sm (kS sm) rfl rfl<|Ca rfl (fI _ _)<|Fa 0 rfl underlying209 rfl sizeOf78<|ay 3 _ rfl rfl isAgg78 sizeOf78 sm ed rfl rfl<|Fa 12 rfl underlying209 rfl sizeOf78<|ay 3 _ rfl rfl isAgg78 sizeOf78 sm (kS sm) rfl rfl<|Ca rfl (fI _ _)<|Ca rfl (dQ _ _)<|La 5 rfl rfl aZ<|Ca rfl (lz _ _)<|La 6 rfl rfl aZ<|Ca rfl (lz _ _)<|aa<|?_
 refine ⟨_,_,rfl,hGF,by intro x hx;simp only[List.mem_cons,List.not_mem_nil,or_false]at hx;subst hx;rfl,by intro x hx;simp only[List.mem_cons,List.not_mem_nil,or_false]at hx;subst hx;rfl,fun adr=> ?_⟩
 refine Sa 8 hGF rfl rfl rfl aZ<|aa<|Xa [0,1,2,3,4,5,6,7,8,9,10,11,12,13,14] ⟨15,9,78,(fe 0++fe 0).map U64⟩ [16] (bp rfl zv78 rfl)<|Fa 0 rfl underlying209 rfl sizeOf78<|ay 2 _ rfl rfl isAgg78 sizeOf78 sm ed rfl rfl<|Fa 24 rfl underlying209 rfl sizeOf78<|ay 2 _ rfl rfl isAgg78 sizeOf78 sm (gu (m:=12) (n:=12) sm sm rfl) rfl rfl<|Ca rfl (fI _ _)<|Fa 0 rfl underlying209 rfl sizeOf78<|ay 3 _ rfl rfl isAgg78 sizeOf78 sm ed rfl rfl<|Fa 24 rfl underlying209 rfl sizeOf78<|ay 3 _ rfl rfl isAgg78 sizeOf78 sm (gu (m:=12) (n:=12) sm sm rfl) rfl rfl<|Ca rfl (fI _ _)<|Ca rfl (dQ _ _)<|La 5 rfl rfl aZ<|Ca rfl (lz _ _)<|La 7 rfl rfl aZ<|Ca rfl (lz _ _)<|aa<|?_
 refine ⟨_,_,rfl,hGF,by intro x hx;simp only[List.mem_cons,List.not_mem_nil,or_false]at hx;subst hx;rfl,by intro x hx;simp only[List.mem_cons,List.not_mem_nil,or_false]at hx;subst hx;rfl,fun adr=> ?_⟩
 refine Sa 9 hGF rfl rfl rfl aZ<|aa<|Xa [0,1,2,3,4,5,6,7,8,9,10,11,12,13,14] ⟨15,10,78,(fe 0++fe 0).map U64⟩ [16] (bp rfl zv78 rfl)<|Fa 12 rfl underlying209 rfl sizeOf78<|ay 2 _ rfl rfl isAgg78 sizeOf78 sm (kS sm) rfl rfl<|Fa 24 rfl underlying209 rfl sizeOf78<|ay 2 _ rfl rfl isAgg78 sizeOf78 sm (gu (m:=12) (n:=12) sm sm rfl) rfl rfl<|Ca rfl (fI _ _)<|Fa 12 rfl underlying209 rfl sizeOf78<|ay 3 _ rfl rfl isAgg78 sizeOf78 sm (kS sm) rfl rfl<|Fa 24 rfl underlying209 rfl sizeOf78<|ay 3 _ rfl rfl isAgg78 sizeOf78 sm (gu (m:=12) (n:=12) sm sm rfl) rfl rfl<|Ca rfl (fI _ _)<|Ca rfl (dQ _ _)<|La 6 rfl rfl aZ<|Ca rfl (lz _ _)<|La 7 rfl rfl aZ<|Ca rfl (lz _ _)<|aa<|?_
 refine ⟨_,_,rfl,hGF,by intro x hx;simp only[List.mem_cons,List.not_mem_nil,or_false]at hx;subst hx;rfl,by intro x hx;simp only[List.mem_cons,List.not_mem_nil,or_false]at hx;subst hx;rfl,fun adr=> ?_⟩
 refine Sa 10 hGF rfl rfl rfl aZ<|aa<|Xd []<|La 5 rfl rfl aZ<|La 10 rfl rfl aZ<|Ca rfl (Eb _)<|Ca rfl (fI _ _)<|La 8 rfl rfl aZ<|La 7 rfl rfl aZ<|Ca rfl (Eb _)<|Ca rfl (fI _ _)<|La 9 rfl rfl aZ<|La 6 rfl rfl aZ<|Ca rfl (fI _ _)<|ew lj rfl rfl rfl sm sm sm rfl rfl<|Sa 4 hGF rfl rfl rfl dI<|aa<|am<|Rr<|?_
 exact av 4 rfl rfl rfl isAgg209 sizeOf209 sm (fun w hw=>⟨e6 (zq R2 [x.1,x.2.1,x.2.2,y.1,y.2.1,y.2.2,XI] (ta (tm j0 j3) (txi 6 (tsb (tsb (tm (ta j1 j2) (ta j4 j5)) (tm j1 j4)) (tm j2 j5)) rfl)) (ta (tm j0 j3) (tm j6 (ta (tm j1 j5) (tm j2 j4))))) (zq R2 [x.1,x.2.1,x.2.2,y.1,y.2.1,y.2.2,XI] (ta (tsb (tsb (tm (ta j0 j1) (ta j3 j4)) (tm j0 j3)) (tm j1 j4)) (txi 6 (tm j2 j5) rfl)) (ta (ta (tm j0 j4) (tm j1 j3)) (tm j6 (tm j2 j5)))) (zq R2 [x.1,x.2.1,x.2.2,y.1,y.2.1,y.2.2,XI] (ta (tsb (tsb (tm (ta j0 j2) (ta j3 j5)) (tm j0 j3)) (tm j2 j5)) (tm j1 j4)) (ta (ta (tm j0 j5) (tm j1 j4)) (tm j2 j3))),ac hw⟩)
def TO57:Tb prog Gt:=TO56.add (cC (g:=K6.mul) ent224 ni)
theorem nH(x:W6):PUR 258 [EV6 x] (EV6 (K6.mul x x)):=by
 intro w hw
 refine Hf func258 rfl hw<|fun hGF=>Xp<|Bx 1 hGF rfl<|fun b1=>Al 2 hGF zv209<|fun b2=>aa<|ef (E:=EE [2999999]) [0,1,2,3,4,5] [⟨6,3,78,(fe 0++fe 0).map U64⟩,⟨7,4,78,(fe 0++fe 0).map U64⟩] [8,9] cL rfl kr kr kr kr kr kr dc (by intro x hx;simp only[List.mem_cons,List.not_mem_nil,or_false]at hx;rcases hx with rfl|rfl<;>exact bp rfl zv78 rfl)<|Fa 0 rfl underlying209 rfl sizeOf78<|ay 1 _ rfl rfl isAgg78 sizeOf78 sm ed rfl rfl<|Ca rfl (i4 _)<|Fa 24 rfl underlying209 rfl sizeOf78<|ay 1 _ rfl rfl isAgg78 sizeOf78 sm (gu (m:=12) (n:=12) sm sm rfl) rfl rfl<|Ca rfl (i4 _)<|aa<|?_
 refine ⟨_,_,rfl,hGF,by intro x hx;simp only[List.mem_cons,List.not_mem_nil,or_false]at hx;rcases hx with rfl|rfl<;>rfl,by intro x hx;simp only[List.mem_cons,List.not_mem_nil,or_false]at hx;rcases hx with rfl|rfl<;>rfl,fun adr=> ?_⟩
 refine Sa 3 hGF rfl rfl rfl aZ<|Sa 4 hGF rfl rfl rfl aZ<|aa<|ef (E:=EE [2999999]) [0,1,2,3,4,5,6,7,8,9] [⟨10,5,78,(fe 0++fe 0).map U64⟩,⟨11,6,78,(fe 0++fe 0).map U64⟩] [12,13] cL rfl kr kr kr kr kr kr dc (by intro x hx;simp only[List.mem_cons,List.not_mem_nil,or_false]at hx;rcases hx with rfl|rfl<;>exact bp rfl zv78 rfl)<|Fa 0 rfl underlying209 rfl sizeOf78<|ay 1 _ rfl rfl isAgg78 sizeOf78 sm ed rfl rfl<|Fa 12 rfl underlying209 rfl sizeOf78<|ay 1 _ rfl rfl isAgg78 sizeOf78 sm (kS sm) rfl rfl<|Ca rfl (dQ _ _)<|Fa 12 rfl underlying209 rfl sizeOf78<|ay 1 _ rfl rfl isAgg78 sizeOf78 sm (kS sm) rfl rfl<|Fa 24 rfl underlying209 rfl sizeOf78<|ay 1 _ rfl rfl isAgg78 sizeOf78 sm (gu (m:=12) (n:=12) sm sm rfl) rfl rfl<|Ca rfl (dQ _ _)<|aa<|?_
 refine ⟨_,_,rfl,hGF,by intro x hx;simp only[List.mem_cons,List.not_mem_nil,or_false]at hx;rcases hx with rfl|rfl<;>rfl,by intro x hx;simp only[List.mem_cons,List.not_mem_nil,or_false]at hx;rcases hx with rfl|rfl<;>rfl,fun adr=> ?_⟩
 refine Sa 5 hGF rfl rfl rfl aZ<|Sa 6 hGF rfl rfl rfl aZ<|aa<|Xd []<|La 5 rfl rfl aZ<|La 5 rfl rfl aZ<|Ca rfl (fI _ _)<|La 6 rfl rfl aZ<|La 6 rfl rfl aZ<|Ca rfl (fI _ _)<|Sa 5 hGF rfl rfl rfl aZ<|Sa 6 hGF rfl rfl rfl aZ<|aa<|Xa [0,1,2,3,4,5,6,7,8] ⟨9,7,78,(fe 0++fe 0).map U64⟩ [10] (bp rfl zv78 rfl)<|Fa 0 rfl underlying209 rfl sizeOf78<|ay 1 _ rfl rfl isAgg78 sizeOf78 sm ed rfl rfl<|Fa 12 rfl underlying209 rfl sizeOf78<|ay 1 _ rfl rfl isAgg78 sizeOf78 sm (kS sm) rfl rfl<|Ca rfl (lz _ _)<|Fa 24 rfl underlying209 rfl sizeOf78<|ay 1 _ rfl rfl isAgg78 sizeOf78 sm (gu (m:=12) (n:=12) sm sm rfl) rfl rfl<|Ca rfl (fI _ _)<|Ca rfl (i4 _)<|aa<|?_
 refine ⟨_,_,rfl,hGF,by intro x hx;simp only[List.mem_cons,List.not_mem_nil,or_false]at hx;subst hx;rfl,by intro x hx;simp only[List.mem_cons,List.not_mem_nil,or_false]at hx;subst hx;rfl,fun adr=> ?_⟩
 refine Sa 7 hGF rfl rfl rfl aZ<|aa<|Xd []<|La 3 rfl rfl aZ<|La 6 rfl rfl aZ<|Ca rfl (Eb _)<|Ca rfl (fI _ _)<|La 5 rfl rfl aZ<|La 4 rfl rfl aZ<|Ca rfl (Eb _)<|Ca rfl (fI _ _)<|La 7 rfl rfl aZ<|La 5 rfl rfl aZ<|Ca rfl (fI _ _)<|La 6 rfl rfl aZ<|Ca rfl (fI _ _)<|La 3 rfl rfl aZ<|Ca rfl (lz _ _)<|La 4 rfl rfl aZ<|Ca rfl (lz _ _)<|ew lj rfl rfl rfl sm sm sm rfl rfl<|Sa 2 hGF rfl rfl rfl dI<|aa<|am<|Rr<|?_
 exact av 2 rfl rfl rfl isAgg209 sizeOf209 sm (fun w hw=>⟨e6 (zq R2 [x.1,x.2.1,x.2.2,XI] (ta (tm j0 j0) (txi 3 (ta (tm j1 j2) (tm j1 j2)) rfl)) (ta (tm j0 j0) (tm j3 (ta (tm j1 j2) (tm j2 j1))))) (zq R2 [x.1,x.2.1,x.2.2,XI] (ta (ta (tm j0 j1) (tm j0 j1)) (txi 3 (tm j2 j2) rfl)) (ta (ta (tm j0 j1) (tm j1 j0)) (tm j3 (tm j2 j2)))) (zq R2 [x.1,x.2.1,x.2.2,XI] (tsb (tsb (ta (ta (tm (ta (tsb j0 j1) j2) (ta (tsb j0 j1) j2)) (ta (tm j0 j1) (tm j0 j1))) (ta (tm j1 j2) (tm j1 j2))) (tm j0 j0)) (tm j2 j2)) (ta (ta (tm j0 j2) (tm j1 j1)) (tm j2 j0))),ac hw⟩)
def TO58:Tb prog Gt:=TO57.add (cO (g:=fun x=>K6.mul x x) ent258 nH)
theorem BX(x:W6)(c:W2):PUR 231 [EV6 x,EV2 c] (EV6 (sc6 x c)):=by
 intro w hw
 have hGF:BOk Gt (pl w):=gt_low.plain hw
 refine cz (G:=Gt) func231 rfl rfl (Hp (pl w) []) (cm (pl w) trivial ao) (aA hGF)<|ae (E:=EE [234])<|Bx 2 hGF rfl<|fun b2=>Bx 3 hGF rfl<|fun b3=>Al 4 hGF zv209<|fun b4=>aa<|ae (E:=EE [234])<|Al 5 hGF zv264<|fun b5=>aa<|ah<|ae (E:=EE [234])<|La 2 rfl rfl dI<|?_
 refine dz rfl rfl ent234 rfl rfl (fun w' hw'=>(mh x w' (hGF.g _ _ _ hw')).mono fun e' w'' h=> ?_)
 obtain ⟨c1,rfl,hg,h1,ho⟩:=h
 refine ⟨_,_,rfl,aA hGF,hw'.news ao hg [(33,c1,((fe (x.1).1++fe (x.1).2)++((fe (x.2.1).1++fe (x.2.1).2)++(fe (x.2.2).1++fe (x.2.2).2))).map U64,209)] ?_ bX, ?_⟩
 ·intro n' b' c' t' hl
  rcases aL hl with ⟨_,e⟩|⟨_,hl⟩
  ·cases e;exact ⟨h1,ho⟩
  ·cases hl
 clear hw' hg h1 ho
 refine aa<|ai<|?_
 refine ft (fun _=>pl w) (fun _ _=>pl w) (fun _=>hGF) (fun _ _=>hGF) (fun _=>rfl) (fun _ _=>rfl) rfl rfl ent262 (P7 c1 x) (fun v hv=>by obtain ⟨k,hk,rfl⟩:=List.mem_map.1 hv;rfl) rfl (fun k=>[(2,b2,((fe (x.1).1++fe (x.1).2)++((fe (x.2.1).1++fe (x.2.1).2)++(fe (x.2.2).1++fe (x.2.2).2))).map U64,209),(3,b3,(fe c.1++fe c.2).map U64,78),(4,b4,((fe 0++fe 0)++((fe 0++fe 0)++(fe 0++fe 0))).map U64,209),(5,b5,(FM (FF (fun j=>if j<k then ml2 (p3 x j) c else ze2)) 3).map U64,264),(33,c1,((fe (x.1).1++fe (x.1).2)++((fe (x.2.1).1++fe (x.2.1).2)++(fe (x.2.2).1++fe (x.2.2).2))).map U64,209)]) (fun _ _ _=>False) ⟨rfl,rfl,rfl,congrArg (fun l=>some (b5,l,_)) (congrArg (List.map U64) (yp fun j _=>(if_neg (Nat.not_lt_zero j)).symm)),rfl,trivial⟩ (fun k _ w' h=>aH (n:=33) rfl w' h) ?_ ?_ (fun _ _ _ _ _ h=>h.elim)
 ·intro k v hx R hR
  obtain ⟨hk,rfl⟩:=Pz x k v hx
  refine ae (E:=EE [234])<|Asg rfl<|aa<|bN (E:=EE [234])<|dX 7 (hR (pl w) rfl hGF).1 zv78 rfl rfl<|fun b7=>aw 7 (hR (pl w) rfl hGF).1 rfl rfl rfl sizeOf78 sm sm (be _) rfl<|aa<|?_
  refine ⟨rfl,_,rfl, ?_⟩
  refine ai<|bN (E:=EE [234])<|Mv rfl<|La 7 rfl rfl aZ<|La 3 rfl rfl aZ<|Ca rfl (dQ _ _)<|fK (k) (12*(k)) rfl rfl underlying264 sizeOf78 om om om rfl rfl<|lQ 5 ((FM (FF (fun j=>if j<k+1 then ml2 (p3 x j) c else ze2)) 3).map U64) (hR (pl w) rfl hGF).2.1 rfl rfl rfl sizeOf78 sm (be _) (by simp;omega) (tS _ _ (ml2 (p3 x k) c) 3 (k) _ om rfl (fun j _=>yE (fun j=>ml2 (p3 x j) c) (fun _=>ze2) k j)) rfl<|aa<|?_
  repeat (refine aP ?_)
  exact ⟨_,rfl,trv⟩
 ·intro D hD
  rw[uw]
  refine ae (E:=EE [234])<|La 5 rfl rfl GD<|Ca rfl (k6of _)<|Sa 4 hD rfl rfl rfl dI<|aa<|am<|Rr<|?_
  exact d9 (.inl rfl) ao (av 4 rfl rfl rfl isAgg209 sizeOf209 sm (fun w hw=>⟨e6 rfl rfl rfl,ac hw⟩))
theorem k6v(x:W6):PUR 226 [EV6 x] (EV6 (v6 x)):=(bZ (l1 (V6 _)) (V6 _) (pE TO58 func226 [.inl [x.1.1,x.1.2,x.2.1.1,x.2.1.2,x.2.2.1,x.2.2.2]] (.inl (.inl [(v6 x).1.1,(v6 x).1.2,(v6 x).2.1.1,(v6 x).2.1.2,(v6 x).2.2.1,(v6 x).2.2.2])) (let t0:=xi2 (x.2.2.1,x.2.2.2);(.inl (.inl [t0.1,t0.2,x.1.1,x.1.2,x.2.1.1,x.2.1.2]),[])) [] kr aE rfl))
def TO59:Tb prog Gt:=TO58.add (cO (g:=v6) ent226 k6v)
def oth(x:W6):W6:=(i3a x.1 x.2.1 x.2.2,i3b x.1 x.2.1 x.2.2,i3c x.1 x.2.1 x.2.2)
theorem rC(x:W6):PUR 274 [EV6 x] (EV6 (oth x)):=(bZ (l1 (V6 _)) (V6 _) (pE TO59 func274 [.inl [x.1.1,x.1.2,x.2.1.1,x.2.1.2,x.2.2.1,x.2.2.2]] (.inl (.inl [(oth x).1.1,(oth x).1.2,(oth x).2.1.1,(oth x).2.1.2,(oth x).2.2.1,(oth x).2.2.2])) (let t0:=ml2 (x.1.1,x.1.2) (x.1.1,x.1.2);let t1:=ml2 (x.2.1.1,x.2.1.2) (x.2.2.1,x.2.2.2);let t2:=xi2 (t1.1,t1.2);let t3:=sb2 (t0.1,t0.2) (t2.1,t2.2);let t4:=ml2 (x.2.2.1,x.2.2.2) (x.2.2.1,x.2.2.2);let t5:=xi2 (t4.1,t4.2);let t6:=ml2 (x.1.1,x.1.2) (x.2.1.1,x.2.1.2);let t7:=sb2 (t5.1,t5.2) (t6.1,t6.2);let t8:=ml2 (x.2.1.1,x.2.1.2) (x.2.1.1,x.2.1.2);let t9:=ml2 (x.1.1,x.1.2) (x.2.2.1,x.2.2.2);let t10:=sb2 (t8.1,t8.2) (t9.1,t9.2);(.inl (.inl [t3.1,t3.2,t7.1,t7.2,t10.1,t10.2]),[])) [] kr aE rfl))
def TO60:Tb prog Gt:=TO59.add (cO (g:=oth) ent274 rC)
theorem aan(x:W6):ad2 (xi2 (ad2 (ml2 x.2.1 (oth x).2.2) (ml2 x.2.2 (oth x).2.1))) (ml2 x.1 (oth x).1)=i3n x.1 x.2.1 x.2.2:=by
 show R2.add (xi2 (R2.add _ _)) _=R2.add _ (xi2 (R2.add _ _))
 rw[R2.add_comm,R2.add_comm (ml2 x.2.1 (oth x).2.2)]
 rfl
theorem IC(x:W6)(c:W2):PUR 231 [EV6 (oth x),EV2 c] (EV6 (sc6 (oth x) c)):=BX (oth x) c
theorem IA(x:W6):PUR 259 [EV6 x] (EV6 (iv6 x)):=by
 intro w hw
 refine Hf func259 rfl hw<|fun hGF=>Xp<|Bx 1 hGF rfl<|fun b1=>Al 2 hGF zv209<|fun b2=>aa<|Xp<|La 1 rfl rfl dI<|Ca rfl (rC _)<|Al 3 hGF zv209<|fun b3=>Sa 3 hGF rfl rfl rfl dI<|aa<|Xa [0,1,2,3,4,5,6,7,8,9,10,11,12,13,14,15,16,17] ⟨18,4,78,(fe 0++fe 0).map U64⟩ [19] (bp rfl zv78 rfl)<|Fa 12 rfl underlying209 rfl sizeOf78<|ay 1 _ rfl rfl isAgg78 sizeOf78 sm (kS sm) rfl rfl<|Fa 24 rfl underlying209 rfl sizeOf78<|ay 3 _ rfl rfl isAgg78 sizeOf78 sm (gu (m:=12) (n:=12) sm sm rfl) rfl rfl<|Ca rfl (dQ _ _)<|Fa 24 rfl underlying209 rfl sizeOf78<|ay 1 _ rfl rfl isAgg78 sizeOf78 sm (gu (m:=12) (n:=12) sm sm rfl) rfl rfl<|Fa 12 rfl underlying209 rfl sizeOf78<|ay 3 _ rfl rfl isAgg78 sizeOf78 sm (kS sm) rfl rfl<|Ca rfl (dQ _ _)<|Ca rfl (fI _ _)<|Ca rfl (Eb _)<|Fa 0 rfl underlying209 rfl sizeOf78<|ay 1 _ rfl rfl isAgg78 sizeOf78 sm ed rfl rfl<|Fa 0 rfl underlying209 rfl sizeOf78<|ay 3 _ rfl rfl isAgg78 sizeOf78 sm ed rfl rfl<|Ca rfl (dQ _ _)<|Ca rfl (fI _ _)<|aa<|?_
 refine ⟨_,_,rfl,hGF,by intro x hx;simp only[List.mem_cons,List.not_mem_nil,or_false]at hx;subst hx;rfl,by intro x hx;simp only[List.mem_cons,List.not_mem_nil,or_false]at hx;subst hx;rfl,fun adr=> ?_⟩
 refine Sa 4 hGF rfl rfl rfl aZ<|aa<|Xd []<|La 3 rfl rfl dI<|La 4 rfl rfl aZ<|Ca rfl (GN _)<|Ca rfl (IC x _)<|Sa 2 hGF rfl rfl rfl dI<|aa<|am<|Rr<|?_
 exact av 2 rfl rfl rfl isAgg209 sizeOf209 sm (fun w hw=>⟨by rw[aan];rfl,ac hw⟩)
def TO61:Tb prog Gt:=TO60.add (cO (g:=iv6) ent259 IA)
end Q6
end
section
def g2:W2:=pw2 XI th
theorem TC(a:Zp):a+0=a:=by grind
theorem Ac(x:W2): ∀n,nm2 (pw2 x n)=nm2 x^n
 |0=>by
  show nm2 on2=_
  rw[p0,nm2,on2]
  show (1:Zp)*1+0*0=1
  rw[oU,i1];exact TC 1
 |n+1=>by rw[ou,g8,Ac x n,ps]
theorem IG(x:W2):cj2 (cj2 x)=x:=bO rfl (A0 _)
theorem MD(c g:W2):ml2 (cj2 (ml2 (cj2 c) g)) g=ml2 c (nm2 g,0):=by
 rw[gx,IG,show ml2 (ml2 c (cj2 g)) g=ml2 c (ml2 (cj2 g) g)from R2.mul_assoc _ _ _,show ml2 (cj2 g) g=ml2 g (cj2 g)from R2.mul_comm _ _,Sv]
end
section
theorem aaB(a:Zp):a-0=a:=by grind
theorem ZL(a:Zp):0-a= -a:=by grind
theorem YS(a:Zp):0+a=a:=by grind
theorem vz{a b:Zp}(h:a+b=0): -a=b:=by grind
theorem YB:pw2 XI 2=(0,zp 2):=by decide+kernel
theorem Ki(a b:Zp):ml2 (a,0) (0,b)=(0,a*b):=bO (by simp only[ml2];rw[i1,qz,aaB]) (by simp only[ml2];rw[i1,TC])
theorem Kg(a b:Zp):ml2 (0,a) (0,b)=(-(a*b),0):=bO (by simp only[ml2];rw[i1,ZL]) (by simp only[ml2];rw[qz,i1,TC])
theorem im_4(c:Zp):pw2 (0,c) 4=(c^4,0):=by
 show ml2 (ml2 (ml2 (ml2 on2 (0,c)) (0,c)) (0,c)) (0,c)=_
 rw[show ml2 on2 (0,c)=(0,c)from R2.one_mul _,Kg,Ki,Kg]
 exact bO (by grind) rfl
theorem im_3(c:Zp):pw2 (0,c) 3=(0,-(c^3)):=by
 show ml2 (ml2 (ml2 on2 (0,c)) (0,c)) (0,c)=_
 rw[show ml2 on2 (0,c)=(0,c)from R2.one_mul _,Kg,Ki]
 exact bO rfl (by grind)
theorem Oo(c:Zp): ∀s,pw2 (0,c) (4*s)=(c^(4*s),0)
 |0=>by show on2=_;rw[Nat.mul_zero,p0];rfl
 |s+1=>by rw[Nat.mul_succ,uJ,Oo c s,im_4,nU,oW]
theorem aay(c:Zp)(s:Nat):pw2 (0,c) (4*s+3)=(0,-(c^(4*s+3))):=by
 rw[uJ,Oo,im_3,Ki,oW]
 exact bO rfl (by grind)
def cjn(n:Nat)(x:W2):W2:=if n % 2=1 then cj2 x else x
theorem aaw(n:Nat)(x:W2):cj2 (cjn n x)=cjn (n+1) x:=by
 rw[cjn,cjn]
 by_cases h:n % 2=1
 ·rw[if_pos h,if_neg om,IG]
 ·rw[if_neg h,if_pos om]
theorem z8(a b c:W2):ml2 (ml2 a b) c=ml2 a (ml2 b c):=R2.mul_assoc a b c
end
section
/-! ### The powers of p -/
theorem i7(x y:W12):cD (K12.mul x y)=K12.mul (cD x) (cD y):=by
 rw[←gU,←gU,←gU,K12.mul_pw]
theorem wo(x y:W12):cD (K12.add x y)=K12.add (cD x) (cD y):=by
 rw[←gU,←gU,←gU,jX]
def kH(x:W12):Nat→W12
 |0=>x
 |n+1=>cD (kH x n)
theorem pV(x:W12)(m:Nat): ∀n,kH x (m+n)=kH (kH x m) n
 |0=>rfl
 |n+1=>by rw[←Nat.add_assoc,kH,pV x m n];rfl
theorem xl(x y:W12): ∀n,kH (K12.mul x y) n=K12.mul (kH x n) (kH y n)
 |0=>rfl
 |n+1=>by rw[kH,xl x y n,i7];rfl
def D7(z:Zp)(x:W12):W12:=((ml2 x.1.1 (z^0,0),ml2 x.1.2.1 (z^2,0),ml2 x.1.2.2 (z^4,0)),(ml2 x.2.1 (z^1,0),ml2 x.2.2.1 (z^3,0),ml2 x.2.2.2 (z^5,0)))
theorem od(c:W2)(a b:Zp)(k:Nat):ml2 (ml2 c (b^k,0)) (a^k,0)=ml2 c ((a*b)^k,0):=by
 rw[z8,nU]
 have e:b^k*a^k=(a*b)^k:=by
  induction k with
  |zero=>rw[p0,p0,p0];exact oU
  |succ k ih=>rw[ps,ps,ps,←ih];grind
 rw[e]
theorem BL(a b:Zp)(x:W12):D7 a (D7 b x)=D7 (a*b) x:=
 Prod.ext (Prod.ext (od _ _ _ _) (Prod.ext (od _ _ _ _) (od _ _ _ _))) (Prod.ext (od _ _ _ _) (Prod.ext (od _ _ _ _) (od _ _ _ _)))
def ZE:Zp:=nm2 GA
theorem ZK(k:Nat):nm2 (pw2 GA k)=ZE^k:=Ac GA k
theorem lO(c:W2)(k:Nat):ml2 (cj2 (ml2 (cj2 c) (pw2 GA k))) (pw2 GA k)=ml2 c (ZE^k,0):=by rw[MD,ZK]
theorem rA(x:W12):cD (cD x)=D7 ZE x:=
 Prod.ext (Prod.ext (lO _ _) (Prod.ext (lO _ _) (lO _ _))) (Prod.ext (lO _ _) (Prod.ext (lO _ _) (lO _ _)))
theorem VH:ZE=zp 2^sx:=by rw[ZE,GA,Ac,Gc]
theorem XE:sx*3=hf:=by decide+kernel
theorem TQ{a:Zp}(h:a*a=1)(h1:a≠1):a= -1:=by
 have e:(a-1)*(a+1)=0:=by grind
 rcases k5 e with e|e
 ·exact absurd (by grind) h1
 ·grind
theorem TK:hf+hf=PP-1:=by decide+kernel
theorem Nw:zp 2^hf= -1:=TQ (by rw[←oW,TK,fermat rE]) GT
theorem Ka:ZE*(ZE*ZE)= -1:=by
 have e:ZE*(ZE*ZE)=ZE^3:=by generalize ZE=a;grind
 rw[e,VH,←G7,XE,Nw]
theorem EG(x:W12):kH x 6=D7 (ZE*(ZE*ZE)) x:=by
 show cD (cD (cD (cD (cD (cD x)))))=_
 rw[rA x,rA (D7 ZE x),rA,BL ZE ZE x,BL]
def de(x:W12):W12:=(x.1,K6.neg x.2)
theorem u3(c:W2)(n:Nat):ml2 c ((-1:Zp)^(2*n),0)=c:=by
 have e:(-1:Zp)^(2*n)=1:=by
  induction n with
  |zero=>exact p0 _
  |succ n ih=>rw[Nat.mul_succ,oW,ih];generalize hm:(-1:Zp)=a;have:a*a=1:=by rw[←hm,z_nn,oU]
              grind
 rw[e];exact R2.mul_one c
theorem yM(c:W2)(n:Nat):ml2 c ((-1:Zp)^(2*n+1),0)=ng2 c:=by
 have e:ml2 c ((-1:Zp)^(2*n+1),0)=ml2 (ml2 c ((-1:Zp)^(2*n),0)) (-1,0):=by rw[z8,nU,ps]
 rw[e,u3]
 generalize hm:(-1:Zp)=a
 refine bO ?_ ?_
 ·show c.1*a-c.2*0= -c.1
  rw[i1,aaB,←hm];grind
 ·show c.1*0+c.2*a= -c.2
  rw[i1,YS,←hm];grind
theorem jR(x:W12):kH x 6=de x:=by
 rw[EG,Ka]
 exact Prod.ext (Prod.ext (u3 _ 0) (Prod.ext (u3 _ 1) (u3 _ 2))) (Prod.ext (yM _ 0) (Prod.ext (yM _ 1) (yM _ 2)))
theorem u5(x:W12):de (de x)=x:=Prod.ext rfl (K6.neg_neg x.2)
theorem wu(x:W12):kH x 12=x:=by rw[show 12=6+6 from rfl,pV,jR,jR,u5]
/-! ### The conjugate's laws -/
theorem wa(x y:W12):de (K12.mul x y)=K12.mul (de x) (de y):=by rw[←jR,←jR,←jR,xl]
theorem tvv{ρ:Nat→W6}{p:Po}{a:W6}(k:Nat)(ha:K6.d ρ p=a)(hk:ρ k=VV):K6.d ρ (kM p (pv k))=v6 a:=by rw[K6.d_mul,ha,K6.d_var,hk];exact Ba a
theorem Gl{ρ:Nat→W6}{p q:Po}{a b:W6}(ha:K6.d ρ p=a)(hb:K6.d ρ q=b):K6.d ρ (iG p (mp q))=sb6 a b:=by rw[K6.d_add,K6.d_neg,ha,hb,zu]
end
section
open Go.RowKit
theorem ent218:ak prog 218:=fun _ _=>kr
theorem ent201:ak prog 201:=fun _ _=>kr
theorem ent217:ak prog 217:=fun _ _=>kr
theorem ent197:ak prog 197:=fun _ _=>kr
theorem ent165:ak prog 165:=fun _ _=>kr
theorem ent256:ak prog 256:=fun _ _=>kr
theorem ent164:ak prog 164:=fun _ _=>kr
theorem ent220:ak prog 220:=fun _ _=>kr
namespace Q6
attribute [local simp] a7 bv aJ aB aQ a5 aT aK aO bf bC a6 bz
attribute [local simp] qj cM
abbrev cF(x:W12):Value:=aM (((fe (x.1.1).1++fe (x.1.1).2)++((fe (x.1.2.1).1++fe (x.1.2.1).2)++(fe (x.1.2.2).1++fe (x.1.2.2).2)))++((fe (x.2.1).1++fe (x.2.1).2)++((fe (x.2.2.1).1++fe (x.2.2.1).2)++(fe (x.2.2.2).1++fe (x.2.2.2).2))))
theorem zv211(w:World):(zeroValue 211).run prog w=.ok (aM (((fe 0++fe 0)++((fe 0++fe 0)++(fe 0++fe 0)))++((fe 0++fe 0)++((fe 0++fe 0)++(fe 0++fe 0))))) w:=by rw[jw];exact (zeroValue211 w).trans rr
theorem uC:Two prog 211 ⟨ "C0",209,0,false, "", "",0⟩ ⟨ "C1",209,36,false, "", "",288⟩ 36 36 ((fe 0++fe 0)++((fe 0++fe 0)++(fe 0++fe 0))) ((fe 0++fe 0)++((fe 0++fe 0)++(fe 0++fe 0))):=⟨underlying211,rfl,rfl,sizeOf209,sizeOf209,zv211,sm,sm⟩
theorem e12{a b a' b':W6}(h1:a=a')(h2:b=b'):Ending.returned (cF (a,b))=.returned (cF (a',b')):=by rw[h1,h2]
theorem MG{x y:W12}(h:x.1=y.1):decide (x.2=y.2)=decide (x=y):=decide_eq_decide.2 ⟨fun e=>Prod.ext h e,fun e=>by rw[e]⟩
theorem LC{x y:W12}(h: ¬x.1=y.1):false=decide (x=y):=(decide_eq_false fun e=>h (by rw[e])).symm
def p12(x:W12):Nat→W2
 |0=>x.1.1
 |1=>x.2.1
 |2=>x.1.2.1
 |3=>x.2.2.1
 |4=>x.1.2.2
 |_=>x.2.2.2
def q12:Sh W12:=q6.two q6 6
theorem V12(x:W12):cF x=dn rid (.inl [x.1.1.1,x.1.1.2,x.1.2.1.1,x.1.2.1.2,x.1.2.2.1,x.1.2.2.2,x.2.1.1,x.2.1.2,x.2.2.1.1,x.2.2.1.2,x.2.2.2.1,x.2.2.2.2]):=by
 show Value.agg _=Value.agg _
 rw[clv,show cel [x.1.1.1,x.1.1.2,x.1.2.1.1,x.1.2.1.2,x.1.2.2.1,x.1.2.2.2,x.2.1.1,x.2.1.2,x.2.2.1.1,x.2.2.1.2,x.2.2.2.1,x.2.2.2.2]=fe x.1.1.1++(fe x.1.1.2++(fe x.1.2.1.1++(fe x.1.2.1.2++(fe x.1.2.2.1++(fe x.1.2.2.2++(fe x.2.1.1++(fe x.2.1.2++(fe x.2.2.1.1++(fe x.2.2.1.2++(fe x.2.2.2.1++fe x.2.2.2.2))))))))))from rfl]
 simp only[List.append_assoc]
end Q6
end
section
open Go.RowKit
namespace Q6
attribute [local simp] a7 bv aJ aB aQ a5 aT aK aO bf bC a6 bz
attribute [local simp] qj cM
theorem uq  :PUR 165 [] (cF K12.one):=(bZ rfl (V12 _) (pE TO61 func165 [] (.inl (.inl [K12.one.1.1.1,K12.one.1.1.2,K12.one.1.2.1.1,K12.one.1.2.1.2,K12.one.1.2.2.1,K12.one.1.2.2.2,K12.one.2.1.1,K12.one.2.1.2,K12.one.2.2.1.1,K12.one.2.2.1.2,K12.one.2.2.2.1,K12.one.2.2.2.2])) (let t0:=K6.one;(.inl (.inl [t0.1.1,t0.1.2,t0.2.1.1,t0.2.1.2,t0.2.2.1,t0.2.2.2,0,0,0,0,0,0]),[])) [] kr aE rfl))
theorem Kn{f:Nat}{g:W12}(en:ak prog f)(h:PUR f [] (cF g)):Snd prog Gt f (c0 q12.rd g):=wh q12.rd en (bZ rfl (V12 _).symm h)
def TO62:Tb prog Gt:=TO61.add (Kn (g:=K12.one) ent165 uq)
theorem qs(x y:W12):PUR 164 [cF x,cF y] (.bool (decide (x=y))):=by
 intro w hw
 have hGF:BOk Gt (pl w):=gt_low.plain hw
 by_cases h:x.1=y.1
 ·refine Hd func164 rfl hGF<|Xp<|Bx 2 hGF rfl<|fun b2=>Bx 3 hGF rfl<|fun b3=>Asg rfl<|aa<|Xp<|Fa 0 rfl underlying211 rfl sizeOf209<|ay 2 _ rfl rfl isAgg209 sizeOf209 sm ed rfl rfl<|Fa 0 rfl underlying211 rfl sizeOf209<|ay 3 _ rfl rfl isAgg209 sizeOf209 sm ed rfl rfl<|Cbl true rfl ent202 (pN _ _) (decide_eq_true h)<|Mv rfl<|Fa 36 rfl underlying211 rfl sizeOf209<|ay 2 _ rfl rfl isAgg209 sizeOf209 sm (iC sm) rfl rfl<|Fa 36 rfl underlying211 rfl sizeOf209<|ay 3 _ rfl rfl isAgg209 sizeOf209 sm (iC sm) rfl rfl<|Ca rfl (pN _ _)<|Pk rfl rfl rfl<|Asg rfl<|aa<|am<|Rr<|?_
  exact aG rfl rfl (fun w hw=>⟨rb (MG h),ac hw⟩)
 ·refine Hd func164 rfl hGF<|Xp<|Bx 2 hGF rfl<|fun b2=>Bx 3 hGF rfl<|fun b3=>Asg rfl<|aa<|Xp<|Fa 0 rfl underlying211 rfl sizeOf209<|ay 2 _ rfl rfl isAgg209 sizeOf209 sm ed rfl rfl<|Fa 0 rfl underlying211 rfl sizeOf209<|ay 3 _ rfl rfl isAgg209 sizeOf209 sm ed rfl rfl<|Cbl false rfl ent202 (pN _ _) (decide_eq_false h)<|Mv rfl<|Sk<|Sk<|Sk<|Sk<|Sk<|Pk rfl rfl rfl<|Asg rfl<|aa<|am<|Rr<|?_
  exact aG rfl rfl (fun w hw=>⟨rb (LC h),ac hw⟩)
theorem j7{f:Nat}{g:W12→W12→Bool}(en:ak prog f)(h: ∀a b,PUR f [cF a,cF b] (.bool (g a b))):Snd prog Gt f (c2 q12.ag q12.ag rdB g):=gK q12.ag q12.ag rdB en (fun a b=>bZ (l2 (V12 _).symm (V12 _).symm) rfl (h a b))
def TO63:Tb prog Gt:=TO62.add (j7 (g:=fun x y=>decide (x=y)) ent164 qs)
theorem mI{f:Nat}{g:W12→W12→W12}(en:ak prog f)(h: ∀a b,PUR f [cF a,cF b] (cF (g a b))):Snd prog Gt f (c2 q12.ag q12.ag q12.rd g):=gK q12.ag q12.ag q12.rd en (fun a b=>bZ (l2 (V12 _).symm (V12 _).symm) (V12 _).symm (h a b))
theorem Bj(x:W12):PUR 201 [cF x] (cF (de x)):=(bZ (l1 (V12 _)) (V12 _) (pE TO63 func201 [.inl [x.1.1.1,x.1.1.2,x.1.2.1.1,x.1.2.1.2,x.1.2.2.1,x.1.2.2.2,x.2.1.1,x.2.1.2,x.2.2.1.1,x.2.2.1.2,x.2.2.2.1,x.2.2.2.2]] (.inl (.inl [(de x).1.1.1,(de x).1.1.2,(de x).1.2.1.1,(de x).1.2.1.2,(de x).1.2.2.1,(de x).1.2.2.2,(de x).2.1.1,(de x).2.1.2,(de x).2.2.1.1,(de x).2.2.1.2,(de x).2.2.2.1,(de x).2.2.2.2])) (let t0:=K6.neg ((x.2.1.1,x.2.1.2),(x.2.2.1.1,x.2.2.1.2),(x.2.2.2.1,x.2.2.2.2));(.inl (.inl [x.1.1.1,x.1.1.2,x.1.2.1.1,x.1.2.1.2,x.1.2.2.1,x.1.2.2.2,t0.1.1,t0.1.2,t0.2.1.1,t0.2.1.2,t0.2.2.1,t0.2.2.2]),[])) [] kr aE rfl))
theorem eG{f:Nat}{g:W12→W12}(en:ak prog f)(h: ∀a,PUR f [cF a] (cF (g a))):Snd prog Gt f (c1 q12.ag q12.rd g):=gI q12.ag q12.rd en (fun a=>bZ (l1 (V12 _).symm) (V12 _).symm (h a))
theorem Hj(x y:W12):PUR 218 [cF x,cF y] (cF (K12.mul x y)):=by
 intro w hw
 refine Hf func218 rfl hw<|fun hGF=>Xp<|Bx 2 hGF rfl<|fun b2=>Bx 3 hGF rfl<|fun b3=>Al 4 hGF zv211<|fun b4=>aa<|ef (E:=EE [2999999]) [0,1,2,3,4,5,6,7,8,9] [⟨10,5,209,((fe 0++fe 0)++((fe 0++fe 0)++(fe 0++fe 0))).map U64⟩,⟨11,6,209,((fe 0++fe 0)++((fe 0++fe 0)++(fe 0++fe 0))).map U64⟩] [12,13] cL rfl kr kr kr kr kr kr dc (by intro x hx;simp only[List.mem_cons,List.not_mem_nil,or_false]at hx;rcases hx with rfl|rfl<;>exact bp rfl zv209 rfl)<|Fa 0 rfl underlying211 rfl sizeOf209<|ay 2 _ rfl rfl isAgg209 sizeOf209 sm ed rfl rfl<|Fa 0 rfl underlying211 rfl sizeOf209<|ay 3 _ rfl rfl isAgg209 sizeOf209 sm ed rfl rfl<|Ca rfl (ni _ _)<|Fa 36 rfl underlying211 rfl sizeOf209<|ay 2 _ rfl rfl isAgg209 sizeOf209 sm (iC sm) rfl rfl<|Fa 36 rfl underlying211 rfl sizeOf209<|ay 3 _ rfl rfl isAgg209 sizeOf209 sm (iC sm) rfl rfl<|Ca rfl (ni _ _)<|aa<|?_
 refine ⟨_,_,rfl,hGF,by intro x hx;simp only[List.mem_cons,List.not_mem_nil,or_false]at hx;rcases hx with rfl|rfl<;>rfl,by intro x hx;simp only[List.mem_cons,List.not_mem_nil,or_false]at hx;rcases hx with rfl|rfl<;>rfl,fun adr=> ?_⟩
 refine Sa 5 hGF rfl rfl rfl dI<|Sa 6 hGF rfl rfl rfl dI<|aa<|Xa [0,1,2,3,4,5,6,7,8,9,10] ⟨11,7,209,((fe 0++fe 0)++((fe 0++fe 0)++(fe 0++fe 0))).map U64⟩ [12] (bp rfl zv209 rfl)<|Fa 0 rfl underlying211 rfl sizeOf209<|ay 2 _ rfl rfl isAgg209 sizeOf209 sm ed rfl rfl<|Fa 36 rfl underlying211 rfl sizeOf209<|ay 2 _ rfl rfl isAgg209 sizeOf209 sm (iC sm) rfl rfl<|Ca rfl (ol _ _)<|Fa 0 rfl underlying211 rfl sizeOf209<|ay 3 _ rfl rfl isAgg209 sizeOf209 sm ed rfl rfl<|Fa 36 rfl underlying211 rfl sizeOf209<|ay 3 _ rfl rfl isAgg209 sizeOf209 sm (iC sm) rfl rfl<|Ca rfl (ol _ _)<|Ca rfl (ni _ _)<|aa<|?_
 refine ⟨_,_,rfl,hGF,by intro x hx;simp only[List.mem_cons,List.not_mem_nil,or_false]at hx;subst hx;rfl,by intro x hx;simp only[List.mem_cons,List.not_mem_nil,or_false]at hx;subst hx;rfl,fun adr=> ?_⟩
 refine Sa 7 hGF rfl rfl rfl dI<|aa<|Xd []<|La 5 rfl rfl dI<|La 6 rfl rfl dI<|Ca rfl (k6v _)<|Ca rfl (ol _ _)<|La 7 rfl rfl dI<|La 5 rfl rfl dI<|Ca rfl (q9 _ _)<|La 6 rfl rfl dI<|Ca rfl (q9 _ _)<|cv uC rfl rfl sm sm rfl rfl<|Sa 4 hGF rfl rfl rfl ic<|aa<|am<|Rr<|?_
 exact av 4 rfl rfl rfl isAgg211 sizeOf211 sm (fun w hw=>⟨e12 (zq K6 [x.1,x.2,y.1,y.2,VV] (ta (tm j0 j2) (tvv 4 (tm j1 j3) rfl)) (ta (tm j0 j2) (tm j4 (tm j1 j3)))) (zq K6 [x.1,x.2,y.1,y.2,VV] (Gl (Gl (tm (ta j0 j1) (ta j2 j3)) (tm j0 j2)) (tm j1 j3)) (ta (tm j0 j3) (tm j1 j2))),ac hw⟩)
theorem nR(x:W12):PUR 197 [cF x] (cF (K12.mul x x)):=by
 intro w hw
 refine Hf func197 rfl hw<|fun hGF=>Xp<|Bx 1 hGF rfl<|fun b1=>Al 2 hGF zv211<|fun b2=>aa<|Xp<|Fa 0 rfl underlying211 rfl sizeOf209<|ay 1 _ rfl rfl isAgg209 sizeOf209 sm ed rfl rfl<|Fa 36 rfl underlying211 rfl sizeOf209<|ay 1 _ rfl rfl isAgg209 sizeOf209 sm (iC sm) rfl rfl<|Ca rfl (ni _ _)<|Al 3 hGF zv209<|fun b3=>Sa 3 hGF rfl rfl rfl dI<|aa<|Xa [0,1,2,3,4,5,6,7,8,9,10,11] ⟨12,4,209,((fe 0++fe 0)++((fe 0++fe 0)++(fe 0++fe 0))).map U64⟩ [13] (bp rfl zv209 rfl)<|Fa 0 rfl underlying211 rfl sizeOf209<|ay 1 _ rfl rfl isAgg209 sizeOf209 sm ed rfl rfl<|Fa 36 rfl underlying211 rfl sizeOf209<|ay 1 _ rfl rfl isAgg209 sizeOf209 sm (iC sm) rfl rfl<|Ca rfl (ol _ _)<|Fa 0 rfl underlying211 rfl sizeOf209<|ay 1 _ rfl rfl isAgg209 sizeOf209 sm ed rfl rfl<|Fa 36 rfl underlying211 rfl sizeOf209<|ay 1 _ rfl rfl isAgg209 sizeOf209 sm (iC sm) rfl rfl<|Ca rfl (k6v _)<|Ca rfl (ol _ _)<|Ca rfl (ni _ _)<|aa<|?_
 refine ⟨_,_,rfl,hGF,by intro x hx;simp only[List.mem_cons,List.not_mem_nil,or_false]at hx;subst hx;rfl,by intro x hx;simp only[List.mem_cons,List.not_mem_nil,or_false]at hx;subst hx;rfl,fun adr=> ?_⟩
 refine Sa 4 hGF rfl rfl rfl dI<|aa<|Xd []<|La 4 rfl rfl dI<|La 3 rfl rfl dI<|Ca rfl (q9 _ _)<|La 3 rfl rfl dI<|Ca rfl (k6v _)<|Ca rfl (q9 _ _)<|La 3 rfl rfl dI<|La 3 rfl rfl dI<|Ca rfl (ol _ _)<|cv uC rfl rfl sm sm rfl rfl<|Sa 2 hGF rfl rfl rfl ic<|aa<|am<|Rr<|?_
 exact av 2 rfl rfl rfl isAgg211 sizeOf211 sm (fun w hw=>⟨e12 (zq K6 [x.1,x.2,VV] (Gl (Gl (tm (ta j0 j1) (ta j0 (tvv 2 j1 rfl))) (tm j0 j1)) (tvv 2 (tm j0 j1) rfl)) (ta (tm j0 j0) (tm j2 (tm j1 j1)))) (zq K6 [x.1,x.2,VV] (ta (tm j0 j1) (tm j0 j1)) (ta (tm j0 j1) (tm j1 j0))),ac hw⟩)
theorem Qq(x:W12):sb6 (K6.mul x.1 x.1) (v6 (K6.mul x.2 x.2))=qnm K6 VV x:=zq K6 [x.1,x.2,VV] (Gl (tm j0 j0) (tvv 2 (tm j1 j1) rfl)) (ta (tm j0 j0) (tn (tm j2 (tm j1 j1))))
theorem aa5(x:W12)(n:W6):K6.mul x.1 n=K6.add (K6.mul x.1 n) (K6.mul VV (K6.mul (K6.neg x.2) K6.zero)):=zq K6 [x.1,x.2,n,VV] (tm j0 j2) (ta (tm j0 j2) (tm j3 (tm (tn j1) tz0)))
theorem Wr(x:W12)(n:W6):K6.neg (K6.mul x.2 n)=K6.add (K6.mul x.1 K6.zero) (K6.mul (K6.neg x.2) n):=zq K6 [x.1,x.2,n] (tn (tm j1 j2)) (ta (tm j0 tz0) (tm (tn j1) j2))
theorem T4(x:W12):PUR 220 [cF x] (cF (vn x)):=by
 intro w hw
 refine Hf func220 rfl hw<|fun hGF=>Xp<|Bx 1 hGF rfl<|fun b1=>Al 2 hGF zv211<|fun b2=>aa<|Xa [0,1,2,3,4,5,6,7] ⟨8,3,209,((fe 0++fe 0)++((fe 0++fe 0)++(fe 0++fe 0))).map U64⟩ [9] (bp rfl zv209 rfl)<|Fa 0 rfl underlying211 rfl sizeOf209<|ay 1 _ rfl rfl isAgg209 sizeOf209 sm ed rfl rfl<|Ca rfl (nH _)<|Fa 36 rfl underlying211 rfl sizeOf209<|ay 1 _ rfl rfl isAgg209 sizeOf209 sm (iC sm) rfl rfl<|Ca rfl (nH _)<|Ca rfl (k6v _)<|Ca rfl (q9 _ _)<|aa<|?_
 refine ⟨_,_,rfl,hGF,by intro x hx;simp only[List.mem_cons,List.not_mem_nil,or_false]at hx;subst hx;rfl,by intro x hx;simp only[List.mem_cons,List.not_mem_nil,or_false]at hx;subst hx;rfl,fun adr=> ?_⟩
 refine Sa 3 hGF rfl rfl rfl dI<|aa<|Xp<|La 3 rfl rfl dI<|Ca rfl (IA _)<|Al 4 hGF zv209<|fun b4=>Sa 4 hGF rfl rfl rfl dI<|aa<|Xd []<|Fa 0 rfl underlying211 rfl sizeOf209<|ay 1 _ rfl rfl isAgg209 sizeOf209 sm ed rfl rfl<|La 4 rfl rfl dI<|Ca rfl (ni _ _)<|Fa 36 rfl underlying211 rfl sizeOf209<|ay 1 _ rfl rfl isAgg209 sizeOf209 sm (iC sm) rfl rfl<|La 4 rfl rfl dI<|Ca rfl (ni _ _)<|Ca rfl (FN _)<|cv uC rfl rfl sm sm rfl rfl<|Sa 2 hGF rfl rfl rfl ic<|aa<|am<|Rr<|?_
 exact av 2 rfl rfl rfl isAgg211 sizeOf211 sm (fun w hw=>⟨by rw[Qq];exact e12 (aa5 _ _) (Wr _ _),ac hw⟩)
end Q6
end
end Go.Proofs.YtjookodjbjabbaaGreatDoor
