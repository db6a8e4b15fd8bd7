/- L7 -/
import Derived.Test.YtfgacclgjklgnaaGreatDoorL6
import Derived.Test.YtfgacclgjklgnaaGreatDoorX3
import Derived.Test.YtfgacclgjklgnaaGreatDoorX2
import Derived.Test.YtfgacclgjklgnaaGreatDoorXW
set_option maxRecDepth 100000
set_option maxHeartbeats 1000000
namespace Go.Proofs.YtfgacclgjklgnaaGreatDoor
open Go.Proofs.Tryz
section
open Go.RowKit
attribute [local simp] aT a9 aR aM aC bd aJ aI aA PLl cq cn N1l ck cp cm a5 bc aP aX a8 J1.bf J2.bf bI
theorem hmc{i:TypeInfo}(k:Nat)(h:prog.info? 5=some i∧i.zero=some (.int .u8 0)∧i.size=1∧i.bytes=1)(hk:(madeCells (Value.int .u8 0).cells (k*1)).toList=(List.replicate k 0#8).map U8):(madeCells (Value.int .u8 0).cells (k*i.size)).toList=(List.replicate k 0#8).map U8:=by
 rw[h.2.2.1];exact hk
theorem hmk(k:Nat)(h:k≤1000):k*ti5.choose.size≤16777216∧ti5.choose.bytes*k≤281474976710656∧k≤1000000:=by
 rw[ti5.choose_spec.2.2.1,ti5.choose_spec.2.2.2];omega
def OR0(bs:L8)(v:BitVec 8):L8:=bs.set 0 (bs.getD 0 0|||v)
theorem fx(bs:L8)(v:BitVec 8):(OR0 bs v).length=bs.length:=by simp[OR0]
attribute [local simp] fx
theorem vi(x:Zp):lay 0 ((cD x).map U8) ((List.replicate 96 0#8).map U8)=(cD x++List.replicate 48 0#8).map U8:=by
 have h:=sB (cD x) 96 sm
 rw[aA]at h
 exact h
theorem wA(x y:Zp):lay 48 ((cD y).map U8) ((cD x++List.replicate 48 0#8).map U8)=(cD x++cD y).map U8:=by
 rw[im 48 _ _ sm]
 rw[List.map_append,List.map_append]
 have e1:((cD x).map U8++(List.replicate 48 0#8).map U8).take 48=(cD x).map U8:=List.take_left' sm
 have e2:((cD x).map U8++(List.replicate 48 0#8).map U8).drop (48+((cD y).map U8).length)=[]:=List.drop_eq_nil_of_le sm
 rw[e1,e2,List.append_nil]
theorem sz5:(prog.info? 5).map (·.size)=some 1:=kr
end
section
open Go.RowKit
attribute [local simp] aT a9 aR aM aC bd aJ aI aA PLl cq cn N1l ck cp cm a5 bc aP aX a8 J1.bf J2.bf bI fx
def X1(bs:L8):Zp:=zp (BN (LO bs 0) 48)
def X2(bs:L8):W2:=(zp (BN (LO bs 48) 48),zp (BN (LO bs 0) 48))
def LB(bs:L8):Bool:=FG bs &&& 32#8 !=0#8
def NY{α:Type}(z:α)(inG:Option (α×α)→Prop)(l:Bool)(x y:α)(c:Int)(P:Option (α×α)):Prop:=
 ((l=true∧y=z)∧c=103∧P=none)∨(¬(l=true∧y=z)∧((¬inG (some (x,y))∧c=104∧P=none)∨(inG (some (x,y))∧c=0∧P=some (x,y))))
def FLG(bs:L8)(n:Nat){α:Type}(c:Int)(P:Option α)(R:Prop):Prop:=
 (¬bs.length=n∧c=100∧P=none)∨(bs.length=n∧((FG bs &&& 128#8=0#8∧c=101∧P=none)∨(¬FG bs &&& 128#8=0#8∧((¬FG bs &&& 64#8=0#8∧c=INF bs n∧P=none)∨(FG bs &&& 64#8=0#8∧R)))))
def D1(bs:L8)(c:Int)(P:Pt Zp):Prop:=FLG bs 48 c P ((¬BN (LO bs 0) 48<PP∧c=102∧P=none)∨(BN (LO bs 0) 48<PP∧
 ((¬J1.LQ (X1 bs)∧c=103∧P=none)∨(J1.LQ (X1 bs)∧NY 0 (fun Q=>E1.times Q ORD=none) (LB bs) (X1 bs) (J1.LY (X1 bs) (LB bs)) c P))))
def D2(bs:L8)(c:Int)(P:Pt W2):Prop:=FLG bs 96 c P ((¬(BN (LO bs 48) 48<PP∧BN (LO bs 0) 48<PP)∧c=102∧P=none)∨((BN (LO bs 48) 48<PP∧BN (LO bs 0) 48<PP)∧
 ((¬J2.LQ (X2 bs)∧c=103∧P=none)∨(∃r,ml2 r r=J2.RS4 (X2 bs)∧LG2 r=false∧NY ze2 (fun Q=>E2w.times Q ORD=none) (LB bs) (X2 bs) (J2.sgY r (LB bs)) c P))))
theorem yz1{y:Zp}:((y,0):W2)=ze2↔y=0:=⟨fun h=>congrArg Prod.fst h,fun h=>by rw[h];rfl⟩
end
section
theorem bv_a: ∀b:BitVec 8,b &&& 224#8=0#8→(b|||128#8) &&& 31#8=b∧((b|||128#8)|||32#8) &&& 31#8=b∧¬((b|||128#8) &&& 224#8) &&& 128#8=0#8∧¬(((b|||128#8)|||32#8) &&& 224#8) &&& 128#8=0#8∧((b|||128#8) &&& 224#8) &&& 64#8=0#8∧(((b|||128#8)|||32#8) &&& 224#8) &&& 64#8=0#8∧((b|||128#8) &&& 224#8) &&& 32#8=0#8∧¬(((b|||128#8)|||32#8) &&& 224#8) &&& 32#8=0#8:=by decide+kernel
def ENF(B:L8)(l:Bool):L8:=if l=true then OR0 (OR0 B 128#8) 32#8 else OR0 B 128#8
theorem U0(b:BitVec 8)(r:L8):MK (b::r)=(b &&& 31#8)::r:=rfl
theorem z8(b:BitVec 8)(r:L8):FG (b::r)=b &&& 224#8:=rfl
theorem xA(b:BitVec 8)(r:L8):ENF (b::r) true=((b|||128#8)|||32#8)::r:=rfl
theorem xi(b:BitVec 8)(r:L8):ENF (b::r) false=(b|||128#8)::r:=rfl
theorem nI(B:L8)(l:Bool):(ENF B l).length=B.length:=by
 cases l<;>simp[ENF,fx]
structure Top(B:L8):Prop where
 ne:0<B.length
 lt:B.getD 0 0 &&& 224#8=0#8
theorem yc{B:L8}(h:Top B)(l:Bool):MK (ENF B l)=B∧¬FG (ENF B l) &&& 128#8=0#8∧FG (ENF B l) &&& 64#8=0#8∧LB (ENF B l)=l:=by
 cases B with
 |nil=>exact absurd h.ne dc
 |cons b r=>
  obtain ⟨h1,h2,h3,h4,h5,h6,h7,h8⟩:=bv_a b h.lt
  cases l with
  |true=>exact ⟨by rw[xA,U0,h2],by rw[xA,z8];exact h4,by rw[xA,z8];exact h6,by rw[LB,xA,z8];exact bne_iff_ne.2 h8⟩
  |false=>exact ⟨by rw[xi,U0,h1],by rw[xi,z8];exact h3,by rw[xi,z8];exact h5,by rw[LB,xi,z8];exact bne_eq_false_iff_eq.2 h7⟩
/-! ### Numbers below p have noughts there -/
theorem Ej(bs:L8): ∀n,(bs.getD 0 0).toNat*256^n≤BN bs (n+1)
 |0=>by rw[BN,BN];omega
 |n+1=>by
  have:=Ej bs n
  rw[BN,Nat.pow_succ]
  generalize 256^n=p at*
  generalize BN bs (n+1)=q at*
  generalize (bs.getD 0 0).toNat=t at*
  have:t*(p*256)=t*p*256:=by rw[Nat.mul_assoc]
  omega
theorem QE:PP<32*256^47:=by decide+kernel
theorem bv_t: ∀b:BitVec 8,b.toNat<32→b &&& 224#8=0#8:=by decide+kernel
theorem MX{bs:L8}(h:bs.length=48)(hl:BN bs 48<PP):Top bs:=by
 refine ⟨om,bv_t _ ?_⟩
 have h1:=Ej bs 47
 have h2:=QE
 generalize (bs.getD 0 0).toNat=t at*
 have h3:t*256^47<32*256^47:=Nat.lt_of_le_of_lt h1 (Nat.lt_trans hl h2)
 exact Nat.lt_of_mul_lt_mul_right h3
theorem nT(x:Zp):BN (cD x) 48<PP:=by rw[xV];exact x.isLt
theorem uN(x:Zp):Top (cD x):=MX (aA x) (nT x)
theorem s9(x:Zp):zp (BN (cD x) 48)=x:=by
 rw[xV];exact FY x
end
section
def EN1:Pt Zp→L8
 |none=>(List.replicate 48 0#8).set 0 192#8
 |some p=>ENF (cD p.1) (LG2 (p.2,0))
def EN2:Pt W2→L8
 |none=>(List.replicate 96 0#8).set 0 192#8
 |some p=>ENF (cD p.1.2++cD p.1.1) (LG2 p.2)
theorem Tr(y:Zp):ng2 (y,0)=(-y,0):=bp rfl (by show-(0:Zp)=0;exact z_n0')
theorem IC{y:Zp}(h:y≠0):LG2 (-y,0)= !LG2 (y,0):=by
 rw[←Tr];exact nM (fun e=>h (yz1.1 e))
/-! ### Roots -/
theorem KN{x y:Zp}(h:y*y=J1.RS4 x):J1.LQ x:=by
 show SQr (J1.RS4 x)*SQr (J1.RS4 x)=J1.RS4 x
 rw[←h];exact wV y
theorem Va{x y:Zp}(h:y*y=J1.RS4 x):J1.LY x (LG2 (y,0))=y:=by
 have hq:=KN h
 have s:=Q7 y
 have sm:LG2 (SQ (J1.RS4 x),0)=false:=J6 (jR hq)
 rw[h]at s
 cases hl:LG2 (y,0)with
 |false=>
  rw[J1.Ux hq]
  generalize SQ (J1.RS4 x)=t at*
  rcases s with e|e
  ·exact e
  ·by_cases h0:y=0
   ·rw[e,h0];exact z_n0'
   ·rw[e,IC h0,hl]at sm;cases sm
 |true=>
  rw[J1.R0 hq]
  generalize SQ (J1.RS4 x)=t at*
  rcases s with e|e
  ·rw[e,hl]at sm;cases sm
  ·rw[e];exact J1.DS y
theorem VQ{x y:W2}(h:ml2 y y=J2.RS4 x): ∃r,ml2 r r=J2.RS4 x∧LG2 r=false∧J2.sgY r (LG2 y)=y:=by
 cases hl:LG2 y with
 |false=>exact ⟨y,h,hl,rfl⟩
 |true=>
  have h0:y≠ze2:=fun e=>by rw[e,sk]at hl;cases hl
  exact ⟨ng2 y,(J2.JD y).trans h,by rw[nM h0,hl];rfl,R2.neg_neg y⟩
/-! ### Written and read -/
theorem II{bs:L8}(h:bs.length=48):LO bs 0=MK bs:=by
 rw[LO,List.drop_zero];exact List.take_of_length_le (by rw[bI];omega)
theorem MQ{x y:Zp}(on:E1.on (x,y)){c:Int}{Q:Pt Zp}(h:NY 0 (fun Q=>E1.times Q ORD=none) (LG2 (y,0)) x y c Q):D1 (EN1 (some (x,y))) c Q:=by
 have hy:=J1.ld.1 on
 obtain ⟨m,f,s,l⟩:=yc (uN x) (LG2 (y,0))
 have hlen:(EN1 (some (x,y))).length=48:=(nI _ _).trans (aA x)
 have lo:LO (EN1 (some (x,y))) 0=cD x:=(II hlen).trans m
 have ex:X1 (EN1 (some (x,y)))=x:=by rw[X1,lo,s9]
 refine .inr ⟨hlen,.inr ⟨f,.inr ⟨s,.inr ⟨by rw[lo];exact nT x,.inr ?_⟩⟩⟩⟩
 rw[ex,show LB (EN1 (some (x,y)))=LG2 (y,0)from l,Va hy]
 exact ⟨KN hy,h⟩
theorem LO_2{a b:L8}{bs:L8}(ha:a.length=48)(hb:b.length=48)(h:MK bs=a++b):LO bs 0=a∧LO bs 48=b:=by
 rw[LO,LO,h,List.drop_zero]
 exact ⟨List.take_left' ha,by rw[List.drop_left' ha];exact List.take_of_length_le om⟩
theorem IE{a b:L8}(h:Top a):Top (a++b):=by
 cases a with
 |nil=>exact absurd h.ne dc
 |cons x r=>exact ⟨sm,h.lt⟩
theorem O4{x y:W2}(on:E2w.on (x,y)){c:Int}{Q:Pt W2}(h:NY ze2 (fun Q=>E2w.times Q ORD=none) (LG2 y) x y c Q):D2 (EN2 (some (x,y))) c Q:=by
 have hy:=J2.ld.1 on
 obtain ⟨m,f,s,l⟩:=yc (IE (b:=cD x.1) (uN x.2)) (LG2 y)
 have hlen:(EN2 (some (x,y))).length=96:=(nI _ _).trans (by rw[List.length_append,aA,aA])
 obtain ⟨l0,l48⟩:=LO_2 (bs:=EN2 (some (x,y))) (aA x.2) (aA x.1) m
 have ex:X2 (EN2 (some (x,y)))=x:=by rw[X2,l0,l48,s9,s9]
 obtain ⟨r,hr,hs,e⟩:=VQ hy
 refine .inr ⟨hlen,.inr ⟨f,.inr ⟨s,.inr ⟨by rw[l0,l48];exact ⟨nT _,nT _⟩,.inr ⟨r, ?_⟩⟩⟩⟩⟩
 rw[ex,show LB (EN2 (some (x,y)))=LG2 y from l,e]
 exact ⟨hr,hs,h⟩
theorem G3:D1 (EN1 none) 0 none:=.inr ⟨dc,.inr ⟨dc,.inl ⟨dc,by decide+kernel,rfl⟩⟩⟩
theorem Jm:D2 (EN2 none) 0 none:=.inr ⟨dc,.inr ⟨dc,.inl ⟨dc,by decide+kernel,rfl⟩⟩⟩
theorem Lr{α:Type}{z:α}{inG:Option (α×α)→Prop}{l:Bool}{x y:α}(h: ¬(l=true∧y=z))(g:inG (some (x,y))):NY z inG l x y 0 (some (x,y)):=.inr ⟨h,.inr ⟨g,rfl,rfl⟩⟩
theorem M8{y:Zp}: ¬(LG2 (y,0)=true∧y=0):=fun ⟨h,e⟩=>by
 rw[e,show ((0,0):W2)=ze2 from rfl,sk]at h;cases h
theorem Nx{y:W2}: ¬(LG2 y=true∧y=ze2):=fun ⟨h,e⟩=>by
 rw[e,sk]at h;cases h
theorem qW{P:Pt Zp}(on:E1.onP P)(g:E1.times P ORD=none):D1 (EN1 P) 0 P:=by
 cases P with
 |none=>exact G3
 |some p=>exact MQ (x:=p.1) (y:=p.2) on (Lr M8 g)
theorem CJ{P:Pt W2}(on:E2w.onP P)(g:E2w.times P ORD=none):D2 (EN2 P) 0 P:=by
 cases P with
 |none=>exact Jm
 |some p=>exact O4 (x:=p.1) (y:=p.2) on (Lr Nx g)
end
section
open Go.RowKit
attribute [local simp] aT a9 aR aM aC bd aJ aI aA PLl cq cn N1l ck cp cm a5 bc aP aX a8 J1.bf J2.bf bI fx
end
section
open Go.RowKit
attribute [local simp] aT a9 aR aM aC bd aJ aI aA PLl cq cn N1l ck cp cm a5 bc aP aX a8 J1.bf J2.bf bI fx
theorem ent109:ai prog 109:=fun _ _=>kr
theorem ent170:ai prog 170:=fun _ _=>kr
theorem ent108:ai prog 108:=fun _ _=>kr
theorem ent55:ai prog 55:=fun _ _=>kr
theorem ent128:ai prog 128:=fun _ _=>kr
theorem Kj(h:Bool):PUR 88 [.bool false,.bool h] (U8 192#8):=by
 intro w hw
 refine Hf func88 rfl hw<|fun hGF=>Xp<|Asg rfl<|aa<|ah<|aj<|Xp<|Mv rfl<|aY rfl (fun _=>aK _) rfl rfl<|Asg rfl<|aa<|aU rfl<|Xp<|Asg rfl<|aa<|am<|Rr<|?_
 exact aH rfl rfl (fun w hw=>⟨rfl,ac hw⟩)
theorem Ka  :PUR 88 [.bool true,.bool true] (U8 160#8):=by
 intro w hw
 refine Hf func88 rfl hw<|fun hGF=>Xp<|Asg rfl<|aa<|ah<|aj<|Xp<|Mv rfl<|aY rfl (fun _=>aK _) rfl rfl<|Asg rfl<|aa<|av rfl<|Xp<|Mv rfl<|Asg rfl<|aa<|aU rfl<|Xp<|Asg rfl<|aa<|am<|Rr<|?_
 exact aH rfl rfl (fun w hw=>⟨rfl,ac hw⟩)
theorem J5  :PUR 88 [.bool true,.bool false] (U8 128#8):=by
 intro w hw
 refine Hf func88 rfl hw<|fun hGF=>Xp<|Asg rfl<|aa<|ah<|aj<|Xp<|Mv rfl<|aY rfl (fun _=>aK _) rfl rfl<|Asg rfl<|aa<|av rfl<|Xp<|Mv rfl<|Asg rfl<|aa<|av rfl<|ap<|Xp<|Asg rfl<|aa<|am<|Rr<|?_
 exact aH rfl rfl (fun w hw=>⟨rfl,ac hw⟩)
theorem Lf{bs:L8}(h:0<bs.length):[bs.getD 0 0 &&& 31#8]++bs.drop 1=MK bs:=by
 cases bs with
 |nil=>cases h
 |cons a r=>rfl
theorem BytesAt.cut3{w:World}{a:Option Addr}{rs:L8}(h:BytesAt w a rs)(l k m:Nat)(hm: ¬m=l):BytesAt w (if m=l then a else a.map (·.add (l*1))) ((rs.drop l).take k):=by
 have e:=h.cut (cap:=rs.length+l+1) l k om
 rw[if_neg om]at e
 rw[if_neg hm]
 exact e
theorem BytesAt.tail{w:World}{a:Option Addr}{rs:L8}(h:BytesAt w a rs):BytesAt w (if rs.length=1 then a else a.map (·.add (1*1))) (rs.drop 1):=by
 have e:=h.cut (cap:=rs.length) 1 rs.length (Nat.le_refl _)
 rw[List.take_of_length_le (by rw[List.length_drop];omega)]at e
 exact e
theorem jG(e:Option Addr)(cap:Nat)(bs:L8)(h0:0<bs.length)(hl:bs.length≤1000)(hcap:bs.length≤cap)(w:World)(hw:Gt w)(hby:BytesAt w e bs):CLS 109 [.slice e bs.length cap].toArray w (fun r w'=> ∃b7 c7 k7,r=.returned (.slice (spt b7) bs.length k7)∧Grow w w'∧w.heap.size≤b7∧OwnB w' b7 c7 5∧c7.take bs.length=(MK bs).map U8∧bs.length≤k7):=by
 refine Hf func109 rfl hw<|fun hGF=>Xp<|Asg rfl<|aa<|Fu (E:=EE []) [0,1,2,3,5,6,7,8,9,10,4,11,12] dR rfl kr kr kr<|Mv rfl<|?_
 obtain ⟨ad,rfl,_⟩:=hby 0 _ (gm U8 bs 0 0 om)
 refine fB 0 rfl rfl underlying22 sizeOf5 rfl om rfl rfl<|bt rfl isAgg5 (fun w' h=>by obtain ⟨ad',e,hc⟩:=(hby.grow (ac h)) 0 _ (gm U8 bs 0 0 om);cases e;exact hc) rfl rfl<|Bnr (v:=U8 (bs.getD 0 0 &&& 31#8)) rfl rfl (fun _=>qw _ _ 224#8)<|Mv rfl<|Mv rfl<|bv rfl (fun _=>aL underlying22 _ _ _ _) rfl rfl<|Mv rfl<|bv rfl (fun _=>aL underlying22 _ _ _ _) rfl rfl<|dH (l:=1) (h':=bs.length) (m:=bs.length) rfl underlying22 sizeOf5 rfl rfl rfl ⟨om,Nat.le_refl _,hcap⟩ rfl rfl<|ik 7 [bs.getD 0 0 &&& 31#8] hGF rfl rfl rfl dc dc underlying22 sizeOf5 zeroValue5 rfl rfl<|?_
 intro b7
 refine qH (xs:=[bs.getD 0 0 &&& 31#8]) (ys:=bs.drop 1) 7 hGF rfl (by rw[List.length_drop];rfl) underlying22 underlying22 ti5 (.inr ⟨b7,_,rfl,rfl,rfl,Nat.le_refl _,rfl⟩) (fun w' h=>(hby.grow (ac h)).tail) (by simp;omega) rfl rfl (fun h0=>absurd h0 (List.cons_ne_nil _ _)) (fun b8 c8 k8 q1 q2 q3=> ?_)
 rw[Lf h0]at q2 q3
 rw[bI]at q2 q3
 refine Asg rfl<|aa<|am<|Rr<|?_
 exact aH rfl rfl (fun w hw=>⟨b8,c8,k8,by rw[Lf h0,bI],ac hw,(hw.own 7 b8 _ _ rfl).2.elim id False.elim,(hw.own 7 b8 _ _ rfl).1,q3,q2⟩)
def NQ(bs:L8):Bool:=decide (∀j,j<bs.length→bs.getD j 0=0#8)
theorem T3{bs:L8}(h: ∀j,j<bs.length→bs.getD j 0=0#8):NQ bs=true:=decide_eq_true h
theorem NQ_f{bs:L8}{i:Nat}(hi:i<bs.length)(h: ¬bs.getD i 0=0#8):NQ bs=false:=decide_eq_false (fun k=>h (k i hi))
theorem ER(e:Option Addr)(cap:Nat)(bs:L8)(hL:bs.length≤1000)(w:World)(hw:Gt w)(hby:BytesAt w e bs):CLS 170 [.slice e bs.length cap].toArray w (fun r w'=>r=.returned (.bool (NQ bs))∧Grow w w'):=by
 refine Hf func170 rfl hw<|fun hGF=>Xp<|Asg rfl<|aa<|ah<|Xp<|Mv rfl<|bv rfl (fun _=>aL underlying22 _ _ _ _) rfl rfl<|Mv rfl<|aa<|aj<|cH (ι:={i:Nat // i≤bs.length∧∀j,j<i→bs.getD j 0=0#8}) (fun y=>[(5,.slice e bs.length cap),(6,I (bs.length:Int)),(7,I (y.1:Int))]) (fun y=>[]) (fun y=>bs.length-y.1) ⟨0,Nat.zero_le _,fun _ h=>absurd h (Nat.not_lt_zero _)⟩ hGF trv trivial<|?_
 rintro ⟨i,hi,hall⟩
 dsimp only
 by_cases hz:bs.getD i 0=0#8
 ·refine Xp<|Bnr rfl rfl (fun _=>aD _ _ _)<|aa<|ah<|?_
  refine bV rfl (fun hc=> ?_) (fun hc=> ?_)
  ·have hi2:i<bs.length:=by simp at hc;omega
   refine ap<|ah<|aj<|Xp<|?_
   obtain ⟨ad,rfl,_⟩:=hby i _ (gm U8 bs 0 i om)
   refine fB i rfl rfl underlying22 sizeOf5 rfl om rfl rfl<|bt (v:=U8 (bs.getD i 0)) rfl isAgg5 (fun w' h=>by obtain ⟨ad',e,hc⟩:=(hby.grow (ac h)) i _ (gm U8 bs 0 i om);cases e;exact hc) rfl rfl<|Asg rfl<|aa<|Xp<|Mv rfl<|Bnb false rfl rfl (fun _=>bB _ _ 0#8) (bne_eq_false_iff_eq.2 hz)<|aa<|av rfl<|ap<|Xq<|Bnr rfl rfl (fun _=>az _ _ _ oi)<|Mv rfl<|aa<|?_
   repeat (refine a7 ?_)
   refine aV ?_
   have hall': ∀j,j<i+1→bs.getD j 0=0#8:=fun j hj=>by
    rcases Nat.lt_or_ge j i with h|h
    ·exact hall j h
    ·obtain rfl:j=i:=om
     exact hz
   exact ⟨rfl,⟨i+1,om,hall'⟩,_,by show bs.length-(i+1)<bs.length-i;omega,rfl,trv,trivial⟩
  ·obtain rfl:i=bs.length:=by simp at hc;omega
   refine ba<|Xp<|Asg rfl<|aa<|am<|Rr<|?_
   exact aH rfl rfl (fun w hw=>⟨by rw[T3 hall];rfl,ac hw⟩)
 ·refine Xp<|Bnr rfl rfl (fun _=>aD _ _ _)<|aa<|ah<|?_
  refine bV rfl (fun hc=> ?_) (fun hc=> ?_)
  ·have hi2:i<bs.length:=by simp at hc;omega
   refine ap<|ah<|aj<|Xp<|?_
   obtain ⟨ad,rfl,_⟩:=hby i _ (gm U8 bs 0 i om)
   refine fB i rfl rfl underlying22 sizeOf5 rfl om rfl rfl<|bt (v:=U8 (bs.getD i 0)) rfl isAgg5 (fun w' h=>by obtain ⟨ad',e,hc⟩:=(hby.grow (ac h)) i _ (gm U8 bs 0 i om);cases e;exact hc) rfl rfl<|Asg rfl<|aa<|Xp<|Mv rfl<|Bnb true rfl rfl (fun _=>bB _ _ 0#8) (bne_iff_ne.2 hz)<|aa<|aU rfl<|Xp<|Asg rfl<|aa<|am<|Rr<|?_
   exact aH rfl rfl (fun w hw=>⟨by rw[NQ_f hi2 hz];rfl,ac hw⟩)
  ·obtain rfl:i=bs.length:=by simp at hc;omega
   refine ba<|Xp<|Asg rfl<|aa<|am<|Rr<|?_
   exact aH rfl rfl (fun w hw=>⟨by rw[T3 hall];rfl,ac hw⟩)
theorem tM(b k len:Nat)(c:List Value)(bs:L8)(hn:bs.length=len)(hL:len≤1000)(q:Bool)(hq:NQ bs=q)(w:World)(hw:Gt w)(h:w.rangeAt b 0 c)(ht:c.take bs.length=bs.map U8):CLS 170 [.slice (spt b) len k].toArray w (fun r w'=>r=.returned (.bool q)∧Grow w w'):=by
 subst hn;subst hq
 exact ER _ k bs hL w hw (cv h ht)
theorem tD(e:Option Addr)(cap N:Nat)(bs:L8)(hN: ¬bs.length=N)(w:World)(hw:Gt w):
 CLS 108 [.slice e bs.length cap,I (N:Int)].toArray w (fun r w'=>r=.returned (.tuple #[U8 0#8,I 100])∧Grow w w'):=by
 refine Hf func108 rfl hw<|fun hGF=>ae (E:=EE [109,2000109])<|Asg rfl<|Asg rfl<|aa<|ah<|ae (E:=EE [109,2000109])<|Mv rfl<|bv rfl (fun _=>aL underlying22 _ _ _ _) rfl rfl<|Mv rfl<|Bnb true rfl rfl (fun _=>aZ _ _ _) (bne_iff_ne.2 om)<|aa<|aU rfl<|ae (E:=EE [109,2000109])<|Asg rfl<|Asg rfl<|aa<|am<|Rr<|?_
 exact cP rfl rfl rfl (fun w hw=>⟨rfl,ac hw⟩)
theorem Ow(e:Option Addr)(cap N:Nat)(bs:L8)(hN:bs.length=N)(h0:0<N)(hL:N≤1000)(hf:FG bs=128#8)(w:World)(hw:Gt w)(hby:BytesAt w e bs):
 CLS 108 [.slice e bs.length cap,I (N:Int)].toArray w (fun r w'=>r=.returned (.tuple #[U8 (FG bs),I 0])∧Grow w w'):=by
 refine Hf func108 rfl hw<|fun hGF=>ae (E:=EE [109,2000109])<|Asg rfl<|Asg rfl<|aa<|ah<|ae (E:=EE [109,2000109])<|Mv rfl<|bv rfl (fun _=>aL underlying22 _ _ _ _) rfl rfl<|Mv rfl<|Bnb false rfl rfl (fun _=>aZ _ _ _) (bne_eq_false_iff_eq.2 om)<|aa<|av rfl<|ap<|ah<|ae (E:=EE [109,2000109])<|Mv rfl<|?_
 obtain ⟨ad,he,_⟩:=hby 0 _ (gm U8 bs 0 0 om)
 refine fB (ad:=ad) 0 (by rw[←he];rfl) rfl underlying22 sizeOf5 rfl om rfl rfl<|bt (v:=U8 (bs.getD 0 0)) rfl isAgg5 (fun w' h=>by obtain ⟨ad',e',hc⟩:=(hby.grow (ac h)) 0 _ (gm U8 bs 0 0 om);rw[he]at e';cases e';exact hc) rfl rfl<|Bnr (v:=U8 (FG bs)) rfl rfl (fun _=>be _ _ 224#8)<|Asg rfl<|aa<|ae (E:=EE [109,2000109])<|Mv rfl<|aa<|aj<|ah<|ae (E:=EE [109,2000109])<|Bnb true rfl rfl (fun _=>ce _ _ 128#8) (beq_iff_eq.2 hf)<|Asg rfl<|aa<|aU rfl<|ap<|aU rfl<|ae (E:=EE [109,2000109])<|Mv rfl<|Asg rfl<|Asg rfl<|aa<|am<|Rr<|?_
 exact cP rfl rfl rfl (fun w hw=>⟨rfl,ac hw⟩)
theorem LD(e:Option Addr)(cap N:Nat)(bs:L8)(hN:bs.length=N)(h0:0<N)(hL:N≤1000)(h128: ¬FG bs=128#8)(hf:FG bs=160#8)(w:World)(hw:Gt w)(hby:BytesAt w e bs):
 CLS 108 [.slice e bs.length cap,I (N:Int)].toArray w (fun r w'=>r=.returned (.tuple #[U8 (FG bs),I 0])∧Grow w w'):=by
 refine Hf func108 rfl hw<|fun hGF=>ae (E:=EE [109,2000109])<|Asg rfl<|Asg rfl<|aa<|ah<|ae (E:=EE [109,2000109])<|Mv rfl<|bv rfl (fun _=>aL underlying22 _ _ _ _) rfl rfl<|Mv rfl<|Bnb false rfl rfl (fun _=>aZ _ _ _) (bne_eq_false_iff_eq.2 om)<|aa<|av rfl<|ap<|ah<|ae (E:=EE [109,2000109])<|Mv rfl<|?_
 obtain ⟨ad,he,_⟩:=hby 0 _ (gm U8 bs 0 0 om)
 refine fB (ad:=ad) 0 (by rw[←he];rfl) rfl underlying22 sizeOf5 rfl om rfl rfl<|bt (v:=U8 (bs.getD 0 0)) rfl isAgg5 (fun w' h=>by obtain ⟨ad',e',hc⟩:=(hby.grow (ac h)) 0 _ (gm U8 bs 0 0 om);rw[he]at e';cases e';exact hc) rfl rfl<|Bnr (v:=U8 (FG bs)) rfl rfl (fun _=>be _ _ 224#8)<|Asg rfl<|aa<|ae (E:=EE [109,2000109])<|Mv rfl<|aa<|aj<|ah<|ae (E:=EE [109,2000109])<|Bnb false rfl rfl (fun _=>ce _ _ 128#8) (beq_eq_false_iff_ne.2 h128)<|Asg rfl<|aa<|av rfl<|bz (E:=EE [109,2000109])<|Bnb true rfl rfl (fun _=>ce _ _ 160#8) (beq_iff_eq.2 hf)<|Asg rfl<|aa<|aU rfl<|ae (E:=EE [109,2000109])<|Mv rfl<|Asg rfl<|Asg rfl<|aa<|am<|Rr<|?_
 exact cP rfl rfl rfl (fun w hw=>⟨rfl,ac hw⟩)
theorem Cy(e:Option Addr)(cap N:Nat)(bs:L8)(hN:bs.length=N)(h0:0<N)(hL:N≤1000)(hcap:bs.length≤cap)(h128: ¬FG bs=128#8)(h160: ¬FG bs=160#8)(hf:FG bs=192#8)(hq:NQ (MK bs)=true)(w:World)(hw:Gt w)(hby:BytesAt w e bs):
 CLS 108 [.slice e bs.length cap,I (N:Int)].toArray w (fun r w'=>r=.returned (.tuple #[U8 (FG bs),I 0])∧Grow w w'):=by
 refine Hf func108 rfl hw<|fun hGF=>ae (E:=EE [109,2000109])<|Asg rfl<|Asg rfl<|aa<|ah<|ae (E:=EE [109,2000109])<|Mv rfl<|bv rfl (fun _=>aL underlying22 _ _ _ _) rfl rfl<|Mv rfl<|Bnb false rfl rfl (fun _=>aZ _ _ _) (bne_eq_false_iff_eq.2 om)<|aa<|av rfl<|ap<|ah<|ae (E:=EE [109,2000109])<|Mv rfl<|?_
 obtain ⟨ad,he,_⟩:=hby 0 _ (gm U8 bs 0 0 om)
 refine fB (ad:=ad) 0 (by rw[←he];rfl) rfl underlying22 sizeOf5 rfl om rfl rfl<|bt (v:=U8 (bs.getD 0 0)) rfl isAgg5 (fun w' h=>by obtain ⟨ad',e',hc⟩:=(hby.grow (ac h)) 0 _ (gm U8 bs 0 0 om);rw[he]at e';cases e';exact hc) rfl rfl<|Bnr (v:=U8 (FG bs)) rfl rfl (fun _=>be _ _ 224#8)<|Asg rfl<|aa<|ae (E:=EE [109,2000109])<|Mv rfl<|aa<|aj<|ah<|ae (E:=EE [109,2000109])<|Bnb false rfl rfl (fun _=>ce _ _ 128#8) (beq_eq_false_iff_ne.2 h128)<|Asg rfl<|aa<|av rfl<|bz (E:=EE [109,2000109])<|Bnb false rfl rfl (fun _=>ce _ _ 160#8) (beq_eq_false_iff_ne.2 h160)<|Asg rfl<|aa<|av rfl<|ae (E:=EE [109,2000109])<|Bnb true rfl rfl (fun _=>ce _ _ 192#8) (beq_iff_eq.2 hf)<|Asg rfl<|aa<|aU rfl<|ae (E:=EE [109,2000109])<|Mv rfl<|?_
 refine bE rfl rfl ent109 rfl rfl (fun w' hw'=>(jG e cap bs om om hcap w' (hGF.g _ _ _ hw') (hby.grow (ac hw'))).mono fun e' w'' h=> ?_)
 obtain ⟨b7,c7,k7,rfl,hg,hb7,hob,q3,q2⟩:=h
 refine ⟨_,_,rfl,aq hGF,hw'.news ak hg [(33,b7,c7,5)] ?_ bG,bD ak rfl, ?_⟩
 ·intro n' b' c' t' hl
  rcases aB hl with ⟨_,e⟩|⟨_,hl⟩
  ·cases e;exact ⟨hb7,hob⟩
  ·cases hl
 clear hw' hg hb7 hob
 refine Cc rfl ent170 (fun w' hC hG=>tM b7 k7 bs.length c7 (MK bs) (bI bs) om true hq w' hG (aO (n:=33) rfl w' hC) (by rw[bI];exact q3))<|aa<|aU rfl<|ae (E:=EE [109,2000109])<|Mv rfl<|Asg rfl<|Asg rfl<|aa<|am<|Rr<|?_
 exact cP rfl rfl rfl (fun w hw=>⟨rfl,ac hw⟩)
theorem AK(e:Option Addr)(cap N:Nat)(bs:L8)(hN:bs.length=N)(h0:0<N)(hL:N≤1000)(hcap:bs.length≤cap)(h128: ¬FG bs=128#8)(h160: ¬FG bs=160#8)(hf:FG bs=192#8)(hq:NQ (MK bs)=false)(w:World)(hw:Gt w)(hby:BytesAt w e bs):
 CLS 108 [.slice e bs.length cap,I (N:Int)].toArray w (fun r w'=>r=.returned (.tuple #[U8 0#8,I 101])∧Grow w w'):=by
 refine Hf func108 rfl hw<|fun hGF=>ae (E:=EE [109,2000109])<|Asg rfl<|Asg rfl<|aa<|ah<|ae (E:=EE [109,2000109])<|Mv rfl<|bv rfl (fun _=>aL underlying22 _ _ _ _) rfl rfl<|Mv rfl<|Bnb false rfl rfl (fun _=>aZ _ _ _) (bne_eq_false_iff_eq.2 om)<|aa<|av rfl<|ap<|ah<|ae (E:=EE [109,2000109])<|Mv rfl<|?_
 obtain ⟨ad,he,_⟩:=hby 0 _ (gm U8 bs 0 0 om)
 refine fB (ad:=ad) 0 (by rw[←he];rfl) rfl underlying22 sizeOf5 rfl om rfl rfl<|bt (v:=U8 (bs.getD 0 0)) rfl isAgg5 (fun w' h=>by obtain ⟨ad',e',hc⟩:=(hby.grow (ac h)) 0 _ (gm U8 bs 0 0 om);rw[he]at e';cases e';exact hc) rfl rfl<|Bnr (v:=U8 (FG bs)) rfl rfl (fun _=>be _ _ 224#8)<|Asg rfl<|aa<|ae (E:=EE [109,2000109])<|Mv rfl<|aa<|aj<|ah<|ae (E:=EE [109,2000109])<|Bnb false rfl rfl (fun _=>ce _ _ 128#8) (beq_eq_false_iff_ne.2 h128)<|Asg rfl<|aa<|av rfl<|bz (E:=EE [109,2000109])<|Bnb false rfl rfl (fun _=>ce _ _ 160#8) (beq_eq_false_iff_ne.2 h160)<|Asg rfl<|aa<|av rfl<|ae (E:=EE [109,2000109])<|Bnb true rfl rfl (fun _=>ce _ _ 192#8) (beq_iff_eq.2 hf)<|Asg rfl<|aa<|aU rfl<|ae (E:=EE [109,2000109])<|Mv rfl<|?_
 refine bE rfl rfl ent109 rfl rfl (fun w' hw'=>(jG e cap bs om om hcap w' (hGF.g _ _ _ hw') (hby.grow (ac hw'))).mono fun e' w'' h=> ?_)
 obtain ⟨b7,c7,k7,rfl,hg,hb7,hob,q3,q2⟩:=h
 refine ⟨_,_,rfl,aq hGF,hw'.news ak hg [(33,b7,c7,5)] ?_ bG,bD ak rfl, ?_⟩
 ·intro n' b' c' t' hl
  rcases aB hl with ⟨_,e⟩|⟨_,hl⟩
  ·cases e;exact ⟨hb7,hob⟩
  ·cases hl
 clear hw' hg hb7 hob
 refine Cc rfl ent170 (fun w' hC hG=>tM b7 k7 bs.length c7 (MK bs) (bI bs) om false hq w' hG (aO (n:=33) rfl w' hC) (by rw[bI];exact q3))<|aa<|av rfl<|ap<|ae (E:=EE [109,2000109])<|Asg rfl<|Asg rfl<|aa<|am<|Rr<|?_
 exact cP rfl rfl rfl (fun w hw=>⟨rfl,ac hw⟩)
theorem ud(e:Option Addr)(cap N:Nat)(bs:L8)(hN:bs.length=N)(h0:0<N)(hL:N≤1000)(h128: ¬FG bs=128#8)(h160: ¬FG bs=160#8)(h192: ¬FG bs=192#8)(w:World)(hw:Gt w)(hby:BytesAt w e bs):
 CLS 108 [.slice e bs.length cap,I (N:Int)].toArray w (fun r w'=>r=.returned (.tuple #[U8 0#8,I 101])∧Grow w w'):=by
 refine Hf func108 rfl hw<|fun hGF=>ae (E:=EE [109,2000109])<|Asg rfl<|Asg rfl<|aa<|ah<|ae (E:=EE [109,2000109])<|Mv rfl<|bv rfl (fun _=>aL underlying22 _ _ _ _) rfl rfl<|Mv rfl<|Bnb false rfl rfl (fun _=>aZ _ _ _) (bne_eq_false_iff_eq.2 om)<|aa<|av rfl<|ap<|ah<|ae (E:=EE [109,2000109])<|Mv rfl<|?_
 obtain ⟨ad,he,_⟩:=hby 0 _ (gm U8 bs 0 0 om)
 refine fB (ad:=ad) 0 (by rw[←he];rfl) rfl underlying22 sizeOf5 rfl om rfl rfl<|bt (v:=U8 (bs.getD 0 0)) rfl isAgg5 (fun w' h=>by obtain ⟨ad',e',hc⟩:=(hby.grow (ac h)) 0 _ (gm U8 bs 0 0 om);rw[he]at e';cases e';exact hc) rfl rfl<|Bnr (v:=U8 (FG bs)) rfl rfl (fun _=>be _ _ 224#8)<|Asg rfl<|aa<|ae (E:=EE [109,2000109])<|Mv rfl<|aa<|aj<|ah<|ae (E:=EE [109,2000109])<|Bnb false rfl rfl (fun _=>ce _ _ 128#8) (beq_eq_false_iff_ne.2 h128)<|Asg rfl<|aa<|av rfl<|bz (E:=EE [109,2000109])<|Bnb false rfl rfl (fun _=>ce _ _ 160#8) (beq_eq_false_iff_ne.2 h160)<|Asg rfl<|aa<|av rfl<|ae (E:=EE [109,2000109])<|Bnb false rfl rfl (fun _=>ce _ _ 192#8) (beq_eq_false_iff_ne.2 h192)<|Asg rfl<|aa<|av rfl<|ap<|ae (E:=EE [109,2000109])<|Asg rfl<|Asg rfl<|aa<|am<|Rr<|?_
 exact cP rfl rfl rfl (fun w hw=>⟨rfl,ac hw⟩)
theorem kV:kJ prog 54 "Neg" 119:=fun _ _=>kr
theorem jb:kJ prog 54 "Equal" 326:=fun _ _=>kr
theorem fh:kJ prog 54 "InGroup" 327:=fun _ _=>kr
theorem Pu(p:J1.GP)(f:BitVec 8)  :PUR 111 [J1.PtV p,.bool false,U8 f] (.tuple #[J1.PtV J1.cV,I 103]):=by
 intro w hw
 refine Hf func111 rfl hw<|fun hGF=>Xp<|Bx 3 hGF rfl<|fun b3=>Al 6 hGF J1.zv54<|fun b6=>Asg rfl<|aa<|Xp<|Al 8 hGF J1.zv54<|fun b8=>aa<|ah<|aj<|Xp<|Mv rfl<|aY rfl (fun _=>aK _) rfl rfl<|Asg rfl<|aa<|aU rfl<|Xp<|La 8 rfl rfl bS<|Sa 6 hGF rfl rfl rfl bS<|Asg rfl<|aa<|am<|Rr<|?_
 exact a6 6 rfl rfl rfl rfl isAgg54 sizeOf54 sm (fun w hw=>⟨rfl,ac hw⟩)
theorem P4(p:J1.GP)(f:BitVec 8)(hf: ¬f &&& 32#8=0#8)(he:p.P=(J1.ga p).P):PUR 111 [J1.PtV p,.bool true,U8 f] (.tuple #[J1.PtV J1.cV,I 103]):=by
 intro w hw
 refine Hf func111 rfl hw<|fun hGF=>Xp<|Bx 3 hGF rfl<|fun b3=>Al 6 hGF J1.zv54<|fun b6=>Asg rfl<|aa<|Xp<|Al 8 hGF J1.zv54<|fun b8=>aa<|ah<|aj<|Xp<|Mv rfl<|aY rfl (fun _=>aK _) rfl rfl<|Asg rfl<|aa<|av rfl<|Xd []<|Mv rfl<|Bnr (v:=U8 (f &&& 32#8)) rfl rfl (fun _=>be _ _ 32#8)<|Bnb true rfl rfl (fun _=>bB _ _ 0#8) (bne_iff_ne.2 hf)<|Mv rfl<|La 3 rfl rfl bS<|cF rfl underlying54 rfl rfl<|La 3 rfl rfl bS<|cF rfl underlying54 rfl rfl<|jL rfl rfl kV rfl ent119 (J1.lI p) rfl rfl<|dU true rfl rfl jb rfl ent326 (J1.jc p (J1.ga p)) (decide_eq_true he) rfl rfl<|Pk rfl rfl rfl<|Asg rfl<|aa<|aU rfl<|Xp<|La 8 rfl rfl bS<|Sa 6 hGF rfl rfl rfl bS<|Asg rfl<|aa<|am<|Rr<|?_
 exact a6 6 rfl rfl rfl rfl isAgg54 sizeOf54 sm (fun w hw=>⟨rfl,ac hw⟩)
theorem Hx(p:J1.GP)(f:BitVec 8)(hf: ¬f &&& 32#8=0#8)(he: ¬p.P=(J1.ga p).P)(hg: ¬E1.times p.P ORD=none):PUR 111 [J1.PtV p,.bool true,U8 f] (.tuple #[J1.PtV J1.cV,I 104]):=by
 intro w hw
 refine Hf func111 rfl hw<|fun hGF=>Xp<|Bx 3 hGF rfl<|fun b3=>Al 6 hGF J1.zv54<|fun b6=>Asg rfl<|aa<|Xp<|Al 8 hGF J1.zv54<|fun b8=>aa<|ah<|aj<|Xp<|Mv rfl<|aY rfl (fun _=>aK _) rfl rfl<|Asg rfl<|aa<|av rfl<|Xd []<|Mv rfl<|Bnr (v:=U8 (f &&& 32#8)) rfl rfl (fun _=>be _ _ 32#8)<|Bnb true rfl rfl (fun _=>bB _ _ 0#8) (bne_iff_ne.2 hf)<|Mv rfl<|La 3 rfl rfl bS<|cF rfl underlying54 rfl rfl<|La 3 rfl rfl bS<|cF rfl underlying54 rfl rfl<|jL rfl rfl kV rfl ent119 (J1.lI p) rfl rfl<|dU false rfl rfl jb rfl ent326 (J1.jc p (J1.ga p)) (decide_eq_false he) rfl rfl<|Pk rfl rfl rfl<|Asg rfl<|aa<|av rfl<|Xp<|La 3 rfl rfl bS<|cF rfl underlying54 rfl rfl<|dU false rfl rfl fh rfl ent327 (J1.d9 p) (decide_eq_false hg) rfl rfl<|aY rfl (fun _=>aK _) rfl rfl<|Asg rfl<|aa<|aU rfl<|?_
 refine Xp<|La 8 rfl rfl bS<|Sa 6 hGF rfl rfl rfl bS<|Asg rfl<|aa<|am<|Rr<|?_
 exact a6 6 rfl rfl rfl rfl isAgg54 sizeOf54 sm (fun w hw=>⟨rfl,ac hw⟩)
theorem HN(p:J1.GP)(f:BitVec 8)(hf: ¬f &&& 32#8=0#8)(he: ¬p.P=(J1.ga p).P)(hg:E1.times p.P ORD=none):PUR 111 [J1.PtV p,.bool true,U8 f] (.tuple #[J1.PtV p,I 0]):=by
 intro w hw
 refine Hf func111 rfl hw<|fun hGF=>Xp<|Bx 3 hGF rfl<|fun b3=>Al 6 hGF J1.zv54<|fun b6=>Asg rfl<|aa<|Xp<|Al 8 hGF J1.zv54<|fun b8=>aa<|ah<|aj<|Xp<|Mv rfl<|aY rfl (fun _=>aK _) rfl rfl<|Asg rfl<|aa<|av rfl<|Xd []<|Mv rfl<|Bnr (v:=U8 (f &&& 32#8)) rfl rfl (fun _=>be _ _ 32#8)<|Bnb true rfl rfl (fun _=>bB _ _ 0#8) (bne_iff_ne.2 hf)<|Mv rfl<|La 3 rfl rfl bS<|cF rfl underlying54 rfl rfl<|La 3 rfl rfl bS<|cF rfl underlying54 rfl rfl<|jL rfl rfl kV rfl ent119 (J1.lI p) rfl rfl<|dU false rfl rfl jb rfl ent326 (J1.jc p (J1.ga p)) (decide_eq_false he) rfl rfl<|Pk rfl rfl rfl<|Asg rfl<|aa<|av rfl<|Xp<|La 3 rfl rfl bS<|cF rfl underlying54 rfl rfl<|dU true rfl rfl fh rfl ent327 (J1.d9 p) (decide_eq_true hg) rfl rfl<|aY rfl (fun _=>aK _) rfl rfl<|Asg rfl<|aa<|av rfl<|?_
 refine ap<|Xp<|La 3 rfl rfl bS<|Sa 6 hGF rfl rfl rfl bS<|Asg rfl<|aa<|am<|Rr<|?_
 exact a6 6 rfl rfl rfl rfl isAgg54 sizeOf54 sm (fun w hw=>⟨rfl,ac hw⟩)
theorem Hv(p:J1.GP)(f:BitVec 8)(hf:f &&& 32#8=0#8)(hg: ¬E1.times p.P ORD=none):PUR 111 [J1.PtV p,.bool true,U8 f] (.tuple #[J1.PtV J1.cV,I 104]):=by
 intro w hw
 refine Hf func111 rfl hw<|fun hGF=>Xp<|Bx 3 hGF rfl<|fun b3=>Al 6 hGF J1.zv54<|fun b6=>Asg rfl<|aa<|Xp<|Al 8 hGF J1.zv54<|fun b8=>aa<|ah<|aj<|Xp<|Mv rfl<|aY rfl (fun _=>aK _) rfl rfl<|Asg rfl<|aa<|av rfl<|Xd []<|Mv rfl<|Bnr (v:=U8 (f &&& 32#8)) rfl rfl (fun _=>be _ _ 32#8)<|Bnb false rfl rfl (fun _=>bB _ _ 0#8) (bne_eq_false_iff_eq.2 hf)<|Mv rfl<|Sk<|Sk<|Sk<|Sk<|Sk<|Sk<|Pk rfl rfl rfl<|Asg rfl<|aa<|av rfl<|Xp<|La 3 rfl rfl bS<|cF rfl underlying54 rfl rfl<|dU false rfl rfl fh rfl ent327 (J1.d9 p) (decide_eq_false hg) rfl rfl<|aY rfl (fun _=>aK _) rfl rfl<|Asg rfl<|aa<|aU rfl<|?_
 refine Xp<|La 8 rfl rfl bS<|Sa 6 hGF rfl rfl rfl bS<|Asg rfl<|aa<|am<|Rr<|?_
 exact a6 6 rfl rfl rfl rfl isAgg54 sizeOf54 sm (fun w hw=>⟨rfl,ac hw⟩)
theorem In(p:J1.GP)(f:BitVec 8)(hf:f &&& 32#8=0#8)(hg:E1.times p.P ORD=none):PUR 111 [J1.PtV p,.bool true,U8 f] (.tuple #[J1.PtV p,I 0]):=by
 intro w hw
 refine Hf func111 rfl hw<|fun hGF=>Xp<|Bx 3 hGF rfl<|fun b3=>Al 6 hGF J1.zv54<|fun b6=>Asg rfl<|aa<|Xp<|Al 8 hGF J1.zv54<|fun b8=>aa<|ah<|aj<|Xp<|Mv rfl<|aY rfl (fun _=>aK _) rfl rfl<|Asg rfl<|aa<|av rfl<|Xd []<|Mv rfl<|Bnr (v:=U8 (f &&& 32#8)) rfl rfl (fun _=>be _ _ 32#8)<|Bnb false rfl rfl (fun _=>bB _ _ 0#8) (bne_eq_false_iff_eq.2 hf)<|Mv rfl<|Sk<|Sk<|Sk<|Sk<|Sk<|Sk<|Pk rfl rfl rfl<|Asg rfl<|aa<|av rfl<|Xp<|La 3 rfl rfl bS<|cF rfl underlying54 rfl rfl<|dU true rfl rfl fh rfl ent327 (J1.d9 p) (decide_eq_true hg) rfl rfl<|aY rfl (fun _=>aK _) rfl rfl<|Asg rfl<|aa<|av rfl<|?_
 refine ap<|Xp<|La 3 rfl rfl bS<|Sa 6 hGF rfl rfl rfl bS<|Asg rfl<|aa<|am<|Rr<|?_
 exact a6 6 rfl rfl rfl rfl isAgg54 sizeOf54 sm (fun w hw=>⟨rfl,ac hw⟩)
theorem kQ:kJ prog 94 "Neg" 334:=fun _ _=>kr
theorem i3:kJ prog 94 "Equal" 332:=fun _ _=>kr
theorem fo:kJ prog 94 "InGroup" 333:=fun _ _=>kr
theorem Pp(p:J2.GP)(f:BitVec 8)  :PUR 187 [J2.PtV p,.bool false,U8 f] (.tuple #[J2.PtV J2.cV,I 103]):=by
 intro w hw
 refine Hf func187 rfl hw<|fun hGF=>Xp<|Bx 3 hGF rfl<|fun b3=>Al 6 hGF J2.zv94<|fun b6=>Asg rfl<|aa<|Xp<|Al 8 hGF J2.zv94<|fun b8=>aa<|ah<|aj<|Xp<|Mv rfl<|aY rfl (fun _=>aK _) rfl rfl<|Asg rfl<|aa<|aU rfl<|Xp<|La 8 rfl rfl bO<|Sa 6 hGF rfl rfl rfl bO<|Asg rfl<|aa<|am<|Rr<|?_
 exact a6 6 rfl rfl rfl rfl isAgg94 sizeOf94 sm (fun w hw=>⟨rfl,ac hw⟩)
theorem Pz(p:J2.GP)(f:BitVec 8)(hf: ¬f &&& 32#8=0#8)(he:p.P=(J2.ga p).P):PUR 187 [J2.PtV p,.bool true,U8 f] (.tuple #[J2.PtV J2.cV,I 103]):=by
 intro w hw
 refine Hf func187 rfl hw<|fun hGF=>Xp<|Bx 3 hGF rfl<|fun b3=>Al 6 hGF J2.zv94<|fun b6=>Asg rfl<|aa<|Xp<|Al 8 hGF J2.zv94<|fun b8=>aa<|ah<|aj<|Xp<|Mv rfl<|aY rfl (fun _=>aK _) rfl rfl<|Asg rfl<|aa<|av rfl<|Xd []<|Mv rfl<|Bnr (v:=U8 (f &&& 32#8)) rfl rfl (fun _=>be _ _ 32#8)<|Bnb true rfl rfl (fun _=>bB _ _ 0#8) (bne_iff_ne.2 hf)<|Mv rfl<|La 3 rfl rfl bO<|cF rfl underlying94 rfl rfl<|La 3 rfl rfl bO<|cF rfl underlying94 rfl rfl<|jL rfl rfl kQ rfl ent334 (J2.lI p) rfl rfl<|dU true rfl rfl i3 rfl ent332 (J2.jc p (J2.ga p)) (decide_eq_true he) rfl rfl<|Pk rfl rfl rfl<|Asg rfl<|aa<|aU rfl<|Xp<|La 8 rfl rfl bO<|Sa 6 hGF rfl rfl rfl bO<|Asg rfl<|aa<|am<|Rr<|?_
 exact a6 6 rfl rfl rfl rfl isAgg94 sizeOf94 sm (fun w hw=>⟨rfl,ac hw⟩)
theorem Ha(p:J2.GP)(f:BitVec 8)(hf: ¬f &&& 32#8=0#8)(he: ¬p.P=(J2.ga p).P)(hg: ¬E2w.times p.P ORD=none):PUR 187 [J2.PtV p,.bool true,U8 f] (.tuple #[J2.PtV J2.cV,I 104]):=by
 intro w hw
 refine Hf func187 rfl hw<|fun hGF=>Xp<|Bx 3 hGF rfl<|fun b3=>Al 6 hGF J2.zv94<|fun b6=>Asg rfl<|aa<|Xp<|Al 8 hGF J2.zv94<|fun b8=>aa<|ah<|aj<|Xp<|Mv rfl<|aY rfl (fun _=>aK _) rfl rfl<|Asg rfl<|aa<|av rfl<|Xd []<|Mv rfl<|Bnr (v:=U8 (f &&& 32#8)) rfl rfl (fun _=>be _ _ 32#8)<|Bnb true rfl rfl (fun _=>bB _ _ 0#8) (bne_iff_ne.2 hf)<|Mv rfl<|La 3 rfl rfl bO<|cF rfl underlying94 rfl rfl<|La 3 rfl rfl bO<|cF rfl underlying94 rfl rfl<|jL rfl rfl kQ rfl ent334 (J2.lI p) rfl rfl<|dU false rfl rfl i3 rfl ent332 (J2.jc p (J2.ga p)) (decide_eq_false he) rfl rfl<|Pk rfl rfl rfl<|Asg rfl<|aa<|av rfl<|Xp<|La 3 rfl rfl bO<|cF rfl underlying94 rfl rfl<|dU false rfl rfl fo rfl ent333 (J2.d9 p) (decide_eq_false hg) rfl rfl<|aY rfl (fun _=>aK _) rfl rfl<|Asg rfl<|aa<|aU rfl<|?_
 refine Xp<|La 8 rfl rfl bO<|Sa 6 hGF rfl rfl rfl bO<|Asg rfl<|aa<|am<|Rr<|?_
 exact a6 6 rfl rfl rfl rfl isAgg94 sizeOf94 sm (fun w hw=>⟨rfl,ac hw⟩)
theorem Iq(p:J2.GP)(f:BitVec 8)(hf: ¬f &&& 32#8=0#8)(he: ¬p.P=(J2.ga p).P)(hg:E2w.times p.P ORD=none):PUR 187 [J2.PtV p,.bool true,U8 f] (.tuple #[J2.PtV p,I 0]):=by
 intro w hw
 refine Hf func187 rfl hw<|fun hGF=>Xp<|Bx 3 hGF rfl<|fun b3=>Al 6 hGF J2.zv94<|fun b6=>Asg rfl<|aa<|Xp<|Al 8 hGF J2.zv94<|fun b8=>aa<|ah<|aj<|Xp<|Mv rfl<|aY rfl (fun _=>aK _) rfl rfl<|Asg rfl<|aa<|av rfl<|Xd []<|Mv rfl<|Bnr (v:=U8 (f &&& 32#8)) rfl rfl (fun _=>be _ _ 32#8)<|Bnb true rfl rfl (fun _=>bB _ _ 0#8) (bne_iff_ne.2 hf)<|Mv rfl<|La 3 rfl rfl bO<|cF rfl underlying94 rfl rfl<|La 3 rfl rfl bO<|cF rfl underlying94 rfl rfl<|jL rfl rfl kQ rfl ent334 (J2.lI p) rfl rfl<|dU false rfl rfl i3 rfl ent332 (J2.jc p (J2.ga p)) (decide_eq_false he) rfl rfl<|Pk rfl rfl rfl<|Asg rfl<|aa<|av rfl<|Xp<|La 3 rfl rfl bO<|cF rfl underlying94 rfl rfl<|dU true rfl rfl fo rfl ent333 (J2.d9 p) (decide_eq_true hg) rfl rfl<|aY rfl (fun _=>aK _) rfl rfl<|Asg rfl<|aa<|av rfl<|?_
 refine ap<|Xp<|La 3 rfl rfl bO<|Sa 6 hGF rfl rfl rfl bO<|Asg rfl<|aa<|am<|Rr<|?_
 exact a6 6 rfl rfl rfl rfl isAgg94 sizeOf94 sm (fun w hw=>⟨rfl,ac hw⟩)
theorem Hz(p:J2.GP)(f:BitVec 8)(hf:f &&& 32#8=0#8)(hg: ¬E2w.times p.P ORD=none):PUR 187 [J2.PtV p,.bool true,U8 f] (.tuple #[J2.PtV J2.cV,I 104]):=by
 intro w hw
 refine Hf func187 rfl hw<|fun hGF=>Xp<|Bx 3 hGF rfl<|fun b3=>Al 6 hGF J2.zv94<|fun b6=>Asg rfl<|aa<|Xp<|Al 8 hGF J2.zv94<|fun b8=>aa<|ah<|aj<|Xp<|Mv rfl<|aY rfl (fun _=>aK _) rfl rfl<|Asg rfl<|aa<|av rfl<|Xd []<|Mv rfl<|Bnr (v:=U8 (f &&& 32#8)) rfl rfl (fun _=>be _ _ 32#8)<|Bnb false rfl rfl (fun _=>bB _ _ 0#8) (bne_eq_false_iff_eq.2 hf)<|Mv rfl<|Sk<|Sk<|Sk<|Sk<|Sk<|Sk<|Pk rfl rfl rfl<|Asg rfl<|aa<|av rfl<|Xp<|La 3 rfl rfl bO<|cF rfl underlying94 rfl rfl<|dU false rfl rfl fo rfl ent333 (J2.d9 p) (decide_eq_false hg) rfl rfl<|aY rfl (fun _=>aK _) rfl rfl<|Asg rfl<|aa<|aU rfl<|?_
 refine Xp<|La 8 rfl rfl bO<|Sa 6 hGF rfl rfl rfl bO<|Asg rfl<|aa<|am<|Rr<|?_
 exact a6 6 rfl rfl rfl rfl isAgg94 sizeOf94 sm (fun w hw=>⟨rfl,ac hw⟩)
theorem Iw(p:J2.GP)(f:BitVec 8)(hf:f &&& 32#8=0#8)(hg:E2w.times p.P ORD=none):PUR 187 [J2.PtV p,.bool true,U8 f] (.tuple #[J2.PtV p,I 0]):=by
 intro w hw
 refine Hf func187 rfl hw<|fun hGF=>Xp<|Bx 3 hGF rfl<|fun b3=>Al 6 hGF J2.zv94<|fun b6=>Asg rfl<|aa<|Xp<|Al 8 hGF J2.zv94<|fun b8=>aa<|ah<|aj<|Xp<|Mv rfl<|aY rfl (fun _=>aK _) rfl rfl<|Asg rfl<|aa<|av rfl<|Xd []<|Mv rfl<|Bnr (v:=U8 (f &&& 32#8)) rfl rfl (fun _=>be _ _ 32#8)<|Bnb false rfl rfl (fun _=>bB _ _ 0#8) (bne_eq_false_iff_eq.2 hf)<|Mv rfl<|Sk<|Sk<|Sk<|Sk<|Sk<|Sk<|Pk rfl rfl rfl<|Asg rfl<|aa<|av rfl<|Xp<|La 3 rfl rfl bO<|cF rfl underlying94 rfl rfl<|dU true rfl rfl fo rfl ent333 (J2.d9 p) (decide_eq_true hg) rfl rfl<|aY rfl (fun _=>aK _) rfl rfl<|Asg rfl<|aa<|av rfl<|?_
 refine ap<|Xp<|La 3 rfl rfl bO<|Sa 6 hGF rfl rfl rfl bO<|Asg rfl<|aa<|am<|Rr<|?_
 exact a6 6 rfl rfl rfl rfl isAgg94 sizeOf94 sm (fun w hw=>⟨rfl,ac hw⟩)
theorem Fh:cD 0=List.replicate 48 0#8:=by decide+kernel
theorem yC(bs:L8):OR0 bs 160#8=OR0 (OR0 bs 128#8) 32#8:=by
 cases bs with
 |nil=>rfl
 |cons a r=>show (a|||160#8)::r=((a|||128#8)|||32#8)::r;rw[BitVec.or_assoc];rfl
theorem zv32(w:World):(zeroValue 32).run prog w=.ok (.agg ((List.replicate 96 (0#8)).map U8).toArray) w:=(zeroValue32 w).trans rr
theorem Pn(p:J1.GP)(h:p.P=none):PUR 41 [J1.PtV p] (.agg ((OR0 (cD 0) 192#8).map U8).toArray):=by
 intro w hw
 refine Hf func41 rfl hw<|fun hGF=>Xp<|Bx 1 hGF rfl<|fun b1=>Al 2 hGF zv29<|fun b2=>aa<|Xp<|La 1 rfl rfl bS<|Ca rfl (J1.FR p h)<|Mv rfl<|Ext rfl rfl<|Ext rfl rfl<|Ext rfl rfl<|Al 3 hGF zv52<|fun b3=>Al 4 hGF zv52<|fun b4=>Sa 3 hGF rfl rfl rfl bg<|Sa 4 hGF rfl rfl rfl bg<|Asg rfl<|aa<|Xp<|La 3 rfl rfl bg<|Ca rfl (dh _)<|Al 6 hGF zv29<|fun b6=>aw 6 hGF rfl rfl rfl sizeOf29 sm sm (bH _) rfl<|aa<|Xd []<|fE 0 rfl rfl underlying29 sizeOf5 dc dc rfl rfl<|Lm 6 U8 0 rfl rfl isAgg5 sm<|Mv rfl<|La 4 rfl rfl bg<|Ca rfl (fR _)<|Ca rfl (Kj _)<|Bnr (v:=U8 ((cD 0).getD 0 0|||192#8)) rfl rfl (fun _=>gv _ _ 192#8)<|fE 0 rfl rfl underlying29 sizeOf5 dc dc rfl rfl<|bu 6 U8 hGF rfl rfl rfl sizeOf5 rfl sm rfl<|aa<|Xp<|La 6 rfl rfl Ff<|aw 2 hGF rfl rfl rfl sizeOf29 sm sm (bH _) rfl<|aa<|am<|?_
 refine Rr ?_
 exact ay 2 rfl rfl rfl isAgg29 sizeOf29 sm (fun w hw=>⟨rfl,ac hw⟩)
theorem MT(p:J1.GP)(h: ¬p.P=none)(hl:decide (hf<(J1.PY p.P).val)=true):PUR 41 [J1.PtV p] (.agg ((OR0 (cD (J1.PX p.P)) 160#8).map U8).toArray):=by
 intro w hw
 refine Hf func41 rfl hw<|fun hGF=>Xp<|Bx 1 hGF rfl<|fun b1=>Al 2 hGF zv29<|fun b2=>aa<|Xp<|La 1 rfl rfl bS<|Ca rfl (J1.tu p h)<|Mv rfl<|Ext rfl rfl<|Ext rfl rfl<|Ext rfl rfl<|Al 3 hGF zv52<|fun b3=>Al 4 hGF zv52<|fun b4=>Sa 3 hGF rfl rfl rfl bg<|Sa 4 hGF rfl rfl rfl bg<|Asg rfl<|aa<|Xp<|La 3 rfl rfl bg<|Ca rfl (dh _)<|Al 6 hGF zv29<|fun b6=>aw 6 hGF rfl rfl rfl sizeOf29 sm sm (bH _) rfl<|aa<|Xd []<|fE 0 rfl rfl underlying29 sizeOf5 dc dc rfl rfl<|Lm 6 U8 0 rfl rfl isAgg5 sm<|Mv rfl<|La 4 rfl rfl bg<|Cbl true rfl ent89 (fR _) (hl)<|Ca rfl (Ka)<|Bnr (v:=U8 ((cD (J1.PX p.P)).getD 0 0|||160#8)) rfl rfl (fun _=>gv _ _ 160#8)<|fE 0 rfl rfl underlying29 sizeOf5 dc dc rfl rfl<|bu 6 U8 hGF rfl rfl rfl sizeOf5 rfl sm rfl<|aa<|Xp<|La 6 rfl rfl Ff<|aw 2 hGF rfl rfl rfl sizeOf29 sm sm (bH _) rfl<|aa<|am<|?_
 refine Rr ?_
 exact ay 2 rfl rfl rfl isAgg29 sizeOf29 sm (fun w hw=>⟨rfl,ac hw⟩)
theorem Pi(p:J1.GP)(h: ¬p.P=none)(hl:decide (hf<(J1.PY p.P).val)=false):PUR 41 [J1.PtV p] (.agg ((OR0 (cD (J1.PX p.P)) 128#8).map U8).toArray):=by
 intro w hw
 refine Hf func41 rfl hw<|fun hGF=>Xp<|Bx 1 hGF rfl<|fun b1=>Al 2 hGF zv29<|fun b2=>aa<|Xp<|La 1 rfl rfl bS<|Ca rfl (J1.tu p h)<|Mv rfl<|Ext rfl rfl<|Ext rfl rfl<|Ext rfl rfl<|Al 3 hGF zv52<|fun b3=>Al 4 hGF zv52<|fun b4=>Sa 3 hGF rfl rfl rfl bg<|Sa 4 hGF rfl rfl rfl bg<|Asg rfl<|aa<|Xp<|La 3 rfl rfl bg<|Ca rfl (dh _)<|Al 6 hGF zv29<|fun b6=>aw 6 hGF rfl rfl rfl sizeOf29 sm sm (bH _) rfl<|aa<|Xd []<|fE 0 rfl rfl underlying29 sizeOf5 dc dc rfl rfl<|Lm 6 U8 0 rfl rfl isAgg5 sm<|Mv rfl<|La 4 rfl rfl bg<|Cbl false rfl ent89 (fR _) (hl)<|Ca rfl (J5)<|Bnr (v:=U8 ((cD (J1.PX p.P)).getD 0 0|||128#8)) rfl rfl (fun _=>gv _ _ 128#8)<|fE 0 rfl rfl underlying29 sizeOf5 dc dc rfl rfl<|bu 6 U8 hGF rfl rfl rfl sizeOf5 rfl sm rfl<|aa<|Xp<|La 6 rfl rfl Ff<|aw 2 hGF rfl rfl rfl sizeOf29 sm sm (bH _) rfl<|aa<|am<|?_
 refine Rr ?_
 exact ay 2 rfl rfl rfl isAgg29 sizeOf29 sm (fun w hw=>⟨rfl,ac hw⟩)
theorem NA(p:J2.GP)(h:p.P=none):PUR 45 [J2.PtV p] (.agg ((OR0 (cD 0++cD 0) 192#8).map U8).toArray):=by
 intro w hw
 refine Hf func45 rfl hw<|fun hGF=>Xp<|Bx 1 hGF rfl<|fun b1=>Al 2 hGF zv32<|fun b2=>aa<|Xp<|La 1 rfl rfl bO<|Ca rfl (J2.FR p h)<|Mv rfl<|Ext rfl rfl<|Ext rfl rfl<|Ext rfl rfl<|Al 3 hGF zv92<|fun b3=>Al 4 hGF zv92<|fun b4=>Sa 3 hGF rfl rfl rfl aF<|Sa 4 hGF rfl rfl rfl aF<|Asg rfl<|aa<|eG (E:=EE [2999999]) [0,1,2,3,4,5] [⟨6,6,29,(List.replicate 48 (0#8)).map U8⟩,⟨7,7,29,(List.replicate 48 (0#8)).map U8⟩] [8,9] dR rfl kr kr kr kr kr kr dc (by intro x hx;simp only[List.mem_cons,List.not_mem_nil,or_false]at hx;rcases hx with rfl|rfl<;>exact bP rfl zv29 rfl)<|Fa 6 rfl underlying92 rfl sizeOf52<|ao 3 _ rfl rfl isAgg52 sizeOf52 sm (ii sm) rfl rfl<|Ca rfl (dh _)<|Fa 0 rfl underlying92 rfl sizeOf52<|ao 3 _ rfl rfl isAgg52 sizeOf52 sm dB rfl rfl<|Ca rfl (dh _)<|aa<|?_
 refine ⟨_,_,rfl,hGF,by intro x hx;simp only[List.mem_cons,List.not_mem_nil,or_false]at hx;rcases hx with rfl|rfl<;>rfl,by intro x hx;simp only[List.mem_cons,List.not_mem_nil,or_false]at hx;rcases hx with rfl|rfl<;>rfl,fun adr=> ?_⟩
 refine aw 6 hGF rfl rfl rfl sizeOf29 sm sm (bH _) rfl<|aw 7 hGF rfl rfl rfl sizeOf29 sm sm (bH _) rfl<|aa<|Xp<|Al 8 hGF zv32<|fun b8=>aa<|Xd []<|gu (l:=0) (h':=48) (m:=48) rfl underlying32 sizeOf5 rfl rfl rfl dc dc rfl rfl<|cf (l:=0) (h':=48) rfl underlying29 sizeOf5 rfl rfl dc dc rfl rfl<|fy 8 (o:=0) (cs:=cD 0) hGF rfl rfl rfl underlying22 sz5 sm (fun w' h=>BytesAt.range (aO (n:=6) rfl w' h)) sm rfl rfl<|?_
 rw[vi]
 refine aa<|Xd []<|gu (l:=48) (h':=96) (m:=96) rfl underlying32 sizeOf5 rfl rfl rfl dc dc rfl rfl<|cf (l:=0) (h':=48) rfl underlying29 sizeOf5 rfl rfl dc dc rfl rfl<|fy 8 (o:=48) (cs:=cD 0) hGF rfl rfl rfl underlying22 sz5 sm (fun w' h=>BytesAt.range (aO (n:=7) rfl w' h)) sm rfl rfl<|?_
 rw[wA]
 refine aa<|Xd []<|fE 0 rfl rfl underlying32 sizeOf5 dc dc rfl rfl<|Lm 8 U8 0 rfl rfl isAgg5 sm<|Mv rfl<|La 4 rfl rfl aF<|Ca rfl (nV _)<|Ca rfl (Kj _)<|Bnr (v:=U8 ((cD 0++cD 0).getD 0 0|||192#8)) rfl rfl (fun _=>gv _ _ 192#8)<|fE 0 rfl rfl underlying32 sizeOf5 dc dc rfl rfl<|bu 8 U8 hGF rfl rfl rfl sizeOf5 rfl sm rfl<|aa<|Xp<|La 8 rfl rfl QF<|aw 2 hGF rfl rfl rfl sizeOf32 sm sm (bH _) rfl<|aa<|am<|Rr<|?_
 exact ay 2 rfl rfl rfl isAgg32 sizeOf32 sm (fun w hw=>⟨rfl,ac hw⟩)
theorem OK(p:J2.GP)(h: ¬p.P=none)(hl:LG2 (J2.PY p.P)=true):PUR 45 [J2.PtV p] (.agg ((OR0 (cD (J2.PX p.P).2++cD (J2.PX p.P).1) 160#8).map U8).toArray):=by
 intro w hw
 refine Hf func45 rfl hw<|fun hGF=>Xp<|Bx 1 hGF rfl<|fun b1=>Al 2 hGF zv32<|fun b2=>aa<|Xp<|La 1 rfl rfl bO<|Ca rfl (J2.tu p h)<|Mv rfl<|Ext rfl rfl<|Ext rfl rfl<|Ext rfl rfl<|Al 3 hGF zv92<|fun b3=>Al 4 hGF zv92<|fun b4=>Sa 3 hGF rfl rfl rfl aF<|Sa 4 hGF rfl rfl rfl aF<|Asg rfl<|aa<|eG (E:=EE [2999999]) [0,1,2,3,4,5] [⟨6,6,29,(List.replicate 48 (0#8)).map U8⟩,⟨7,7,29,(List.replicate 48 (0#8)).map U8⟩] [8,9] dR rfl kr kr kr kr kr kr dc (by intro x hx;simp only[List.mem_cons,List.not_mem_nil,or_false]at hx;rcases hx with rfl|rfl<;>exact bP rfl zv29 rfl)<|Fa 6 rfl underlying92 rfl sizeOf52<|ao 3 _ rfl rfl isAgg52 sizeOf52 sm (ii sm) rfl rfl<|Ca rfl (dh _)<|Fa 0 rfl underlying92 rfl sizeOf52<|ao 3 _ rfl rfl isAgg52 sizeOf52 sm dB rfl rfl<|Ca rfl (dh _)<|aa<|?_
 refine ⟨_,_,rfl,hGF,by intro x hx;simp only[List.mem_cons,List.not_mem_nil,or_false]at hx;rcases hx with rfl|rfl<;>rfl,by intro x hx;simp only[List.mem_cons,List.not_mem_nil,or_false]at hx;rcases hx with rfl|rfl<;>rfl,fun adr=> ?_⟩
 refine aw 6 hGF rfl rfl rfl sizeOf29 sm sm (bH _) rfl<|aw 7 hGF rfl rfl rfl sizeOf29 sm sm (bH _) rfl<|aa<|Xp<|Al 8 hGF zv32<|fun b8=>aa<|Xd []<|gu (l:=0) (h':=48) (m:=48) rfl underlying32 sizeOf5 rfl rfl rfl dc dc rfl rfl<|cf (l:=0) (h':=48) rfl underlying29 sizeOf5 rfl rfl dc dc rfl rfl<|fy 8 (o:=0) (cs:=cD (J2.PX p.P).2) hGF rfl rfl rfl underlying22 sz5 sm (fun w' h=>BytesAt.range (aO (n:=6) rfl w' h)) sm rfl rfl<|?_
 rw[vi]
 refine aa<|Xd []<|gu (l:=48) (h':=96) (m:=96) rfl underlying32 sizeOf5 rfl rfl rfl dc dc rfl rfl<|cf (l:=0) (h':=48) rfl underlying29 sizeOf5 rfl rfl dc dc rfl rfl<|fy 8 (o:=48) (cs:=cD (J2.PX p.P).1) hGF rfl rfl rfl underlying22 sz5 sm (fun w' h=>BytesAt.range (aO (n:=7) rfl w' h)) sm rfl rfl<|?_
 rw[wA]
 refine aa<|Xd []<|fE 0 rfl rfl underlying32 sizeOf5 dc dc rfl rfl<|Lm 8 U8 0 rfl rfl isAgg5 sm<|Mv rfl<|La 4 rfl rfl aF<|Cbl true rfl ent97 (nV _) (hl)<|Ca rfl (Ka)<|Bnr (v:=U8 ((cD (J2.PX p.P).2++cD (J2.PX p.P).1).getD 0 0|||160#8)) rfl rfl (fun _=>gv _ _ 160#8)<|fE 0 rfl rfl underlying32 sizeOf5 dc dc rfl rfl<|bu 8 U8 hGF rfl rfl rfl sizeOf5 rfl sm rfl<|aa<|Xp<|La 8 rfl rfl QF<|aw 2 hGF rfl rfl rfl sizeOf32 sm sm (bH _) rfl<|aa<|am<|Rr<|?_
 exact ay 2 rfl rfl rfl isAgg32 sizeOf32 sm (fun w hw=>⟨rfl,ac hw⟩)
theorem Ou(p:J2.GP)(h: ¬p.P=none)(hl:LG2 (J2.PY p.P)=false):PUR 45 [J2.PtV p] (.agg ((OR0 (cD (J2.PX p.P).2++cD (J2.PX p.P).1) 128#8).map U8).toArray):=by
 intro w hw
 refine Hf func45 rfl hw<|fun hGF=>Xp<|Bx 1 hGF rfl<|fun b1=>Al 2 hGF zv32<|fun b2=>aa<|Xp<|La 1 rfl rfl bO<|Ca rfl (J2.tu p h)<|Mv rfl<|Ext rfl rfl<|Ext rfl rfl<|Ext rfl rfl<|Al 3 hGF zv92<|fun b3=>Al 4 hGF zv92<|fun b4=>Sa 3 hGF rfl rfl rfl aF<|Sa 4 hGF rfl rfl rfl aF<|Asg rfl<|aa<|eG (E:=EE [2999999]) [0,1,2,3,4,5] [⟨6,6,29,(List.replicate 48 (0#8)).map U8⟩,⟨7,7,29,(List.replicate 48 (0#8)).map U8⟩] [8,9] dR rfl kr kr kr kr kr kr dc (by intro x hx;simp only[List.mem_cons,List.not_mem_nil,or_false]at hx;rcases hx with rfl|rfl<;>exact bP rfl zv29 rfl)<|Fa 6 rfl underlying92 rfl sizeOf52<|ao 3 _ rfl rfl isAgg52 sizeOf52 sm (ii sm) rfl rfl<|Ca rfl (dh _)<|Fa 0 rfl underlying92 rfl sizeOf52<|ao 3 _ rfl rfl isAgg52 sizeOf52 sm dB rfl rfl<|Ca rfl (dh _)<|aa<|?_
 refine ⟨_,_,rfl,hGF,by intro x hx;simp only[List.mem_cons,List.not_mem_nil,or_false]at hx;rcases hx with rfl|rfl<;>rfl,by intro x hx;simp only[List.mem_cons,List.not_mem_nil,or_false]at hx;rcases hx with rfl|rfl<;>rfl,fun adr=> ?_⟩
 refine aw 6 hGF rfl rfl rfl sizeOf29 sm sm (bH _) rfl<|aw 7 hGF rfl rfl rfl sizeOf29 sm sm (bH _) rfl<|aa<|Xp<|Al 8 hGF zv32<|fun b8=>aa<|Xd []<|gu (l:=0) (h':=48) (m:=48) rfl underlying32 sizeOf5 rfl rfl rfl dc dc rfl rfl<|cf (l:=0) (h':=48) rfl underlying29 sizeOf5 rfl rfl dc dc rfl rfl<|fy 8 (o:=0) (cs:=cD (J2.PX p.P).2) hGF rfl rfl rfl underlying22 sz5 sm (fun w' h=>BytesAt.range (aO (n:=6) rfl w' h)) sm rfl rfl<|?_
 rw[vi]
 refine aa<|Xd []<|gu (l:=48) (h':=96) (m:=96) rfl underlying32 sizeOf5 rfl rfl rfl dc dc rfl rfl<|cf (l:=0) (h':=48) rfl underlying29 sizeOf5 rfl rfl dc dc rfl rfl<|fy 8 (o:=48) (cs:=cD (J2.PX p.P).1) hGF rfl rfl rfl underlying22 sz5 sm (fun w' h=>BytesAt.range (aO (n:=7) rfl w' h)) sm rfl rfl<|?_
 rw[wA]
 refine aa<|Xd []<|fE 0 rfl rfl underlying32 sizeOf5 dc dc rfl rfl<|Lm 8 U8 0 rfl rfl isAgg5 sm<|Mv rfl<|La 4 rfl rfl aF<|Cbl false rfl ent97 (nV _) (hl)<|Ca rfl (J5)<|Bnr (v:=U8 ((cD (J2.PX p.P).2++cD (J2.PX p.P).1).getD 0 0|||128#8)) rfl rfl (fun _=>gv _ _ 128#8)<|fE 0 rfl rfl underlying32 sizeOf5 dc dc rfl rfl<|bu 8 U8 hGF rfl rfl rfl sizeOf5 rfl sm rfl<|aa<|Xp<|La 8 rfl rfl QF<|aw 2 hGF rfl rfl rfl sizeOf32 sm sm (bH _) rfl<|aa<|am<|Rr<|?_
 exact ay 2 rfl rfl rfl isAgg32 sizeOf32 sm (fun w hw=>⟨rfl,ac hw⟩)
theorem S4:OR0 (cD 0) 192#8=EN1 none:=by rw[Fh];rfl
theorem Rb:OR0 (cD 0++cD 0) 192#8=EN2 none:=by rw[Fh];rfl
theorem Mi(p:J1.GP):PUR 41 [J1.PtV p] (.agg ((EN1 p.P).map U8).toArray):=by
 by_cases h:p.P=none
 ·have k:=Pn p h
  rw[S4]at k
  rw[h];exact k
 ·obtain ⟨v,hv⟩: ∃v,p.P=some v:=by
   cases e:p.P with
   |none=>exact absurd e h
   |some v=>exact ⟨v,rfl⟩
  have ex:J1.PX p.P=v.1:=by rw[hv];rfl
  have ey:J1.PY p.P=v.2:=by rw[hv];rfl
  have e1:EN1 p.P=ENF (cD v.1) (LG2 (v.2,0)):=by rw[hv];rfl
  have lg:decide (hf<v.2.val)=LG2 (v.2,0):=JR (x:=(v.2,0)) rfl
  cases hl:LG2 (v.2,0)with
  |true=>
   have k:=MT p h (by rw[ey,lg,hl])
   rw[ex,yC]at k
   rw[e1,hl];exact k
  |false=>
   have k:=Pi p h (by rw[ey,lg,hl])
   rw[ex]at k
   rw[e1,hl];exact k
theorem QA(p:J2.GP):PUR 45 [J2.PtV p] (.agg ((EN2 p.P).map U8).toArray):=by
 by_cases h:p.P=none
 ·have k:=NA p h
  rw[Rb]at k
  rw[h];exact k
 ·obtain ⟨v,hv⟩: ∃v,p.P=some v:=by
   cases e:p.P with
   |none=>exact absurd e h
   |some v=>exact ⟨v,rfl⟩
  have ex:J2.PX p.P=v.1:=by rw[hv];rfl
  have ey:J2.PY p.P=v.2:=by rw[hv];rfl
  have e1:EN2 p.P=ENF (cD v.1.2++cD v.1.1) (LG2 v.2):=by rw[hv];rfl
  cases hl:LG2 v.2 with
  |true=>
   have k:=OK p h (by rw[ey,hl])
   rw[ex,yC]at k
   rw[e1,hl];exact k
  |false=>
   have k:=Ou p h (by rw[ey,hl])
   rw[ex]at k
   rw[e1,hl];exact k
end
end Go.Proofs.YtfgacclgjklgnaaGreatDoor
