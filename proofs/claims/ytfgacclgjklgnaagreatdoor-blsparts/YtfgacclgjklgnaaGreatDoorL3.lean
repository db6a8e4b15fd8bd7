/- L3 -/
import Derived.Test.YtfgacclgjklgnaaGreatDoorL2
import Derived.Test.YtfgacclgjklgnaaGreatDoorX2
import Derived.Test.YtfgacclgjklgnaaGreatDoorXW
import Derived.Test.YtfgacclgjklgnaaGreatDoorX3
set_option maxRecDepth 100000
set_option maxHeartbeats 1000000
namespace Go.Proofs.YtfgacclgjklgnaaGreatDoor
open Go.Proofs.Tryz
section
open Go.RowKit
attribute [local simp] aW bd aU aP aD bf aL aK aB PLl cm cq N1l cr cp cu a8 bg aQ a6 bc J1.bj J2.bj
theorem ti5:TI prog 5 (.int .u8 0) 1 1:=yg kr
def FG(bs:L8):BitVec 8:=bs.getD 0 0 &&& 224#8
def MK(bs:L8):L8:=bs.set 0 (bs.getD 0 0 &&& 31#8)
theorem bL(bs:L8):(MK bs).length=bs.length:=by simp[MK]
attribute [local simp] bL
theorem cz{w:World}{b:Nat}{c:List Value}{xs:L8}(h:w.rangeAt b 0 c)(ht:c.take xs.length=xs.map U8):BytesAt w (spt b) xs:=J2.cz h ht
def INF(bs:L8)(n:Nat):Int:=if (∀j,j<n→(MK bs).getD j 0=0#8)∧FG bs &&& 32#8=0#8 then 0 else 101
def LO(bs:L8)(l:Nat):L8:=((MK bs).drop l).take 48
theorem kh{bs:L8}{l:Nat}(h:l+48≤bs.length):(LO bs l).length=48:=by
 rw[LO,List.length_take,List.length_drop,bL];omega
end
section
open Go.RowKit
attribute [local simp] aW bd aU aP aD bf aL aK aB PLl cm cq N1l cr cp cu a8 bg aQ a6 bc J1.bj J2.bj bL
theorem hmc{i:TypeInfo}(k:Nat)(h:prog.info? 5=some i∧i.zero=some (.int .u8 0)∧i.size=1∧i.bytes=1)(hk:(madeCells (Value.int .u8 0).cells (k*1)).toList=(List.replicate k 0#8).map U8):(madeCells (Value.int .u8 0).cells (k*i.size)).toList=(List.replicate k 0#8).map U8:=by
 rw[h.2.2.1];exact hk
theorem hmk(k:Nat)(h:k≤1000):k*ti5.choose.size≤16777216∧ti5.choose.bytes*k≤281474976710656∧k≤1000000:=by
 rw[ti5.choose_spec.2.2.1,ti5.choose_spec.2.2.2];omega
def OR0(bs:L8)(v:BitVec 8):L8:=bs.set 0 (bs.getD 0 0|||v)
theorem eX(bs:L8)(v:BitVec 8):(OR0 bs v).length=bs.length:=by simp[OR0]
attribute [local simp] eX
theorem wh(x:Zp):lay 0 ((cH x).map U8) ((List.replicate 96 0#8).map U8)=(cH x++List.replicate 48 0#8).map U8:=by
 have h:=rW (cH x) 96 sm
 rw[aB]at h
 exact h
theorem v7(x y:Zp):lay 48 ((cH y).map U8) ((cH x++List.replicate 48 0#8).map U8)=(cH x++cH y).map U8:=by
 rw[iz 48 _ _ sm]
 rw[List.map_append,List.map_append]
 have e1:((cH x).map U8++(List.replicate 48 0#8).map U8).take 48=(cH x).map U8:=List.take_left' sm
 have e2:((cH x).map U8++(List.replicate 48 0#8).map U8).drop (48+((cH y).map U8).length)=[]:=List.drop_eq_nil_of_le sm
 rw[e1,e2,List.append_nil]
theorem sz5:(prog.info? 5).map (·.size)=some 1:=kr
end
section
open Go.RowKit
attribute [local simp] aW bd aU aP aD bf aL aK aB PLl cm cq N1l cr cp cu a8 bg aQ a6 bc J1.bj J2.bj bL eX
def X1(bs:L8):Zp:=zp (BN (LO bs 0) 48)
def X2(bs:L8):W2:=(zp (BN (LO bs 48) 48),zp (BN (LO bs 0) 48))
def LB(bs:L8):Bool:=FG bs &&& 32#8 !=0#8
def NY{α:Type}(z:α)(inG:Option (α×α)→Prop)(l:Bool)(x y:α)(c:Int)(P:Option (α×α)):Prop:=
 ((l=true∧y=z)∧c=103∧P=none)∨(¬(l=true∧y=z)∧((¬inG (some (x,y))∧c=104∧P=none)∨(inG (some (x,y))∧c=0∧P=some (x,y))))
def FLG(bs:L8)(n:Nat){α:Type}(c:Int)(P:Option α)(R:Prop):Prop:=
 (¬bs.length=n∧c=100∧P=none)∨(bs.length=n∧((FG bs &&& 128#8=0#8∧c=101∧P=none)∨(¬FG bs &&& 128#8=0#8∧((¬FG bs &&& 64#8=0#8∧c=INF bs n∧P=none)∨(FG bs &&& 64#8=0#8∧R)))))
def D1(bs:L8)(c:Int)(P:Pt Zp):Prop:=FLG bs 48 c P ((¬BN (LO bs 0) 48<PP∧c=102∧P=none)∨(BN (LO bs 0) 48<PP∧
 ((¬J1.LQ (X1 bs)∧c=103∧P=none)∨(J1.LQ (X1 bs)∧NY 0 (fun Q=>E1.times Q ORD=none) (LB bs) (X1 bs) (J1.LY (X1 bs) (LB bs)) c P))))
def D2(bs:L8)(c:Int)(P:Pt W2):Prop:=FLG bs 96 c P ((¬(BN (LO bs 48) 48<PP∧BN (LO bs 0) 48<PP)∧c=102∧P=none)∨((BN (LO bs 48) 48<PP∧BN (LO bs 0) 48<PP)∧
 ((¬J2.LQ (X2 bs)∧c=103∧P=none)∨(∃r,ml2 r r=J2.RS4 (X2 bs)∧LG2 r=false∧NY ze2 (fun Q=>E2w.times Q ORD=none) (LB bs) (X2 bs) (J2.sgY r (LB bs)) c P))))
theorem yz1{y:Zp}:((y,0):W2)=ze2↔y=0:=⟨fun h=>congrArg Prod.fst h,fun h=>by rw[h];rfl⟩
end
section
theorem bv_a: ∀b:BitVec 8,b &&& 224#8=0#8→(b|||128#8) &&& 31#8=b∧((b|||128#8)|||32#8) &&& 31#8=b∧¬((b|||128#8) &&& 224#8) &&& 128#8=0#8∧¬(((b|||128#8)|||32#8) &&& 224#8) &&& 128#8=0#8∧((b|||128#8) &&& 224#8) &&& 64#8=0#8∧(((b|||128#8)|||32#8) &&& 224#8) &&& 64#8=0#8∧((b|||128#8) &&& 224#8) &&& 32#8=0#8∧¬(((b|||128#8)|||32#8) &&& 224#8) &&& 32#8=0#8:=by decide+kernel
def ENF(B:L8)(l:Bool):L8:=if l=true then OR0 (OR0 B 128#8) 32#8 else OR0 B 128#8
theorem UZ(b:BitVec 8)(r:L8):MK (b::r)=(b &&& 31#8)::r:=rfl
theorem BK(b:BitVec 8)(r:L8):FG (b::r)=b &&& 224#8:=rfl
theorem zG(b:BitVec 8)(r:L8):ENF (b::r) true=((b|||128#8)|||32#8)::r:=rfl
theorem zg(b:BitVec 8)(r:L8):ENF (b::r) false=(b|||128#8)::r:=rfl
theorem ot(B:L8)(l:Bool):(ENF B l).length=B.length:=by
 cases l<;>simp[ENF,eX]
structure Top(B:L8):Prop where
 ne:0<B.length
 lt:B.getD 0 0 &&& 224#8=0#8
theorem y8{B:L8}(h:Top B)(l:Bool):MK (ENF B l)=B∧¬FG (ENF B l) &&& 128#8=0#8∧FG (ENF B l) &&& 64#8=0#8∧LB (ENF B l)=l:=by
 cases B with
 |nil=>exact absurd h.ne dc
 |cons b r=>
  obtain ⟨h1,h2,h3,h4,h5,h6,h7,h8⟩:=bv_a b h.lt
  cases l with
  |true=>exact ⟨by rw[zG,UZ,h2],by rw[zG,BK];exact h4,by rw[zG,BK];exact h6,by rw[LB,zG,BK];exact bne_iff_ne.2 h8⟩
  |false=>exact ⟨by rw[zg,UZ,h1],by rw[zg,BK];exact h3,by rw[zg,BK];exact h5,by rw[LB,zg,BK];exact bne_eq_false_iff_eq.2 h7⟩
/-! ### Numbers below p have noughts there -/
theorem CL(bs:L8): ∀n,(bs.getD 0 0).toNat*256^n≤BN bs (n+1)
 |0=>by rw[BN,BN];omega
 |n+1=>by
  have:=CL bs n
  rw[BN,Nat.pow_succ]
  generalize 256^n=p at*
  generalize BN bs (n+1)=q at*
  generalize (bs.getD 0 0).toNat=t at*
  have:t*(p*256)=t*p*256:=by rw[Nat.mul_assoc]
  omega
theorem P6:PP<32*256^47:=by decide+kernel
theorem bv_t: ∀b:BitVec 8,b.toNat<32→b &&& 224#8=0#8:=by decide+kernel
theorem PJ{bs:L8}(h:bs.length=48)(hl:BN bs 48<PP):Top bs:=by
 refine ⟨om,bv_t _ ?_⟩
 have h1:=CL bs 47
 have h2:=P6
 generalize (bs.getD 0 0).toNat=t at*
 have h3:t*256^47<32*256^47:=Nat.lt_of_le_of_lt h1 (Nat.lt_trans hl h2)
 exact Nat.lt_of_mul_lt_mul_right h3
theorem oo(x:Zp):BN (cH x) 48<PP:=by rw[zU];exact x.isLt
theorem vB(x:Zp):Top (cH x):=PJ (aB x) (oo x)
theorem sG(x:Zp):zp (BN (cH x) 48)=x:=by
 rw[zU];exact Gc x
end
section
def EN1:Pt Zp→L8
 |none=>(List.replicate 48 0#8).set 0 192#8
 |some p=>ENF (cH p.1) (LG2 (p.2,0))
def EN2:Pt W2→L8
 |none=>(List.replicate 96 0#8).set 0 192#8
 |some p=>ENF (cH p.1.2++cH p.1.1) (LG2 p.2)
theorem TX(y:Zp):ng2 (y,0)=(-y,0):=bx rfl (by show-(0:Zp)=0;exact z_n0')
theorem H3{y:Zp}(h:y≠0):LG2 (-y,0)= !LG2 (y,0):=by
 rw[←TX];exact og (fun e=>h (yz1.1 e))
/-! ### Roots -/
theorem Lu{x y:Zp}(h:y*y=J1.RS4 x):J1.LQ x:=by
 show SQr (J1.RS4 x)*SQr (J1.RS4 x)=J1.RS4 x
 rw[←h];exact wR y
theorem WQ{x y:Zp}(h:y*y=J1.RS4 x):J1.LY x (LG2 (y,0))=y:=by
 have hq:=Lu h
 have s:=UX y
 have sm:LG2 (SQ (J1.RS4 x),0)=false:=Kp (jZ hq)
 rw[h]at s
 cases hl:LG2 (y,0)with
 |false=>
  rw[J1.UK hq]
  generalize SQ (J1.RS4 x)=t at*
  rcases s with e|e
  ·exact e
  ·by_cases h0:y=0
   ·rw[e,h0];exact z_n0'
   ·rw[e,H3 h0,hl]at sm;cases sm
 |true=>
  rw[J1.UW hq]
  generalize SQ (J1.RS4 x)=t at*
  rcases s with e|e
  ·rw[e,hl]at sm;cases sm
  ·rw[e];exact J1.Dc y
theorem Tv{x y:W2}(h:ml2 y y=J2.RS4 x): ∃r,ml2 r r=J2.RS4 x∧LG2 r=false∧J2.sgY r (LG2 y)=y:=by
 cases hl:LG2 y with
 |false=>exact ⟨y,h,hl,rfl⟩
 |true=>
  have h0:y≠ze2:=fun e=>by rw[e,sV]at hl;cases hl
  exact ⟨ng2 y,(J2.KN y).trans h,by rw[og h0,hl];rfl,R2.neg_neg y⟩
/-! ### Written and read -/
theorem Jw{bs:L8}(h:bs.length=48):LO bs 0=MK bs:=by
 rw[LO,List.drop_zero];exact List.take_of_length_le (by rw[bL];omega)
theorem Qd{x y:Zp}(on:E1.on (x,y)){c:Int}{Q:Pt Zp}(h:NY 0 (fun Q=>E1.times Q ORD=none) (LG2 (y,0)) x y c Q):D1 (EN1 (some (x,y))) c Q:=by
 have hy:=J1.mu.1 on
 obtain ⟨m,f,s,l⟩:=y8 (vB x) (LG2 (y,0))
 have hlen:(EN1 (some (x,y))).length=48:=(ot _ _).trans (aB x)
 have lo:LO (EN1 (some (x,y))) 0=cH x:=(Jw hlen).trans m
 have ex:X1 (EN1 (some (x,y)))=x:=by rw[X1,lo,sG]
 refine .inr ⟨hlen,.inr ⟨f,.inr ⟨s,.inr ⟨by rw[lo];exact oo x,.inr ?_⟩⟩⟩⟩
 rw[ex,show LB (EN1 (some (x,y)))=LG2 (y,0)from l,WQ hy]
 exact ⟨Lu hy,h⟩
theorem LO_2{a b:L8}{bs:L8}(ha:a.length=48)(hb:b.length=48)(h:MK bs=a++b):LO bs 0=a∧LO bs 48=b:=by
 rw[LO,LO,h,List.drop_zero]
 exact ⟨List.take_left' ha,by rw[List.drop_left' ha];exact List.take_of_length_le om⟩
theorem Jl{a b:L8}(h:Top a):Top (a++b):=by
 cases a with
 |nil=>exact absurd h.ne dc
 |cons x r=>exact ⟨sm,h.lt⟩
theorem Ny{x y:W2}(on:E2w.on (x,y)){c:Int}{Q:Pt W2}(h:NY ze2 (fun Q=>E2w.times Q ORD=none) (LG2 y) x y c Q):D2 (EN2 (some (x,y))) c Q:=by
 have hy:=J2.mu.1 on
 obtain ⟨m,f,s,l⟩:=y8 (Jl (b:=cH x.1) (vB x.2)) (LG2 y)
 have hlen:(EN2 (some (x,y))).length=96:=(ot _ _).trans (by rw[List.length_append,aB,aB])
 obtain ⟨l0,l48⟩:=LO_2 (bs:=EN2 (some (x,y))) (aB x.2) (aB x.1) m
 have ex:X2 (EN2 (some (x,y)))=x:=by rw[X2,l0,l48,sG,sG]
 obtain ⟨r,hr,hs,e⟩:=Tv hy
 refine .inr ⟨hlen,.inr ⟨f,.inr ⟨s,.inr ⟨by rw[l0,l48];exact ⟨oo _,oo _⟩,.inr ⟨r, ?_⟩⟩⟩⟩⟩
 rw[ex,show LB (EN2 (some (x,y)))=LG2 y from l,e]
 exact ⟨hr,hs,h⟩
theorem JU:D1 (EN1 none) 0 none:=.inr ⟨dc,.inr ⟨dc,.inl ⟨dc,by decide+kernel,rfl⟩⟩⟩
theorem H8:D2 (EN2 none) 0 none:=.inr ⟨dc,.inr ⟨dc,.inl ⟨dc,by decide+kernel,rfl⟩⟩⟩
theorem Mz{α:Type}{z:α}{inG:Option (α×α)→Prop}{l:Bool}{x y:α}(h: ¬(l=true∧y=z))(g:inG (some (x,y))):NY z inG l x y 0 (some (x,y)):=.inr ⟨h,.inr ⟨g,rfl,rfl⟩⟩
theorem Rk{y:Zp}: ¬(LG2 (y,0)=true∧y=0):=fun ⟨h,e⟩=>by
 rw[e,show ((0,0):W2)=ze2 from rfl,sV]at h;cases h
theorem MT{y:W2}: ¬(LG2 y=true∧y=ze2):=fun ⟨h,e⟩=>by
 rw[e,sV]at h;cases h
theorem vD{P:Pt Zp}(on:E1.onP P)(g:E1.times P ORD=none):D1 (EN1 P) 0 P:=by
 cases P with
 |none=>exact JU
 |some p=>exact Qd (x:=p.1) (y:=p.2) on (Mz Rk g)
theorem DC{P:Pt W2}(on:E2w.onP P)(g:E2w.times P ORD=none):D2 (EN2 P) 0 P:=by
 cases P with
 |none=>exact H8
 |some p=>exact Ny (x:=p.1) (y:=p.2) on (Mz MT g)
end
section
open Go.RowKit
attribute [local simp] aW bd aU aP aD bf aL aK aB PLl cm cq N1l cr cp cu a8 bg aQ a6 bc J1.bj J2.bj bL eX
end
end Go.Proofs.YtfgacclgjklgnaaGreatDoor
