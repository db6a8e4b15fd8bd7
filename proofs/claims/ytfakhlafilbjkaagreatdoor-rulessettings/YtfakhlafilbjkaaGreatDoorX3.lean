/- X3 -/
import Derived.Test.YtfakhlafilbjkaaGreatDoorX2
import Derived.Laws.MakeOwn
import Derived.ChangeArms
set_option maxRecDepth 100000
set_option maxHeartbeats 1000000
namespace Go.Proofs.YtfakhlafilbjkaaGreatDoor
variable {P:Program} {G:Cls} {ro:Option Nat} {ops:Array Oper} {N:Nat} {ds:List Deferred} {fs:List Nat} {Z:Fr->Cls->Prop} {F:Fr} {C:Cls} {rest:List Oper} {d:Nat} {ty:TypeId} {pos:String} {af:Array Edge} {gd:Option (Nat×Bool)} {B:Bs} {L:Hl}
section
open Go.RowKit
theorem uy{t:TypeId}{f:Field}{l:L6}(hl:l.length=6)(hu:P.underlying t=some (.struct #[f]))(h0:f.offset=0)(hs: ∀w,(sizeOf f.type).run P w=.ok 6 w)
 (hz: ∀w,(zeroValue t).run P w=.ok (bd (List.replicate 6 0#64)) w) (w:World):(Instr.build t #[(0,bd l)]).run P w=.ok (bd l) w:=by
 match l,hl with
 |[_,_,_,_,_,_],_=>simp[Instr.build,hz,run_underlying hu,hs,h0,Value.cells,Instr.fill,List.replicate]
theorem dn{t:TypeId}{f:Field}{x:Operand}{l:L6}(hx:evF F x=some (bd l))(hl:l.length=6)(hu:P.underlying t=some (.struct #[f]))(h0:f.offset=0)(hs: ∀w,(sizeOf f.type).run P w=.ok 6 w)
 (hz: ∀w,(zeroValue t).run P w=.ok (bd (List.replicate 6 0#64)) w) (hw:bf ops F ⟨some d,.build t #[(0,x)],ty,pos,af,gd⟩=some true) (hd:Nat.blt d N=true)
 (h:Lx P G ro ops N ds (EE fs) Z rest ((d,bd l)::F) C):Lx P G ro ops N ds (EE fs) Z (⟨some d,.build t #[(0,x)],ty,pos,af,gd⟩::rest) F C:=
 ce (ps:=[(0,x)]) (vs:=[bd l]) (by simp[evL,hx]) (λw=>uy hl hu h0 hs hz w) hw hd h
theorem uc{t e:TypeId}{n:BitVec 64}(hu:P.underlying t=some (.array 6 e))(hs: ∀w,(sizeOf e).run P w=.ok 1 w)
 (hz: ∀w,(zeroValue t).run P w=.ok (bd (List.replicate 6 0#64)) w) (w:World):(Instr.build t #[(0,U64 n)]).run P w=.ok (bd (n::List.replicate 5 0)) w:=by
 simp[Instr.build,hz,run_underlying hu,hs,Value.cells,Instr.fill,List.replicate,U64]
theorem gt{t e:TypeId}{x:Operand}(n:BitVec 64)(hx:evF F x=some (U64 n))(hu:P.underlying t=some (.array 6 e))(hs: ∀w,(sizeOf e).run P w=.ok 1 w)
 (hz: ∀w,(zeroValue t).run P w=.ok (bd (List.replicate 6 0#64)) w) (hw:bf ops F ⟨some d,.build t #[(0,x)],ty,pos,af,gd⟩=some true) (hd:Nat.blt d N=true)
 (h:Lx P G ro ops N ds (EE fs) Z rest ((d,bd (n::List.replicate 5 0))::F) C):Lx P G ro ops N ds (EE fs) Z (⟨some d,.build t #[(0,x)],ty,pos,af,gd⟩::rest) F C:=
 ce (ps:=[(0,x)]) (vs:=[U64 n]) (by simp[evL,hx]) (λw=>uc hu hs hz w) hw hd h
end
section
open Go.RowKit
theorem OwnB.range{w:World}{b:Nat}{c:List Value}{t:TypeId}(h:OwnB w b c t):w.rangeAt b 0 c:=by
 obtain ⟨fz,h,_⟩:=h;intro j v hj;simp[World.cell?,h,hj]
end
section
open Go.RowKit
theorem yG{f:Nat}{al:List Operand}{at':Array TypeId}{vs:List Value}{b:Bool}(b':Bool)(hf:fs.any (Nat.beq f)=false)(ha:evL F al=some vs)(he:aJ P f)(hp:Pure P G f vs (.bool b))(hb:b=b')
 (hw:bf ops F ⟨some d,.call {callee:=.value (.func f),args:=al.toArray,argTypes:=at'},ty,pos,af,gd⟩=some true) (hd:Nat.blt d N=true)
 (h:Lx P G ro ops N ds (EE fs) Z rest ((d,.bool b')::F) C):Lx P G ro ops N ds (EE fs) Z (⟨some d,.call {callee:=.value (.func f),args:=al.toArray,argTypes:=at'},ty,pos,af,gd⟩::rest) F C:=
 jA hf ha he (hb▸hp) hw hd h
theorem kA{op:BinOp}{t yt:TypeId}{x y:Operand}{vx vy:Value}{b:Bool}(b':Bool)(hx:evF F x=some vx)(hy:evF F y=some vy)(hg: ∀w,(eqGuard op t x y vx vy).run P w=.ok () w)
 (hr: ∀w,(binOp op t vx vy).run P w=.ok (.bool b) w) (hb:b=b') (hw:bf ops F ⟨some d,.binOp op t x y yt,ty,pos,af,gd⟩=some true) (hd:Nat.blt d N=true)
 (h:Lx P G ro ops N ds (EE fs) Z rest ((d,.bool b')::F) C):Lx P G ro ops N ds (EE fs) Z (⟨some d,.binOp op t x y yt,ty,pos,af,gd⟩::rest) F C:=
 du hx hy hg (hb▸hr) hw hd h
theorem mF{t:TypeId}{g m:Nat}{cs:List Value}(hG:BOk G B)(hag: ∀w,(isAgg t).run P w=.ok true w)(hs: ∀w,(sizeOf t).run P w=.ok m w)(hm:cs.length=m)(hc: ∀w,G w->w.rangeAt g 0 cs)
 (hw:bf ops F ⟨some d,.load t (.global g),ty,pos,af,gd⟩=some true) (hd:Nat.blt d N=true)
 (h:Lx P G ro ops N ds (EE fs) Z rest ((d,.agg cs.toArray)::F) (Hp B L)):Lx P G ro ops N ds (EE fs) Z (⟨some d,.load t (.global g),ty,pos,af,gd⟩::rest) F (Hp B L):=
 az O hag hs hm (λw hw=>hc w (hG.g _ _ w hw)) hw hd h
theorem be(n:Nat){t et:TypeId}{x:Operand}{b o m:Nat}{c:List Value}(cs:List Value)(hx:evF F x=some (.pointer (some ⟨b,o,none⟩)))(hl:lkB L n=some (b,c,et))(hag: ∀w,(isAgg t).run P w=.ok true w)(hs: ∀w,(sizeOf t).run P w=.ok m w)
 (hm:cs.length=m) (hv: ∀j v,cs[j]? =some v->c[o+j]? =some v) (hw:bf ops F ⟨some d,.load t x,ty,pos,af,gd⟩=some true) (hd:Nat.blt d N=true)
 (h:Lx P G ro ops N ds (EE fs) Z rest ((d,.agg cs.toArray)::F) (Hp B L)):Lx P G ro ops N ds (EE fs) Z (⟨some d,.load t x,ty,pos,af,gd⟩::rest) F (Hp B L):=
 az hx hag hs hm (tB (n:=n) hl hv) hw hd h
theorem gu(n:Nat){t et:TypeId}{x y:Operand}{b o m:Nat}{c:List Value}{vs:List Value}(c':List Value)(hG:BOk G B)(hx:evF F x=some (.pointer (some ⟨b,o,none⟩)))(hy:evF F y=some (.agg vs.toArray))(hl:lkB L n=some (b,c,et))
 (hs: ∀w,(sizeOf t).run P w=.ok m w) (hm:vs.length=m) (hv:vs.all (·.oneCell')=true) (ho:o+vs.length<=c.length) (he:lay o vs c=c') (hw:bf ops F ⟨none,.store t x y,ty,pos,af,gd⟩=some true)
 (h:Lx P G ro ops N ds (EE fs) Z rest F (Hp B ((n,b,c',et)::L))):Lx P G ro ops N ds (EE fs) Z (⟨none,.store t x y,ty,pos,af,gd⟩::rest) F (Hp B L):=
 fL n hG hx hy hl hs hm hv ho hw (he▸h)
theorem rU{t e:TypeId}{len sz:Nat}(k o':Nat){x ix:Operand}{b o:Nat}{i:Int}(hx:evF F x=some (.pointer (some ⟨b,o,none⟩)))(hi:evF F ix=some (I i))(hu:P.underlying t=some (.array len e))
 (hs: ∀w,(sizeOf e).run P w=.ok sz w) (hk:i=(k:Int)) (hb:k<len) (ho:o+k*sz=o') (hw:bf ops F ⟨some d,.indexAddr t x ix,ty,pos,af,gd⟩=some true) (hd:Nat.blt d N=true)
 (h:Lx P G ro ops N ds (EE fs) Z rest ((d,.pointer (some ⟨b,o',none⟩))::F) C):Lx P G ro ops N ds (EE fs) Z (⟨some d,.indexAddr t x ix,ty,pos,af,gd⟩::rest) F C:=
 zX hx hi hu hs om hw hd (by rw[show i.toNat=k by omega,ho];exact h)
end
section
open Go.RowKit
theorem eq8{t e:TypeId}{n:Nat}(hu:P.underlying t=some (.array n e))(he:P.underlying e=some (.int .u8))(hs: ∀w,(sizeOf e).run P w=.ok 1 w)(hag: ∀w,(isAgg e).run P w=.ok false w)(xs ys:L8)(hl:xs.length=n)(hl':ys.length=n)(d:Nat)(w:World):
 (Op.equalIn (d+2) t (.agg (xs.map U8).toArray) (.agg (ys.map U8).toArray)).run P w=.ok (decide (xs=ys)) w:=by
 simp only[Op.equalIn,Sem.run_bind,run_underlying hu,Result.andThen_ok,hs];rw[Std.Legacy.Range.forIn_eq_forIn_range'];have key: ∀is:List Nat,(∀i∈is,i<xs.length)->∀{β:Type} (f:Nat->β->Sem (ForInStep β)) (b b1:β),(∀i,i<xs.length->(f i b).run P w=.ok (if xs[i]? ==ys[i]? then .yield b else .done b1) w)->(forIn is b f).run P w=.ok (if is.all (λi=>xs[i]? ==ys[i]?)then b else b1) w:=by
  intro is
  induction is with
  |nil=>intro _ β f b b1 _;simp
  |cons i r ih=>
   intro hi β f b b1 hf;rw[List.forIn_cons,Sem.run_bind,hf i (hi i aB),Result.andThen_ok,List.all_cons]
   cases hb:(xs[i]? ==ys[i]?)with
   |true=>simpa using ih (λj hj=>hi j (by simp[hj])) f b b1 hf
   |false=>simp
 rw[key _ (by intro i hi;simp at hi;omega) _ _ ⟨some false,()⟩ ?_]
 ·have hr:(List.range' 0 n 1)=List.range' 0 xs.length:=by rw[hl]
  have:=A9 xs ys om;simp only[Std.Legacy.Range.size,Nat.sub_zero,Nat.add_sub_cancel,Nat.div_one]at*;rw[hr,this]
  cases decide (xs=ys)<;>simp
 ·intro i hi
  have hi':i<ys.length:=om;have hg:(xs.map U8).toArray[i*1]? =some (U8 xs[i]):=by simp[hi]
  have hg':(ys.map U8).toArray[i*1]? =some (U8 ys[i]):=by simp[hi']
  have hp:(part e (xs.map U8).toArray (i*1)).run P w=.ok (U8 xs[i]) w:=by
   simp only[part,Sem.run_bind,hag,Result.andThen_ok,Bool.false_eq_true,if_false,hg,Sem.run_pure]
  have hp':(part e (ys.map U8).toArray (i*1)).run P w=.ok (U8 ys[i]) w:=by
   simp only[part,Sem.run_bind,hag,Result.andThen_ok,Bool.false_eq_true,if_false,hg',Sem.run_pure]
  have hb:(xs[i]? ==ys[i]?)=(((xs[i].toNat:Int))==((ys[i].toNat:Int))):=by
   rw[List.getElem?_eq_getElem hi,List.getElem?_eq_getElem hi'];by_cases h:xs[i]=ys[i]
   ·simp[h]
   ·have h2: ¬((xs[i].toNat:Int))=((ys[i].toNat:Int)):=λe=>h (BitVec.eq_of_toNat_eq om)
    rw[beq_eq_false_iff_ne.2 h2];simpa using h
  rw[hb];simp only[Sem.run_bind,hp,hp',Result.andThen_ok];simp only[run_underlying he,U8,Result.andThen_ok]
  cases ((xs[i].toNat:Int))==((ys[i].toNat:Int))<;>simp
theorem CR{t e:TypeId}{n:Nat}(hu:P.underlying t=some (.array n e))(he:P.underlying e=some (.int .u8))(hs: ∀w,(sizeOf e).run P w=.ok 1 w)(hag: ∀w,(isAgg e).run P w=.ok false w)(xs ys:L8)(hl:xs.length=n)(hl':ys.length=n)(w:World):
 (binOp .eql t (.agg (xs.map U8).toArray) (.agg (ys.map U8).toArray)).run P w=.ok (.bool (decide (xs=ys))) w:=by
 rw[run_eql_struct,eq8 hu he hs hag xs ys hl hl' 9998 w];rfl
theorem rJ{f:Field}{n:Nat}(hs: ∀w,(sizeOf f.type).run P w=.ok n w)(w:World): ∃a,(Array.mapM (λf:Field=>Prod.mk f.offset<$>sizeOf f.type) #[f]:Sem _).run P w=.ok a w:=⟨#[(f.offset,n)],by simp[hs]⟩
end
section
open Go.RowKit
theorem pk(o:Nat): ∀(vs:List Value) (k:Nat) (c:List Value),(vs.zipIdx k).foldl (λ(cs:Array Value) (p:Value×Nat)=>cs.setIfInBounds (o+p.2) p.1) c.toArray=(lay (o+k) vs c).toArray
 |[],_,_=>rfl
 |v::r,k,c=>by
  have ih:=pk o r (k+1) (c.set (o+k) v);rw[List.zipIdx_cons,List.foldl_cons,lay];simp only[List.setIfInBounds_toArray];rw[ih,Nat.add_assoc]
theorem fS{place:Nat->Option (Nat×Nat)}{i off size:Nat}{vs c:List Value}(hp:place i=some (off,size))(hs:vs.length=size)(ho:off+vs.length<=c.length)(rest:List (Nat×Value)):
 Instr.fill place c.toArray ((i,.agg vs.toArray)::rest)=Instr.fill place (lay off vs c).toArray rest:=by
 have h:=pk off vs 0 c;have hn: ¬((decide ((Value.agg vs.toArray).cells.size≠size)||decide (off+(Value.agg vs.toArray).cells.size>c.toArray.size))=true):=by
  simp[Value.cells,hs];omega
 have e:(Value.agg vs.toArray).cells.zipIdx.foldl (λ(cs:Array Value) (p:Value×Nat)=>cs.setIfInBounds (off+p.2) p.1) c.toArray=(lay off vs c).toArray:=by
  rw[<-Array.foldl_toList,Array.toList_zipIdx];exact h
 rw[Instr.fill,hp];show (if (decide ((Value.agg vs.toArray).cells.size≠size)||decide (off+(Value.agg vs.toArray).cells.size>c.toArray.size))=true then none else _)=_
 rw[if_neg hn,<-e]
/-! ### Rows of six -/
def FL(f:Nat->L6)(n:Nat):L6:=(List.range (6*n)).map λm=>(f (m / 6)).getD (m % 6) 0
theorem eI(f:Nat->L6)(n:Nat):(FL f n).length=6*n:=by rw[FL,List.length_map,List.length_range]
theorem uD(f:Nat->L6)(n m:Nat)(h:m<6*n):(FL f n)[m]? =some ((f (m / 6)).getD (m % 6) 0):=by
 rw[FL,List.getElem?_map,List.getElem?_range h];rfl
theorem Cp(f:Nat->L6)(n k:Nat)(hk:k<n)(hf:(f k).length=6)(o:Nat)(ho:o=6*k): ∀j v,((f k).map U64)[j]? =some v->((FL f n).map U64)[o+j]? =some v:=λj v hv=>by
 have hj:j<6:=by
  rcases Nat.lt_or_ge j 6 with h|h
  ·exact h
  ·rw[List.getElem?_eq_none (by rw[List.length_map,hf];exact h)]at hv;cases hv
 rw[List.getElem?_map]at hv⊢;rw[uD f n (o+j) om,show (o+j) / 6=k by omega,show (o+j) % 6=j by omega]
 rw[List.getElem?_eq_getElem om]at hv;rw[<-hv,List.getD_eq_getElem?_getD,List.getElem?_eq_getElem om];rfl
theorem sF{f g:Nat->L6}{n:Nat}(h: ∀i,i<n->f i=g i):FL f n=FL g n:=by
 unfold FL;refine List.map_congr_left λm hm=> ?_;rw[List.mem_range]at hm;rw[h (m / 6) om]
theorem Ao(f:Nat->L6)(n k:Nat)(g:L6)(hk:k<n)(hg:g.length=6)(o:Nat)(ho:o=6*k):lay o (g.map U64) ((FL f n).map U64)=(FL (λi=>if i=k then g else f i) n).map U64:=by
 apply List.ext_getElem?;intro m;rw[i1 _ _ _ _ (by rw[List.length_map,List.length_map,eI,hg];omega)]
 rw[List.length_map,hg,List.getElem?_map (l:=FL (λi=>if i=k then g else f i) n)]
 by_cases hm:m<6*n
 ·rw[uD _ n m hm]
  by_cases h:o<=m/\m<o+6
  ·rw[if_pos h,if_pos om,List.getElem?_map,List.getElem?_eq_getElem om,List.getD_eq_getElem?_getD,show m % 6=m-o by omega,List.getElem?_eq_getElem om]
   rfl
  ·rw[if_neg h,if_neg om,List.getElem?_map,uD f n m hm]
 ·rw[if_neg om,List.getElem?_map,List.getElem?_eq_none (by rw[eI];omega),List.getElem?_eq_none (by rw[eI];omega)]
theorem uu{t e:TypeId}{n:Nat}{l:L6}{z:Nat->L6}(hl:l.length=6)(hn:0<n)(hu:P.underlying t=some (.array n e))(hs: ∀w,(sizeOf e).run P w=.ok 6 w)
 (hz: ∀w,(zeroValue t).run P w=.ok (bd (FL z n)) w) (w:World):(Instr.build t #[(0,bd l)]).run P w=.ok (bd (FL (λi=>if i=0 then l else z i) n)) w:=by
 have h:=fS (place:=λi=>some (i*6,6)) (i:=0) (off:=0) (vs:=l.map U64) (c:=(FL z n).map U64) O (by rw[List.length_map,hl]) (by rw[List.length_map,List.length_map,eI,hl];omega) []
 rw[Ao z n 0 l hn hl 0 O]at h;simp only[Instr.build,hz,run_underlying hu,hs,Sem.run_bind,Result.andThen_ok];rw[show (Value.agg (List.map U64 (FL z n)).toArray).cells=(List.map U64 (FL z n)).toArray from O,h];rfl
theorem yh{t e:TypeId}{n:Nat}{x:Operand}{l:L6}{z:Nat->L6}(hx:evF F x=some (bd l))(hl:l.length=6)(hn:0<n)(hu:P.underlying t=some (.array n e))(hs: ∀w,(sizeOf e).run P w=.ok 6 w)
 (hz: ∀w,(zeroValue t).run P w=.ok (bd (FL z n)) w) (hw:bf ops F ⟨some d,.build t #[(0,x)],ty,pos,af,gd⟩=some true) (hd:Nat.blt d N=true)
 (h:Lx P G ro ops N ds (EE fs) Z rest ((d,bd (FL (λi=>if i=0 then l else z i) n))::F) C):Lx P G ro ops N ds (EE fs) Z (⟨some d,.build t #[(0,x)],ty,pos,af,gd⟩::rest) F C:=
 ce (ps:=[(0,x)]) (vs:=[bd l]) (by simp[evL,hx]) (λw=>uu hl hn hu hs hz w) hw hd h
end
section
open Go.RowKit
section
variable {E:Oper->Bool} {Q:Exit->Act->World->Prop}
theorem ir{Z:Fr->Cls->Prop}(hZ: ∀F C,dv G C->Z F C->qt N ds Q .normal F C)(l2:List Oper): ∀(l:List Oper) (F:Fr) (C:Cls),dv G C->
 Lx P G ro ops N ds E (λF' C'=> ∃E',Lx P G ro ops N ds E' Z l2 F' C') l F C->∀a w,Has N ds F a->C w->wpListIn (FW ro) 0 P ops Q (l++l2) a w
 |[],F,C,hS,h,a,w,ha,hw=>by
  obtain ⟨E',h⟩:=h;exact eR hZ l2 F C hS h a w ha hw
 |o::rest,F,C,hS,h,a,w,ha,hw=>by
  rw[List.cons_append];unfold wpListIn;unfold Lx at h
  cases hE:E o with
  |true=>
   rw[hE]at h;obtain ⟨hwant,hwp⟩:=h a w ha hw;rw[if_pos hwant];refine Oper.wpIn_exits (Oper.wpIn_mono (λa' w' hk=> ?_) hwp);obtain ⟨F',C',ha',hS',hw',_,hk⟩:=hk;exact ir hZ l2 rest F' C' hS' hk a' w' ha' hw'
  |false=>
   rw[hE]at h;obtain ⟨v,⟨hd,hy⟩,hk⟩:=h;have hcls:ie G o C w:=pp hS hw;rcases hy a ha with ⟨hwant,hy⟩|⟨hwant,rfl⟩
   ·rw[if_pos hwant]
    exact hy.wpIn hcls λw' hg=>ir hZ l2 rest _ C hS hk _ w' (ha.putF hd v) (hS.1 _ _ hw hg)
   ·rw[if_neg (by simp[hwant])]
    exact ⟨λf _=>dI ro f,ir hZ l2 rest _ C hS hk _ w (ha.putF hd _) hw⟩
end
theorem D1{t e:TypeId}{len sz:Nat}(o':Nat){x ix:Operand}{b o:Nat}{i:BitVec 8}(hx:evF F x=some (.pointer (some ⟨b,o,none⟩)))(hi:evF F ix=some (U8 i))(hu:P.underlying t=some (.array len e))
 (hs: ∀w,(sizeOf e).run P w=.ok sz w) (hb:i.toNat<len) (ho:o+i.toNat*sz=o') (hw:bf ops F ⟨some d,.indexAddr t x ix,ty,pos,af,gd⟩=some true) (hd:Nat.blt d N=true)
 (h:Lx P G ro ops N ds (EE fs) Z rest ((d,.pointer (some ⟨b,o',none⟩))::F) C):Lx P G ro ops N ds (EE fs) Z (⟨some d,.indexAddr t x ix,ty,pos,af,gd⟩::rest) F C:=
 cO (v:=.pointer (some ⟨b,o',none⟩)) O hw hd (λ_ h=>by cases h) (λa w ha _=>by
  have h1: ¬len<=i.toNat:=om;simp only[execOp,ha.ev hx,ha.ev hi,U8];simp[Instr.indexAt,asIntOf,run_underlying hu,Instr.sureAddr,h1,hs,Addr.add_mid,ho]) h
section
variable {K:KK}
theorem Bu{id:Nat}{l:List Oper}{E:Oper->Bool}(n:Nat)(h:Lx P G ro l.toArray N ds E (λF' C'=> ∃E',Lx P G ro l.toArray N ds E' (K .normal ds) (l.drop n) F' C') (l.take n) F C):X P G ro N ds (.region id l.toArray false) F C K:=λhS a w ha hw=>by
 have key:=ir (Q:=λe a' w'=> ∃ds' F' C',dv G C'/\Has N ds' F' a'/\C' w'/\K e ds' F' C') (λF' C' hS' hk a' w' ha' hw'=>⟨ds,F',C',hS',ha',hw',hk⟩) (l.drop n) (l.take n) F C hS h a w ha hw;rw[List.take_append_drop]at key;exact wpIn_region_lit key
theorem yp{id:Nat}{l:List Oper}{E:Oper->Bool}{y:Code}(n:Nat)(h:Lx P G ro l.toArray N ds E (λF' C'=> ∃E',Lx P G ro l.toArray N ds E' (λF' C'=>X P G ro N ds y F' C' K) (l.drop n) F' C') (l.take n) F C):X P G ro N ds (.seq (.region id l.toArray false) y) F C K:=ah (Bu n h)
end
end
section
open Go.RowKit
section
variable {l:List Oper} {E:Oper->Bool} {K:KK}
def mU(l:List Oper)(σ:List Nat):Array Bool:=gi σ (Array.replicate l.toArray.size false)
def TR(P:Program)(G:Cls)(ro:Option Nat)(N:Nat)(ds:List Deferred)(l:List Oper)(E:Oper->Bool)(K:KK)(m:Nat)(σ:List Nat)(F:Fr)(C:Cls):Prop:=
 Region.noSelect l.toArray=true->dz l.toArray=true->Closed .any l.toArray (mU l σ)->dv G C->∀a,Has N ds F a->
  jS P G ro .any l.toArray (λe a' w'=> ∃ds' F' C',dv G C'/\Has N ds' F' a'/\C' w'/\K e ds' F' C') E m (mU l σ) a C
theorem tL(σ τ:List Nat):mU l (σ++τ)=gi τ (mU l σ):=by unfold mU gi;rw[List.foldl_append]
theorem bL{m:Nat}{σ:List Nat}(τ:List Nat)(hok:pA .any l.toArray E τ (mU l σ)=true)(h:Lx P G ro l.toArray N ds E (λF' C'=>TR P G ro N ds l E K m (σ++τ) F' C') (ic τ l) F C):
 TR P G ro N ds l E K (τ.length+m) σ F C:=λhsel hdef hc hS a ha=>by
 rw[<-iL]at h;refine lP (Z:=λF' C'=>TR P G ro N ds l E K m (σ++τ) F' C') hsel hdef τ _ F C a hc hok ha hS (λF' C' a' hc' ha' hS' hZ=> ?_) h;have hZ:TR P G ro N ds l E K m (σ++τ) F' C':=hZ;rw[<-tL]at hc'⊢;exact hZ hsel hdef hc' hS' a' ha'
theorem jl{m:Nat}{σ:List Nat}(R:List Nat)(hR:Region.ready .any l.toArray (mU l σ)=R)(hE:R.all (λi=>(l.toArray[i]?).any E)=true)(hne:R≠[])
 (h: ∀i∈R,Lx P G ro l.toArray N ds E (λF' C'=>TR P G ro N ds l E K m (σ++[i]) F' C') (ic [i] l) F C):TR P G ro N ds l E K (m+1) σ F C:=λhsel hdef hc hS a ha=>by
 refine ⟨λh0=>absurd (hR.symm.trans h0) hne,λi hi oi hoi=> ?_⟩;have hiR:i∈R:=by rw[<-hR];exact hi
 have hEi:E oi=true:=by have:=List.all_eq_true.1 hE i hiR;rw[hoi]at this;exact this
 have hx:=h i hiR;rw[<-iL]at hx;have hl:[i].filterMap (l.toArray[·]?)=[oi]:=by simp only[List.filterMap_cons,hoi,List.filterMap_nil]
 rw[hl]at hx;unfold Lx at hx;rw[hEi]at hx⊢;intro w hw;obtain ⟨hwant,hwp⟩:=hx a w ha hw;refine ⟨hwant,Oper.wpIn_mono (λa' w' hk=> ?_) hwp⟩;obtain ⟨F',C',ha',hS',hw',hgr,hk⟩:=hk;refine ⟨C',hS',hw',hgr, ?_⟩;have hk:TR P G ro N ds l E K m (σ++[i]) F' C':=hk;have hc':=hc.set hi;have e:mU l (σ++[i])=(mU l σ).setIfInBounds i true:=tL σ [i];rw[<-e]at hc'⊢;exact hk hsel hdef hc' hS' a' ha'
theorem fZ{σ:List Nat}(hR:Region.ready .any l.toArray (mU l σ)=[])(h:K .normal ds F C):TR P G ro N ds l E K 0 σ F C:=λ_ _ _ hS _ ha=>⟨hR,λ_ hw=>⟨ds,F,C,hS,ha,hw,h⟩⟩
theorem AQ{id:Nat}(E:Oper->Bool)(hm:P.follows .mixedOrders=true)(hsel:Region.noSelect l.toArray=true)(hdef:dz l.toArray=true)(h:TR P G ro N ds l E K l.length [] F C):X P G ro N ds (.region id l.toArray true) F C K:=λhS a w ha hw=>by
 refine wpIn_region_any hm ?_;have hc:Closed .any l.toArray (mU l []):=λj i _ hj=>by
  rcases Nat.lt_or_ge j l.toArray.size with h'|h'
  ·simp at h';simp[mU,gi,h']at hj
  ·simp at h';simp[mU,gi,h']at hj
 exact dQ _ _ _ C _ hS (hS.1 w _ hw ((Below.refl _ w).drew)) (h hsel hdef hc hS a ha)
theorem sp{id:Nat}{y:Code}(E:Oper->Bool)(hm:P.follows .mixedOrders=true)(hsel:Region.noSelect l.toArray=true)(hdef:dz l.toArray=true)(h:TR P G ro N ds l E (pX (λds' F' C'=>X P G ro N ds' y F' C' K) K) l.length [] F C):X P G ro N ds (.seq (.region id l.toArray true) y) F C K:=
 ah (AQ E hm hsel hdef h)
end
theorem mM(n:Nat){t:TypeId}{l:List Value}(hG:BOk G B)(hz: ∀w,(zeroValue t).run P w=.ok (.agg l.toArray) w)(hn:lkB L n=none)(hw:bf ops F ⟨some d,.alloc t,ty,pos,af,gd⟩=some true)(hd:Nat.blt d N=true)
 (h: ∀b,Lx P G ro ops N ds (EE fs) Z rest ((d,pnt b)::F) (Hp B ((n,b,l,t)::L))):Lx P G ro ops N ds (EE fs) Z (⟨some d,.alloc t,ty,pos,af,gd⟩::rest) F (Hp B L):=by
 unfold Lx;rw[show EE fs ⟨some d,.alloc t,ty,pos,af,gd⟩=true from O];intro a w ha hC;refine ⟨ha.want hw,λf _=>dI ro f, ?_⟩;rw[show (FW ro).round=ro from O,Oper.semAt_eq _ _ _ (λ_ h=>by cases h)]
 have e:(execOp a.eval ⟨some d,.alloc t,ty,pos,af,gd⟩).run P w=.ok (.value (pnt w.heap.size)) (w.alloc (.cells l.toArray t)):=by
  simp only[execOp,Instr.alloc,Sem.run_bind,hz,Result.andThen_ok];rfl
 rw[e];exact ⟨_,Hp B ((n,w.heap.size,l,t)::L),ha.putF (d:=some d) hd _,aT hG,hC.alloc hG.r n l t,λ_=>ef hG.r hn,h w.heap.size⟩
end
section
open Go.RowKit
theorem D0(n:Nat){t e:TypeId}{x y:Operand}{m:Nat}{i:TypeInfo}{z:Value}{c:List Value}(hB:BOk G B)(hx:evF F x=some (I (m:Int)))(hy:evF F y=some (I (m:Int)))(hu:P.underlying t=some (.slice e))(hi:P.info? e=some i)(hz:i.zero=some z)
 (hm:m*i.size<=16777216/\i.bytes*m<=281474976710656/\m<=1000000) (hc:(madeCells z.cells (m*i.size)).toList=c) (hw:bf ops F ⟨some d,.makeSlice t x y,ty,pos,af,gd⟩=some true) (hd:Nat.blt d N=true)
 (h: ∀b,Lx P G ro ops N ds (EE fs) Z rest ((d,.slice (spt b) m m)::F) (Hp B ((n,b,c,e)::L))) (hgr:fs.any (Nat.beq 2999995)=false:=by rfl):Lx P G ro ops N ds (EE fs) Z (⟨some d,.makeSlice t x y,ty,pos,af,gd⟩::rest) F (Hp B L):=
 e6 (hgr:=hgr) O hw hd (λ_ h=>by cases h) λa w ha hC=>by
  have hr:=run_makeSlice (P:=P) (w:=w) t e i z hu hi hz .i64 .i64 (m:Int) (m:Int) om (Int.le_refl _) (by rw[Int.toNat_natCast];exact hm.1) (by have:=Int.ofNat_le.2 hm.2.1;rw[Int.natCast_mul]at this;exact this) om
  simp only[Int.toNat_natCast]at hr;refine ⟨.slice (spt w.heap.size) m m,w.alloc (.cells c.toArray e),_,.inl ?_,aT hB,hC.alloc hB.r n c e,h w.heap.size⟩;subst hc;simp only[execOp,ha.ev hx,ha.ev hy,I,Sem.run_bind,hr,Result.andThen_ok];simp
end
section
open Go.RowKit
section
variable {md:Region.Mode} {E:Oper->Bool} {Q:Exit->Act->World->Prop}
end
section
variable {l:List Oper} {E:Oper->Bool} {K:KK}
theorem Pure.sub{G':Cls}{f:FuncId}{vs:List Value}{v:Value}(h:Pure P G f vs v)(hle: ∀w,G' w->G w):Pure P G' f vs v:=λw hw=>h w (hle w hw)
end
end
section
open Go.RowKit
theorem GG{t e:TypeId}{n m cap:Nat}{x:Operand}{ad:Option Addr}(hx:evF F x=some (.slice ad m cap))(hu:P.underlying t=some (.array n e))(hn:n<=m)
 (hw:bf ops F ⟨some d,.sliceToArrayPointer t x,ty,pos,af,gd⟩=some true) (hd:Nat.blt d N=true)
 (h:Lx P G ro ops N ds (EE fs) Z rest ((d,.pointer ad)::F) C):Lx P G ro ops N ds (EE fs) Z (⟨some d,.sliceToArrayPointer t x,ty,pos,af,gd⟩::rest) F C:=
 cO (v:=.pointer ad) O hw hd (λ_ h=>by cases h) (λa w ha _=>by
  simp only[execOp,ha.ev hx];simp[Instr.arrayAt,run_underlying hu,Nat.not_lt.2 hn]) h
end
section
open Go.RowKit
/-! ### Compared -/
def EqF(P:Program)(t:TypeId)(n d0:Nat):Prop:= ∀xs ys:L6,xs.length=n->ys.length=n->∀(d:Nat) (w:World),(Op.equalIn (d+d0) t (bd xs) (bd ys)).run P w=.ok (decide (xs=ys)) w
theorem Du{t e:TypeId}{n:Nat}(hu:P.underlying t=some (.array n e))(he:P.underlying e=some (.int .u64))(hs: ∀w,(sizeOf e).run P w=.ok 1 w)(hag: ∀w,(isAgg e).run P w=.ok false w):EqF P t n 2:=
 λxs ys hl hl' d w=>Lt hu he hs hag xs ys hl hl' d w
theorem js{t:TypeId}{m o:Nat}(hag: ∀w,(isAgg t).run P w=.ok true w)(hs: ∀w,(sizeOf t).run P w=.ok m w)(xs:L6)(w:World):(part t (xs.map U64).toArray o).run P w=.ok (bd ((xs.drop o).take m)) w:=by
 simp only[part,Sem.run_bind,hag,hs,Result.andThen_ok,if_true,Sem.run_pure];congr 2;simp[List.extract_toArray,List.map_take,List.map_drop]
theorem Dz{xs ys:L6}{m n:Nat}(hx:xs.length=m+n)(hy:ys.length=m+n):xs=ys↔((xs.drop 0).take m=(ys.drop 0).take m/\(xs.drop m).take n=(ys.drop m).take n):=by
 constructor
 ·intro h;rw[h];exact ⟨rfl,rfl⟩
 ·rintro ⟨h1,h2⟩
  rw[List.drop_zero,List.drop_zero]at h1;rw[List.take_of_length_le (by rw[List.length_drop];omega),List.take_of_length_le (by rw[List.length_drop];omega)]at h2
  rw[<-List.take_append_drop m xs,<-List.take_append_drop m ys,h1,h2]
theorem Ee{t:TypeId}{f:Field}{n d0:Nat}(hu:P.underlying t=some (.struct #[f]))(h0:f.offset=0)(hn:f.name≠ "_")(hsi:P.stoodInHeld t=false)(hag: ∀w,(isAgg f.type).run P w=.ok true w)(hs: ∀w,(sizeOf f.type).run P w=.ok n w)(he:EqF P f.type n d0):EqF P t n (d0+1):=by
 intro xs ys hx hy d w;rw[show d+(d0+1)=(d+d0)+1 from O,Op.equalIn];simp only[Sem.run_bind,run_underlying hu,Result.andThen_ok];have p1:=js (o:=0) hag hs xs w;have p2:=js (o:=0) hag hs ys w;rw[List.drop_zero,List.take_of_length_le om]at p1 p2;have e:=he xs ys hx hy d w;simp[hsi,hn,h0,p1,p2,e];by_cases h:xs=ys<;>simp[h]
theorem DH{t:TypeId}{f g:Field}{m n d0:Nat}(hu:P.underlying t=some (.struct #[f,g]))(h0:f.offset=0)(h1:g.offset=m)(hn:f.name≠ "_")(hn':g.name≠ "_")(hsi:P.stoodInHeld t=false)
 (hag: ∀w,(isAgg f.type).run P w=.ok true w) (hs: ∀w,(sizeOf f.type).run P w=.ok m w) (he:EqF P f.type m d0) (hag': ∀w,(isAgg g.type).run P w=.ok true w) (hs': ∀w,(sizeOf g.type).run P w=.ok n w) (he':EqF P g.type n d0):EqF P t (m+n) (d0+1):=by
 intro xs ys hx hy d w;rw[show d+(d0+1)=(d+d0)+1 from O,Op.equalIn];simp only[Sem.run_bind,run_underlying hu,Result.andThen_ok];have p1:=js (o:=0) hag hs xs w;have p2:=js (o:=0) hag hs ys w;have p3:=js (o:=m) hag' hs' xs w;have p4:=js (o:=m) hag' hs' ys w;have e1:=he ((xs.drop 0).take m) ((ys.drop 0).take m) (by rw[List.drop_zero,List.length_take];omega) (by rw[List.drop_zero,List.length_take];omega) d w
 have e2:=he' ((xs.drop m).take n) ((ys.drop m).take n) (by rw[List.length_take,List.length_drop];omega) (by rw[List.length_take,List.length_drop];omega) d w
 have i:=Dz hx hy;generalize (xs.drop 0).take m=a1 at*;generalize (ys.drop 0).take m=a2 at*;generalize (xs.drop m).take n=b1 at*;generalize (ys.drop m).take n=b2 at*;simp[hsi,hn,hn',h0,h1,p1,p2,p3,p4,e1,e2];by_cases ha:a1=a2
 ·by_cases hb:b1=b2
  ·simp[ha,hb,i.2 ⟨ha,hb⟩]
  ·simp[ha,hb,show¬xs=ys from λh=>hb (i.1 h).2]
 ·simp[ha,show¬xs=ys from λh=>ha (i.1 h).1]
theorem vU{t:TypeId}{n d0:Nat}(he:EqF P t n d0)(hd:d0<=100)(xs ys:L6)(hl:xs.length=n)(hl':ys.length=n)(w:World):(binOp .eql t (bd xs) (bd ys)).run P w=.ok (.bool (decide (xs=ys))) w:=by
 rw[run_eql_struct,show (10000:Nat)=(10000-d0)+d0 by omega,he xs ys hl hl' (10000-d0) w];rfl
/-! ### Read -/
theorem jX{a b:L6}: ∀j v,(a.map U64)[j]? =some v->((a++b).map U64)[0+j]? =some v:=λj v h=>by
 have hj:j<(a.map U64).length:=by
  rcases Nat.lt_or_ge j (a.map U64).length with h'|h'
  ·exact h'
  ·rw[List.getElem?_eq_none h']at h;cases h
 rw[Nat.zero_add,List.map_append,List.getElem?_append_left hj];exact h
theorem F4{a b:L6}{m:Nat}(hm:a.length=m): ∀j v,(b.map U64)[j]? =some v->((a++b).map U64)[m+j]? =some v:=λj v h=>by
 rw[List.map_append,List.getElem?_append_right (by rw[List.length_map];omega),List.length_map,hm,Nat.add_sub_cancel_left];exact h
theorem zG{a b c:L6}(h:c.length=a.length):lay 0 (c.map U64) ((a++b).map U64)=(c++b).map U64:=by
 apply List.ext_getElem?;intro m;rw[i1 _ _ _ _ (by simp;omega)]
 simp only[List.map_append,List.getElem?_append,List.length_map,Nat.zero_le,true_and,Nat.zero_add,Nat.sub_zero,h];by_cases hm:m<a.length
 ·simp[hm]
 ·simp[hm]
theorem EM{a b c:L6}{m:Nat}(hm:a.length=m)(h:c.length=b.length):lay m (c.map U64) ((a++b).map U64)=(a++c).map U64:=by
 apply List.ext_getElem?;intro k;rw[i1 _ _ _ _ (by simp;omega)]
 simp only[List.map_append,List.getElem?_append,List.length_map,h,hm];by_cases hk:k<m
 ·simp[hk,show¬m<=k by omega]
 ·by_cases hk2:k<m+b.length
  ·simp[hk,hk2,show m<=k by omega]
  ·rw[if_neg om,if_neg hk,if_neg hk,List.getElem?_eq_none (by simp;omega),List.getElem?_eq_none (by simp;omega)]
/-! ### Built -/
theorem cP{t:TypeId}{fields:Array Field}{ps:Array (Nat×Nat)}{c out:List Value}(hz: ∀w,(zeroValue t).run P w=.ok (.agg c.toArray) w)(hu:P.underlying t=some (.struct fields))
 (hm: ∀w,(Array.mapM (λf=>Prod.mk f.offset<$>sizeOf f.type) fields:Sem _).run P w=.ok ps w) (parts:List (Nat×Value)) (hf:Instr.fill (λi=>ps[i]?) c.toArray parts=some out.toArray) (w:World):
 (Instr.build t parts.toArray).run P w=.ok (.agg out.toArray) w:=by
 have hm':(Array.mapM (λf=>do let x<-sizeOf f.type;pure (f.offset,x)) fields:Sem _).run P w=.ok ps w:=hm w
 simp only[Instr.build,hz,run_underlying hu,Sem.run_bind,Result.andThen_ok];rw[hm',Result.andThen_ok];rw[show (Value.agg c.toArray).cells=c.toArray from O,hf];rfl
theorem lS{f g:Field}{m n:Nat}(h0:f.offset=0)(h1:g.offset=m)(hs: ∀w,(sizeOf f.type).run P w=.ok m w)(hs': ∀w,(sizeOf g.type).run P w=.ok n w)(w:World):
 (Array.mapM (λf=>Prod.mk f.offset<$>sizeOf f.type) #[f,g]:Sem _).run P w=.ok #[(0,m),(m,n)] w:=by
 simp[hs,hs',h0,h1]
section
variable {t:TypeId} {f g:Field} {m n:Nat} {za zb:L6}
theorem CY(h0:f.offset=0)(h1:g.offset=m)(hs: ∀w,(sizeOf f.type).run P w=.ok m w)(hs': ∀w,(sizeOf g.type).run P w=.ok n w)(hu:P.underlying t=some (.struct #[f,g]))
 (hz: ∀w,(zeroValue t).run P w=.ok (bd (za++zb)) w) (hza:za.length=m) (hzb:zb.length=n) {a b:L6} (ha:a.length=m) (hb:b.length=n) (w:World):
 (Instr.build t #[(0,bd a),(1,bd b)]).run P w=.ok (bd (a++b)) w:=
 cP (c:=(za++zb).map U64) hz hu (lS h0 h1 hs hs') [(0,bd a),(1,bd b)] (by
  rw[fS (off:=0) (size:=m) (vs:=a.map U64) O (by simp[ha]) (by simp;omega),zG om,fS (off:=m) (size:=n) (vs:=b.map U64) O (by simp[hb]) (by simp;omega),EM ha om]
  rfl) w
theorem yC(h0:f.offset=0)(h1:g.offset=m)(hs: ∀w,(sizeOf f.type).run P w=.ok m w)(hs': ∀w,(sizeOf g.type).run P w=.ok n w)(hu:P.underlying t=some (.struct #[f,g]))
 (hz: ∀w,(zeroValue t).run P w=.ok (bd (za++zb)) w) (hza:za.length=m) (hzb:zb.length=n) {a:L6} (ha:a.length=m) (w:World):
 (Instr.build t #[(0,bd a)]).run P w=.ok (bd (a++zb)) w:=
 cP (c:=(za++zb).map U64) hz hu (lS h0 h1 hs hs') [(0,bd a)] (by
  rw[fS (off:=0) (size:=m) (vs:=a.map U64) O (by simp[ha]) (by simp;omega),zG om]
  rfl) w
structure Two(P:Program)(t:TypeId)(f g:Field)(m n:Nat)(za zb:L6):Prop where
 u:P.underlying t=some (.struct #[f,g])
 h0:f.offset=0
 h1:g.offset=m
 s0: ∀w,(sizeOf f.type).run P w=.ok m w
 s1: ∀w,(sizeOf g.type).run P w=.ok n w
 z: ∀w,(zeroValue t).run P w=.ok (bd (za++zb)) w
 la:za.length=m
 lb:zb.length=n
theorem nf(q:Two P t f g m n za zb){x y:Operand}{a b:L6}(hx:evF F x=some (bd a))(hy:evF F y=some (bd b))(ha:a.length=m)(hb:b.length=n)
 (hw:bf ops F ⟨some d,.build t #[(0,x),(1,y)],ty,pos,af,gd⟩=some true) (hd:Nat.blt d N=true)
 (h:Lx P G ro ops N ds (EE fs) Z rest ((d,bd (a++b))::F) C):Lx P G ro ops N ds (EE fs) Z (⟨some d,.build t #[(0,x),(1,y)],ty,pos,af,gd⟩::rest) F C:=
 ce (ps:=[(0,x),(1,y)]) (vs:=[bd a,bd b]) (by simp[evL,hx,hy]) (λw=>CY q.h0 q.h1 q.s0 q.s1 q.u q.z q.la q.lb ha hb w) hw hd h
theorem wB(q:Two P t f g m n za zb){x:Operand}{a:L6}(hx:evF F x=some (bd a))(ha:a.length=m)
 (hw:bf ops F ⟨some d,.build t #[(0,x)],ty,pos,af,gd⟩=some true) (hd:Nat.blt d N=true)
 (h:Lx P G ro ops N ds (EE fs) Z rest ((d,bd (a++zb))::F) C):Lx P G ro ops N ds (EE fs) Z (⟨some d,.build t #[(0,x)],ty,pos,af,gd⟩::rest) F C:=
 ce (ps:=[(0,x)]) (vs:=[bd a]) (by simp[evL,hx]) (λw=>yC q.h0 q.h1 q.s0 q.s1 q.u q.z q.la q.lb ha w) hw hd h
end
end
section
open Go.RowKit
/-! ### Rows of twelve -/
def FM(f:Nat->L6)(n:Nat):L6:=(List.range (12*n)).map λm=>(f (m / 12)).getD (m % 12) 0
theorem jH(f:Nat->L6)(n:Nat):(FM f n).length=12*n:=by rw[FM,List.length_map,List.length_range]
end
section
open Go.RowKit
section
variable {K:KK}
theorem H4{x y:Code}{ι:Type}(Fm:ι->Fr)(Lm:ι->Hl)(hG:BOk G B)
 (h1:X P G ro N ds x F C (pX (λds' F' C'=>ds'=ds/\∃j L',C'=Hp B L'/\ph F' (Fm j)/\kV L' (Lm j)) K))
 (h2: ∀j,X P G ro N ds y (Fm j) (Hp B (Lm j)) K):X P G ro N ds (.seq x y) F C K:=
 ah (h1.mono λe ds' F' C' hk=>by
  cases e with
  |normal=>
   obtain ⟨rfl,j,L',rfl,a,b⟩:=hk;exact JM (Fm j) (Lm j) hG a b (h2 j)
  |_=>exact hk)
end
end
section
open Go.RowKit
abbrev Trow:=Nat×List Nat×List Nat
section
variable {l:List Oper} {E:Oper->Bool} {T:List Trow}
end
section
variable {K:KK}
end
end
section
open Go.RowKit
/-! ### Read, written -/
theorem kk{a b c:L6}{m:Nat}(hm:a.length=m): ∀j v,(b.map U64)[j]? =some v->((a++(b++c)).map U64)[m+j]? =some v:=λj v h=>F4 hm j v (by have:=jX (b:=c) j v h;rw[Nat.zero_add]at this;exact this)
theorem dM{a b c:L6}{m n k:Nat}(hm:a.length=m)(hn:b.length=n)(hk:m+n=k): ∀j v,(c.map U64)[j]? =some v->((a++(b++c)).map U64)[k+j]? =some v:=λj v h=>by
 rw[<-hk,Nat.add_assoc];exact F4 hm (n+j) v (F4 hn j v h)
theorem Io{a b c d:L6}{m:Nat}(hm:a.length=m)(h:d.length=b.length):lay m (d.map U64) ((a++(b++c)).map U64)=(a++(d++c)).map U64:=by
 apply List.ext_getElem?;intro k;rw[i1 _ _ _ _ (by simp;omega)]
 simp only[List.map_append,List.getElem?_append,List.length_map,h,hm];by_cases hk:k<m
 ·simp[hk,show¬m<=k by omega]
 ·by_cases hk2:k<m+b.length
  ·simp[hk,hk2,show m<=k by omega,show k-m<b.length by omega]
  ·rw[if_neg om,if_neg hk,if_neg hk,if_neg om,if_neg om]
theorem Gk{a b c d:L6}{m n k:Nat}(hm:a.length=m)(hn:b.length=n)(hk:m+n=k)(h:d.length=c.length):lay k (d.map U64) ((a++(b++c)).map U64)=(a++(b++d)).map U64:=by
 have e:=EM (a:=a++b) (b:=c) (c:=d) (m:=k) (by rw[List.length_append,hm,hn,hk]) h
 rw[List.append_assoc,List.append_assoc]at e;exact e
/-! ### Built -/
theorem oy{f g h:Field}{m:Nat}(h0:f.offset=0)(h1:g.offset=m)(h2:h.offset=m+m)(hs: ∀w,(sizeOf f.type).run P w=.ok m w)(hs': ∀w,(sizeOf g.type).run P w=.ok m w)(hs'': ∀w,(sizeOf h.type).run P w=.ok m w)(w:World):
 (Array.mapM (λf=>Prod.mk f.offset<$>sizeOf f.type) #[f,g,h]:Sem _).run P w=.ok #[(0,m),(m,m),(m+m,m)] w:=by
 simp[hs,hs',hs'',h0,h1,h2]
structure Three(P:Program)(t:TypeId)(f g h:Field)(m:Nat)(za zb zc:L6):Prop where
 u:P.underlying t=some (.struct #[f,g,h])
 h0:f.offset=0
 h1:g.offset=m
 h2:h.offset=m+m
 s0: ∀w,(sizeOf f.type).run P w=.ok m w
 s1: ∀w,(sizeOf g.type).run P w=.ok m w
 s2: ∀w,(sizeOf h.type).run P w=.ok m w
 z: ∀w,(zeroValue t).run P w=.ok (bd (za++(zb++zc))) w
 la:za.length=m
 lb:zb.length=m
 lc:zc.length=m
section
variable {t:TypeId} {f g h:Field} {m:Nat} {za zb zc:L6}
theorem gr(q:Three P t f g h m za zb zc)(hw:bf ops F ⟨some d,.build t #[],ty,pos,af,gd⟩=some true)(hd:Nat.blt d N=true)
 (k:Lx P G ro ops N ds (EE fs) Z rest ((d,bd (za++(zb++zc)))::F) C):Lx P G ro ops N ds (EE fs) Z (⟨some d,.build t #[],ty,pos,af,gd⟩::rest) F C:=
 iA q.z q.u (λw=>⟨_,oy q.h0 q.h1 q.h2 q.s0 q.s1 q.s2 w⟩) hw hd k
theorem rc(q:Three P t f g h m za zb zc){a:L6}(ha:a.length=m){b:L6}(hb:b.length=m){c:L6}(hc:c.length=m)(w:World):(Instr.build t [(0,bd a),(1,bd b),(2,bd c)].toArray).run P w=.ok (bd (a++(b++c))) w:=
 cP (c:=(za++(zb++zc)).map U64) q.z q.u (oy q.h0 q.h1 q.h2 q.s0 q.s1 q.s2) [(0,bd a),(1,bd b),(2,bd c)] (by
  rw[fS (off:=0) (size:=m) (vs:=a.map U64) O (by simp[ha]) (by simp[q.la,q.lb,q.lc,ha];try omega),zG (by rw[q.la,ha]),fS (off:=m) (size:=m) (vs:=b.map U64) O (by simp[hb]) (by simp[ha,q.lb,q.lc,hb];try omega),Io ha (by rw[q.lb,hb]),fS (off:=m+m) (size:=m) (vs:=c.map U64) O (by simp[hc]) (by simp[ha,hb,q.lc,hc];try omega),Gk ha hb O (by rw[q.lc,hc])]
  rfl) w
theorem ek(q:Three P t f g h m za zb zc){x0 x1 x2:Operand}{a b c:L6}(hx0:evF F x0=some (bd a))(hx1:evF F x1=some (bd b))(hx2:evF F x2=some (bd c))(ha:a.length=m)(hb:b.length=m)(hc:c.length=m)
 (hw:bf ops F ⟨some d,.build t #[(0,x0),(1,x1),(2,x2)],ty,pos,af,gd⟩=some true) (hd:Nat.blt d N=true)
 (k:Lx P G ro ops N ds (EE fs) Z rest ((d,bd (a++(b++c)))::F) C):Lx P G ro ops N ds (EE fs) Z (⟨some d,.build t #[(0,x0),(1,x1),(2,x2)],ty,pos,af,gd⟩::rest) F C:=
 ce (ps:=[(0,x0),(1,x1),(2,x2)]) (vs:=[bd a,bd b,bd c]) (by simp[evL,hx0,hx1,hx2]) (λw=>rc q ha hb hc w) hw hd k
end
/-! ### Arrays of rows, compared -/
end
section
open Go.RowKit
end
section
open Go.RowKit
section
variable {K:KK}
def xJ:Hl:=[(0,0,[],0),(1,0,[],0)]
theorem uY{Y:Nat->Prop}{w:World}(h:Hq B xJ Y w):False:=by
 have:=h.inj 0 1 0 [] 0 [] 0 O O;omega
theorem tW{ro:Option Nat}{c:Code}(h: ∀w,Hp B L w->False):X P G ro N ds c F (Hp B L) K:=λ_ _ w _ hC=>(h w hC).elim
def LkQ(Q:Nat->Prop) [DecidablePred Q](Lk:Nat->Hl)(k:Nat):Hl:=if Q k then Lk k else xJ
theorem KF{Q:Nat->Prop} [DecidablePred Q]{Lk:Nat->Hl}{k:Nat}(h:Q k)(hs:kV L (Lk k)):kV L (LkQ Q Lk k):=by rw[LkQ,if_pos h];exact hs
theorem BC(Q:Nat->Prop) [DecidablePred Q]{g:Operand}{ps:List Nat}{assign body:Code}{gf:Nat}{caps:List Value}{xs:List (List Value)}{Rd:Cls}(Bk:Nat->Bs)(Be:Code->Nat->Bs)(hBk: ∀k,BOk G (Bk k))(hBe: ∀c k,BOk G (Be c k))(hw0: ∀k,(Bk k).w0=B.w0)(hwe: ∀c k,(Be c k).w0=B.w0)
 (hBB:Bk 0=B) (hg:evF F g=some (.func (.func gf) #[] caps.toArray)) (he:aJ P gf) (hseq:ju P G gf caps xs Rd)
 (hps: ∀x∈xs,x.length=ps.length) (hpN:ps.all (Nat.blt · N)=true) (Lk:Nat->Hl) (Ext:Code->Nat->Hl->Prop) (hq0:Q 0) (h0:kV L (Lk 0)) (hRd: ∀k Y w,Hq (Bk k) (Lk k) Y w->Rd w)
 (hround: ∀(k:Nat) (x:List Value),xs[k]? =some x->Q k->∀R:Rnd,R.Ok G B.w0->X P G (some R.l) N [] assign (jf ps x F) (Hp (R.a (Bk k)) (Lk k)) (LK P G N body R Bk Be (LkQ Q Lk) Ext k))
 (hdone:Q xs.length->∀D,BOk G (B2 (Bk xs.length) D)->K .normal (mkD D::ds) F (Hp (B2 (Bk xs.length) D) (Lk xs.length)))
 (hbad: ∀D,(∀w,Hp (B2 (Bk xs.length) D) xJ w->False)->K .normal (mkD D::ds) F (Hp (B2 (Bk xs.length) D) xJ))
 (hleave: ∀D c k L',BOk G (B2 (Be c k) D)->Ext c k L'->JU K c (mkD D::ds) F (Hp (B2 (Be c k) D) L')):X P G none N ds (.rangeFunc g ps.toArray assign body) F (Hp B L) K:=by
 refine jL Bk Be hBk hBe hw0 hwe hBB hg he hseq hps hpN (LkQ Q Lk) Ext (KF hq0 h0) (λk Y w h=> ?_) (λk x hx R hR=> ?_) (λD hD=> ?_) hleave
 ·rw[LkQ]at h
  by_cases hq:Q k
  ·rw[if_pos hq]at h;exact hRd k Y w h
  ·rw[if_neg hq]at h;exact (uY h).elim
 ·by_cases hq:Q k
  ·rw[show LkQ Q Lk k=Lk k from if_pos hq];exact hround k x hx hq R hR
  ·rw[show LkQ Q Lk k=xJ from if_neg hq];exact tW λw h=>uY h
 ·by_cases hq:Q xs.length
  ·rw[show LkQ Q Lk xs.length=Lk xs.length from if_pos hq];exact hdone hq D hD
  ·rw[show LkQ Q Lk xs.length=xJ from if_neg hq];exact hbad D λw h=>uY h
end
end
section
open Go.RowKit
/-! ### Rows of any width -/
def RW{bw:Nat}(s:Nat)(f:Nat->List (BitVec bw))(n:Nat):List (BitVec bw):=(List.range (s*n)).map λm=>(f (m / s)).getD (m % s) 0
section
variable {s bw:Nat} {uf:BitVec bw->Value}
theorem m4(f:Nat->List (BitVec bw))(n:Nat):(RW s f n).length=s*n:=by rw[RW,List.length_map,List.length_range]
theorem sg(f:Nat->List (BitVec bw))(n m:Nat)(h:m<s*n):(RW s f n)[m]? =some ((f (m / s)).getD (m % s) 0):=by
 rw[RW,List.getElem?_map,List.getElem?_range h];rfl
theorem wK{k j:Nat}(hj:j<s):(s*k+j) / s=k:=by
 rw[Nat.mul_add_div om,Nat.div_eq_of_lt hj,Nat.add_zero]
theorem vV{k j:Nat}(hj:j<s):(s*k+j) % s=j:=by rw[Nat.mul_add_mod,Nat.mod_eq_of_lt hj]
theorem BH{f g:Nat->List (BitVec bw)}{n:Nat}(h: ∀i,i<n->f i=g i):RW s f n=RW s g n:=by
 unfold RW;refine List.map_congr_left λm hm=> ?_;rw[List.mem_range]at hm;rw[h (m / s) (Nat.div_lt_of_lt_mul hm)]
theorem HB(f:Nat->List (BitVec bw))(n k:Nat)(g:List (BitVec bw))(hk:k<n)(hg:g.length=s)(o:Nat)(ho:o=s*k):lay o (g.map uf) ((RW s f n).map uf)=(RW s (λi=>if i=k then g else f i) n).map uf:=by
 have hin:s*k+s<=s*n:=by rw[<-Nat.mul_succ];exact Nat.mul_le_mul_left s hk
 apply List.ext_getElem?;intro m;rw[i1 _ _ _ _ (by rw[List.length_map,List.length_map,m4,hg];omega)]
 rw[List.length_map,hg,List.getElem?_map (l:=RW s (λi=>if i=k then g else f i) n)]
 by_cases hm:m<s*n
 ·rw[sg _ n m hm]
  by_cases h:o<=m/\m<o+s
  ·have e:m=s*k+(m-o):=om
   have hj:m-o<s:=om;have e1:m / s=k:=by rw[e];exact wK hj
   have e2:m % s=m-o:=by
    have:=vV (k:=k) hj;rw[<-e]at this;exact this
   rw[if_pos h,e1,if_pos O,e2,List.getElem?_map,List.getElem?_eq_getElem om,List.getD_eq_getElem?_getD,List.getElem?_eq_getElem om];rfl
  ·have e1: ¬m / s=k:=λe=>by
    have h0:0<s:=by
     rcases Nat.eq_zero_or_pos s with h0|h0
     ·subst h0;omega
     ·exact h0
    have h1:=Nat.div_add_mod m s;have h2:=Nat.mod_lt m h0;rw[e]at h1;omega
   rw[if_neg h,if_neg e1,List.getElem?_map,sg f n m hm]
 ·rw[if_neg om,List.getElem?_map,List.getElem?_eq_none (by rw[m4];omega),List.getElem?_eq_none (by rw[m4];omega)]
/-! ### Made -/
def GR(f:Nat->List (BitVec bw)):List Nat->(Nat->List (BitVec bw))->Nat->List (BitVec bw)
 |[],g=>g
 |i::r,g=>GR f r (λj=>if j=i then f i else g j)
theorem vX(f:Nat->List (BitVec bw)): ∀(is:List Nat) (g:Nat->List (BitVec bw)) (j:Nat),j∈is\/g j=f j->GR f is g j=f j
 |[],_,_,h=>h.elim (λh=>by cases h) id
 |i::r,g,j,h=>by
  refine vX f r _ j ?_;by_cases hj:j=i
  ·right;rw[if_pos hj,hj]
  ·rcases h with h|h
   ·left
    rcases List.mem_cons.1 h with h|h
    ·exact absurd h hj
    ·exact h
   ·right;rw[if_neg hj,h]
theorem EN(f:Nat->List (BitVec bw))(n:Nat)(hf: ∀i,i<n->(f i).length=s): ∀(is:List Nat) (g:Nat->List (BitVec bw)),(∀i∈is,i<n)->
 Instr.fill (λi=>some (i*s,s)) ((RW s g n).map uf).toArray (is.map λi=>(i,.agg ((f i).map uf).toArray))=some ((RW s (GR f is g) n).map uf).toArray
 |[],_,_=>rfl
 |i::r,g,h=>by
  have hi:=h i aB;have hin:s*i+s<=s*n:=by rw[<-Nat.mul_succ];exact Nat.mul_le_mul_left s hi
  rw[List.map_cons,fS (off:=i*s) (size:=s) (vs:=(f i).map uf) O (by rw[List.length_map,hf i hi]) (by rw[List.length_map,List.length_map,m4,hf i hi,Nat.mul_comm i];omega),HB g n i (f i) hi (hf i hi) (i*s) (Nat.mul_comm _ _)]
  exact EN f n hf r _ λj hj=>h j (by simp[hj])
end
section
variable {s bw:Nat} {uf:BitVec bw->Value}
end
/-! ### Rows within rows -/
end
section
open Go.RowKit
def OwnW(L:Hl)(n:Nat)(e:TypeId)(s:Nat)(a0:Option Addr)(cap nx:Nat)(xs:List Value):Prop:=
 (a0=none/\xs=[]/\nx=0/\cap=0)\/∃b c,a0=some ⟨b,0,none⟩/\lkB L n=some (b,c,e)/\c.length=cap*s/\nx<=cap/\xs.length=nx*s/\c.take xs.length=xs
theorem zW(L:Hl)(n:Nat)(e:TypeId)(s:Nat):OwnW L n e s none 0 0 []:=.inl ⟨rfl,rfl,rfl,rfl⟩
theorem OwnW.len{L:Hl}{n:Nat}{e:TypeId}{s:Nat}{a0:Option Addr}{cap nx:Nat}{xs:List Value}(h:OwnW L n e s a0 cap nx xs):xs.length=nx*s:=by
 rcases h with ⟨_,rfl,rfl,_⟩|⟨_,_,_,_,_,_,h,_⟩
 ·simp
 ·exact h
theorem lj(n:Nat){t tx e e':TypeId}{x y:Operand}{a0:Option Addr}{s cap nx ny sb so sc by_:Nat}{xs ys:List Value}{z:Value}(hB:BOk G B)(hx:evF F x=some (.slice a0 nx cap))(hy:evF F y=some (.slice (some ⟨sb,so,none⟩) ny sc))
 (hu:P.underlying t=some (.slice e)) (hux:P.underlying tx=some (.slice e')) (hi:TI P e z s by_) (hz1:z.cells.size=s) (hown:OwnW L n e s a0 cap nx xs) (hly:ys.length=ny*s) (hsrc: ∀w,Hp B L w->w.rangeAt sb so ys) (hone:ys.all (·.oneCell')=true) (hne:0<ny) (hlen:(nx+ny)*by_<=140737488355328) (h63:nx+ny<=4611686018427387904)
 (hw:bf ops F ⟨some d,.call {callee:=.builtin .append,args:= #[x,y],argTypes:= #[t,tx]},ty,pos,af,gd⟩=some true) (hd:Nat.blt d N=true)
 (h: ∀b c cap1,c.length=cap1*s->nx+ny<=cap1->c.take (xs++ys).length=xs++ys->Lx P G ro ops N ds (EE fs) Z rest ((d,.slice (spt b) (nx+ny) cap1)::F) (Hp B ((n,b,c,e)::L)))
 (hgr:fs.any (Nat.beq 2999997)=false:=by rfl):
 Lx P G ro ops N ds (EE fs) Z (⟨some d,.call {callee:=.builtin .append,args:= #[x,y],argTypes:= #[t,tx]},ty,pos,af,gd⟩::rest) F (Hp B L):=by
 have hlx:=hown.len;obtain ⟨i,hi,hz,hsz,hby⟩:=hi;refine e6 (hgr:=hgr) O hw hd (λ_ h=>by cases h) λa w ha hC=> ?_
 have hs:Src P i.size tx (.slice (some ⟨sb,so,none⟩) ny sc) ny ys w:=by
  rw[hsz];exact Src.ofSlice w hux ⟨sb,so,none⟩ ny sc ys hly (λj u hu=>by rw[Addr.add_mid];exact hsrc w hC j u hu) (λu hu=>List.all_eq_true.1 hone u hu)
 have run: ∀{v:Value} {w':World},(Builtin.append_ #[t,tx] ty #[.slice a0 nx cap,.slice (some ⟨sb,so,none⟩) ny sc]).run P w=.ok v w'->
  (execOp a.eval ⟨some d,.call {callee:=.builtin .append,args:= #[x,y],argTypes:= #[t,tx]},ty,pos,af,gd⟩).run P w=.ok (.value v) w':=λ{v w'} hr=>by
  simp only[execOp,resolve,invoke,builtin,Sem.run_bind,Sem.run_pure,Result.andThen_ok,List.map_toArray,List.map_cons,List.map_nil,ha.ev hx,ha.ev hy,hr]
 have len1:(xs++ys).length=(nx+ny)*s:=by rw[List.length_append,hlx,hly,Nat.add_mul]
 rcases Nat.lt_or_ge cap (nx+ny)with hg|hroom
 ·have hold:(Builtin.firstCells i.size nx (.slice a0 nx cap)).run P w.drew=.ok xs.toArray w.drew:=by
   rcases hown with ⟨rfl,rfl,rfl,rfl⟩|⟨b,c,rfl,hl,hc,hle,_,ht⟩
   ·exact run_firstCells_none _ _ _ _ _
   ·refine run_firstCells_some _ _ _ _ _ _ _ (by rw[hsz];exact hlx) (λj v hv=> ?_)
    rw[Addr.add_mid,Nat.zero_add];have hcj:c[j]? =some v:=by
     have:(c.take xs.length)[j]? =some v:=by rw[ht];exact hv
     rw[List.getElem?_take]at this;split at this
     ·exact this
     ·cases this
    exact dw hl hcj w hC
  have hr:=run_append_grow_src (P:=P) w t tx ty e i z hu hi hz a0 nx cap xs hold (.slice (some ⟨sb,so,none⟩) ny sc) ny ys hs hg om (by rw[hby];exact growslice_fits hg hlen)
  have hge:=grownCap_ge w (nx+ny) cap e;obtain ⟨cc,hcc⟩: ∃cc,xs++ys++(Builtin.zeroCells z.cells (grownCap w (nx+ny) cap e-(nx+ny))).toList=cc:=⟨_,rfl⟩;have hcl:cc.length=grownCap w (nx+ny) cap e*s:=by
   rw[<-hcc,List.length_append,len1,Array.length_toList,size_zeroCells,hz1];obtain ⟨r,hr⟩:=Nat.exists_eq_add_of_le hge;rw[hr,Nat.add_sub_cancel_left,Nat.add_mul (nx+ny)]
  have hct:cc.take (xs++ys).length=xs++ys:=by rw[<-hcc,List.take_append_of_le_length aB,List.take_of_length_le aB]
  have harr:(xs++ys).toArray++Builtin.zeroCells z.cells (grownCap w (nx+ny) cap e-(nx+ny))=cc.toArray:=by
   rw[<-hcc];apply Array.ext';simp
  rw[harr]at hr;exact ⟨_,_,_,.inl (run hr),aT hB,(hC.grow hB.r ((Below.refl _ w).drew)).alloc hB.r n cc e,h w.heap.size cc _ hcl hge hct⟩
 ·rcases hown with ⟨rfl,rfl,rfl,rfl⟩|⟨b,c,rfl,hl,hc,hle,_,ht⟩
  ·exfalso;omega
  ·have hb:=(hC.own n b c e hl).1
   have hin:nx*s+ys.length<=c.length:=by rw[hly,hc,<-Nat.add_mul];exact Nat.mul_le_mul_right s hroom
   have hr:=run_append_room_src (P:=P) w t tx ty e i hu hi b 0 nx cap (.slice (some ⟨sb,so,none⟩) ny sc) ny ys hs hroom
    (λj hj=>by rw[dw hl (List.getElem?_eq_getElem (by rw[hsz];omega)) w hC];rfl) (λj hj=>hb.frozen (by rw[hsz];omega))
   rw[hsz,show 0+nx*s=xs.length from by rw[hlx,Nat.zero_add]]at hr
   refine ⟨_,_,_,.inl (run hr),aT hB,Hq.lays hB.r ys hC hl xs.length, ?_⟩;exact h b (lay xs.length ys c) cap (by rw[fu];exact hc) hroom (by rw[List.length_append];exact mI xs ys c (by rw[hlx];exact hin) ht)
theorem iC(n:Nat)(row:List Value){t e:TypeId}{s:Nat}{z:Value}{x:Operand}(hB:BOk G B)(hx:evF F x=some (.agg row.toArray))(hr:row.length=s)(h0:0<s)(hl:s<=16777216)(hu:P.underlying t=some (.slice e))
 (hs: ∀w,(sizeOf e).run P w=.ok s w) (hz: ∀w,(zeroValue e).run P w=.ok z w) (hw:bf ops F ⟨some d,.buildSlice t 1 #[(0,x)],ty,pos,af,gd⟩=some true) (hd:Nat.blt d N=true)
 (h: ∀b,Lx P G ro ops N ds (EE fs) Z rest ((d,.slice (spt b) 1 1)::F) (Hp B ((n,b,row,e)::L)))
 (hgr:fs.any (Nat.beq 2999998)=false:=by rfl):Lx P G ro ops N ds (EE fs) Z (⟨some d,.buildSlice t 1 #[(0,x)],ty,pos,af,gd⟩::rest) F (Hp B L):=by
 refine e6 (hgr:=hgr) O hw hd (λ_ h=>by cases h) λa w ha hC=> ?_
 refine ⟨.slice (spt w.heap.size) 1 1,w.alloc (.cells row.toArray e),_,.inl ?_,aT hB,hC.alloc hB.r n row e,h w.heap.size⟩;have e1:((#[(0,x)]:Array (Nat×Operand)).map λ(i,x)=>(i,a.eval x))= #[(0,.agg row.toArray)]:=by simp[ha.ev hx]
 have hf:=fS (place:=λi=>some (i*s,s)) (i:=0) (off:=0) (size:=s) (vs:=row) (c:=((Array.range (1*s)).map (z.cells[· % z.cells.size]!)).toList) aB hr (by simp[hr]) []
 rw[dg _ _ (by simp[hr]),Array.toArray_toList]at hf
 have hlt: ¬(1*s>2^24):=om;have h00: ¬(1*s=0):=om;show ((do pure (.value (<-Instr.buildSlice t 1 ((#[(0,x)]:Array (Nat×Operand)).map λ(i,x)=>(i,a.eval x)))):Sem Next)).run P w=_
 rw[e1];have hb:(Instr.buildSlice t 1 #[(0,.agg row.toArray)]).run P w=.ok (.slice (spt w.heap.size) 1 1) (w.alloc (.cells row.toArray e)):=by
  simp only[Instr.buildSlice,Sem.run_bind,run_underlying hu,Result.andThen_ok,hs,if_neg hlt,if_neg h00,hz,Sem.run_pure,hf];simp[newRow,Instr.fill]
 simp only[Sem.run_bind,hb,Result.andThen_ok];rfl
end
section
open Go.RowKit
theorem nY{E:Oper->Bool}{o:Oper}(hE:E o=true)(hw:bf ops F o=some true)(hd:iX N o.dst=true)(hnd: ∀c,o.op≠ .defer c)
 (h: ∀a w,Has N ds F a->C w->∃v w' C',((execOp a.eval o).run P w=.ok (.value v) w'\/((execOp a.eval o).run P w=.ok .skip w'/\v=undef))/\dv G C'/\C' w'/\(∀w,C' w->C w)/\Lx P G ro ops N ds E Z rest (putF o.dst v F) C'):
 Lx P G ro ops N ds E Z (o::rest) F C:=by
 unfold Lx;rw[hE];intro a w ha hC;obtain ⟨v,w',C',hr,hS,hw',hn,hk⟩:=h a w ha hC;refine ⟨ha.want hw,λf _=>dI ro f, ?_⟩;rw[show (FW ro).round=ro from O,Oper.semAt_eq _ _ _ hnd];rcases hr with hr|⟨hr,rfl⟩
 ·rw[hr];exact ⟨_,C',ha.putF hd v,hS,hw',λ_=>hn,hk⟩
 ·rw[hr];exact ⟨_,C',ha.putF hd _,hS,hw',λ_=>hn,hk⟩
theorem kt(n:Nat)(xs:L8){t e:TypeId}{len:Nat}{ps:List (Nat×Operand)}(hB:BOk G B)(hfr:lkB L n=none)(hx:evL F (ps.map (·.2))=some (xs.map U8))(hi:ps.map (·.1)=List.range len)(hn:xs.length=len)(hl:len<=16777216)(h0:len≠0)(hu:P.underlying t=some (.slice e))
 (hs: ∀w,(sizeOf e).run P w=.ok 1 w) (hz: ∀w,(zeroValue e).run P w=.ok (.int .u8 0) w) (hw:bf ops F ⟨some d,.buildSlice t len ps.toArray,ty,pos,af,gd⟩=some true) (hd:Nat.blt d N=true)
 (h: ∀b,Lx P G ro ops N ds (EE fs) Z rest ((d,.slice (spt b) xs.length xs.length)::F) (Hp B ((n,b,xs.map U8,e)::L))):Lx P G ro ops N ds (EE fs) Z (⟨some d,.buildSlice t len ps.toArray,ty,pos,af,gd⟩::rest) F (Hp B L):=by
 refine nY O hw hd (λ_ h=>by cases h) λa w ha hC=> ?_
 refine ⟨.slice (spt w.heap.size) xs.length xs.length,w.alloc (.cells (xs.map U8).toArray e),_,.inl ?_,aT hB,hC.alloc hB.r n (xs.map U8) e,ef hB.r hfr,h w.heap.size⟩;have e1:(ps.toArray.map λ(i,x)=>(i,a.eval x))=((List.range len).zip (xs.map U8)).toArray:=by
  rw[<-hi,<-ha.evL hx,List.map_toArray,List.map_map,List.zip_map'];rfl
 have hz1:(Value.int .u8 0).cells= #[Value.int .u8 0]:=rfl;have hf:=j2 (xs.map U8) 0 ((Array.range (len*1)).map ((Value.int .u8 0).cells[· % (Value.int .u8 0).cells.size]!)).toList (by simp[hn]) (bp xs)
 rw[dg _ _ (by simp[hn]),<-List.range_eq_range',List.length_map,hn]at hf
 simp only[Array.toArray_toList]at hf;have hlt: ¬(len*1>2^24):=om;show ((do pure (.value (<-Instr.buildSlice t len (ps.toArray.map λ(i,x)=>(i,a.eval x)))):Sem Next)).run P w=_
 rw[e1];have hb:(Instr.buildSlice t len ((List.range len).zip (xs.map U8)).toArray).run P w=.ok (.slice (spt w.heap.size) len len) (w.alloc (.cells (xs.map U8).toArray e)):=by
  have h00: ¬(len*1=0):=om;simp only[Instr.buildSlice,Sem.run_bind,run_underlying hu,Result.andThen_ok,hs,if_neg hlt,if_neg h00,hz,Sem.run_pure,hf];simp[newRow]
 rw[hn];simp only[Sem.run_bind,hb,Result.andThen_ok];rfl
end
section
open Go.RowKit
section
variable {s bw:Nat} {uf:BitVec bw->Value}
theorem GI(zr:List (BitVec bw))(hz:zr.length=s)(n:Nat):((Array.range (n*s)).map ((Value.agg (zr.map uf).toArray).cells[· % (Value.agg (zr.map uf).toArray).cells.size]!))=((RW s (λ_=>zr) n).map uf).toArray:=by
 have e:(Value.agg (zr.map uf).toArray).cells=(zr.map uf).toArray:=rfl;rw[e];apply Array.ext
 ·simp[m4,Nat.mul_comm]
 ·intro i h1 h2
  have hi:i<n*s:=by simpa using h1
  have hs:0<s:=by
   rcases Nat.eq_zero_or_pos s with h|h
   ·subst h;simp at hi
   ·exact h
  have hm:i % s<zr.length:=by rw[hz];exact Nat.mod_lt _ hs
  have hg:(RW s (λ_=>zr) n)[i]? =some (zr.getD (i % s) 0):=sg _ n i (by rw[Nat.mul_comm];exact hi)
  have hg2:((RW s (λ_=>zr) n).map uf)[i]? =some (uf (zr.getD (i % s) 0)):=by rw[List.getElem?_map,hg];rfl
  have hr:((RW s (λ_=>zr) n).map uf).toArray[i]=uf (zr.getD (i % s) 0):=by
   have:=List.getElem?_eq_some_iff.1 hg2;obtain ⟨hl,he⟩:=this;simpa using he
  rw[hr];have hl:((zr.map uf).toArray)[i % s]! =uf (zr.getD (i % s) 0):=by
   simp[hm]
  simp only[Array.getElem_map,Array.getElem_range];rw[show ((zr.map uf).toArray).size=s by simp[hz]]
  exact hl
theorem j4(n:Nat)(f:Nat->List (BitVec bw))(zr:List (BitVec bw)){t e:TypeId}{len:Nat}{ps:List (Nat×Operand)}(hB:BOk G B)(hfr:lkB L n=none)(hx:evL F (ps.map (·.2))=some ((List.range len).map λi=>.agg ((f i).map uf).toArray))(hi:ps.map (·.1)=List.range len)
 (hf: ∀i,i<len->(f i).length=s) (h0:0<len*s) (hl:len*s<=16777216) (hu:P.underlying t=some (.slice e)) (hs: ∀w,(sizeOf e).run P w=.ok s w) (hzl:zr.length=s) (hz: ∀w,(zeroValue e).run P w=.ok (.agg (zr.map uf).toArray) w)
 (hw:bf ops F ⟨some d,.buildSlice t len ps.toArray,ty,pos,af,gd⟩=some true) (hd:Nat.blt d N=true)
 (h: ∀b,Lx P G ro ops N ds (EE fs) Z rest ((d,.slice (spt b) len len)::F) (Hp B ((n,b,(RW s f len).map uf,e)::L))):Lx P G ro ops N ds (EE fs) Z (⟨some d,.buildSlice t len ps.toArray,ty,pos,af,gd⟩::rest) F (Hp B L):=by
 refine nY O hw hd (λ_ h=>by cases h) λa w ha hC=> ?_
 refine ⟨.slice (spt w.heap.size) len len,w.alloc (.cells ((RW s f len).map uf).toArray e),_,.inl ?_,aT hB,hC.alloc hB.r n _ e,ef hB.r hfr,h w.heap.size⟩;have e1:(ps.toArray.map λ(i,x)=>(i,a.eval x))=((List.range len).map λi=>(i,Value.agg ((f i).map uf).toArray)).toArray:=by
  have:ps.map (λ(p:Nat×Operand)=>(p.1,a.eval p.2))=(ps.map (·.1)).zip ((ps.map (·.2)).map a.eval):=by rw[List.map_map,List.zip_map'];rfl
  rw[List.map_toArray,this,hi,ha.evL hx];congr 1;rw[List.zip_eq_zipWith,List.zipWith_map_right,List.zipWith_self]
 have hfl:=EN (s:=s) (uf:=uf) f len hf (List.range len) (λ_=>zr) (λi hi=>List.mem_range.1 hi);rw[BH (g:=f) (λi hi=>vX f (List.range len) _ i (.inl (List.mem_range.2 hi)))]at hfl;have hlt: ¬(len*s>2^24):=om;have h00: ¬(len*s=0):=om;show ((do pure (.value (<-Instr.buildSlice t len (ps.toArray.map λ(i,x)=>(i,a.eval x)))):Sem Next)).run P w=_
 rw[e1];have hb:(Instr.buildSlice t len ((List.range len).map λi=>(i,Value.agg ((f i).map uf).toArray)).toArray).run P w=.ok (.slice (spt w.heap.size) len len) (w.alloc (.cells ((RW s f len).map uf).toArray e)):=by
  simp only[Instr.buildSlice,Sem.run_bind,run_underlying hu,Result.andThen_ok,hs,if_neg hlt,if_neg h00,hz,Sem.run_pure,GI zr hzl len,hfl];simp[newRow]
 simp only[Sem.run_bind,hb,Result.andThen_ok];rfl
theorem iE(k:Nat){t e:TypeId}{len cap:Nat}{x ix:Operand}{b o:Nat}{i:Int}(hx:evF F x=some (.slice (some ⟨b,o,none⟩) len cap))(hi:evF F ix=some (I i))(hu:P.underlying t=some (.slice e))
 (hs: ∀w,(sizeOf e).run P w=.ok s w) (hk:i=(k:Int)) (hb:k<len) (hw:bf ops F ⟨some d,.indexAddr t x ix,ty,pos,af,gd⟩=some true) (hd:Nat.blt d N=true)
 (h:Lx P G ro ops N ds (EE fs) Z rest ((d,.pointer (some ⟨b,o+s*k,none⟩))::F) C):Lx P G ro ops N ds (EE fs) Z (⟨some d,.indexAddr t x ix,ty,pos,af,gd⟩::rest) F C:=
 Eo hx hi hu hs om hw hd (by
  rw[show o+i.toNat*s=o+s*k from by rw[Nat.mul_comm s k,hk];rfl];exact h)
end
end
section
open Go.RowKit
theorem fo(n:Nat){t e:TypeId}{x:Operand}{b len cap:Nat}{c:List Value}(hf:fs.any (Nat.beq (1000000+t))=true)(hB:BOk G B)(hx:evF F x=some (.slice (spt b) len cap))(hl:lkB L n=some (b,c,e))(hu:P.underlying t=some (.slice e))(hue:P.underlying e=some (.int .u8))
 (hw:bf ops F ⟨some d,.convert t t x,ty,pos,af,gd⟩=some true) (hd:Nat.blt d N=true)
 (h:Lx P G ro ops N ds (EE fs) Z rest ((d,.slice (spt b) len cap)::F) (Hp B L)):Lx P G ro ops N ds (EE fs) Z (⟨some d,.convert t t x,ty,pos,af,gd⟩::rest) F (Hp B L):=by
 refine nY hf hw hd (λ_ h=>by cases h) λa w ha hC=> ?_
 obtain ⟨fz,h1,h2⟩:=(hC.own n b c e hl).1;have ht:TurnAt b w (w.freeze ⟨b,c.length,none⟩ 1):=⟨rfl,rfl,rfl,by simp[World.freeze],λk hk=>by simp[World.freeze,Array.getElem?_modify,Ne.symm hk]⟩
 have ho:OwnB (w.freeze ⟨b,c.length,none⟩ 1) b c e:=⟨if fz.1==fz.2 then (c.length,c.length+1)else (min fz.1 c.length,max fz.2 (c.length+1)),by
  rw[World.freeze,if_neg aC];show (Array.modify w.heap b _)[b]? =_;rw[Array.getElem?_modify,if_pos O,h1];simp,by
  right;rcases h2 with rfl|h2
  ·simp
  ·split
   ·exact Nat.le_refl _
   ·show c.length<=min fz.1 c.length
    omega⟩
 have hw2:=hC.turn hB.r hl c ht ho;refine ⟨_,_,_,.inl ?_,aT hB,hw2.less hB.r ?_,λ_ h=>h,h⟩
 ·have hsh:w.shape? b=some (e,c.length):=by simp only[World.shape?,h1];simp
  simp only[execOp,ha.ev hx,convert,Sem.run_bind,run_underlying hu,run_underlying hue,Result.andThen_ok];simp[markStringish,hsh]
 ·intro m y hy
  by_cases hm:m=n
  ·subst hm
   rw[hl]at hy
   cases hy
   simp[lkB]
  ·have hb:Nat.beq n m=false:=by
    cases hb:Nat.beq n m with
    |false=>rfl
    |true=>exact absurd (Nat.eq_of_beq_eq_true hb).symm hm
   simp[lkB,hb,hy]
end
section
open Go.RowKit
theorem vG(n1 n2:Nat){fn:Func}{R:Ending->World->Prop}{t1 t2:Nat}{T et1 et2:TypeId}{b1 b2 m:Nat}{c1 c2:List Value}(hr:fn.results= #[.cell t1 T,.cell t2 T])
 (hv1:lk F t1=some (pnt b1)) (hv2:lk F t2=some (pnt b2))
 (hl1:lkB L n1=some (b1,c1,et1)) (hl2:lkB L n2=some (b2,c2,et2)) (hag: ∀w,(isAgg T).run P w=.ok true w) (hs: ∀w,(sizeOf T).run P w=.ok m w) (hm1:c1.length=m) (hm2:c2.length=m)
 (h: ∀w,Hp B L w->R (.returned (.tuple #[.agg c1.toArray,.agg c2.toArray])) w):lC P fn R .ret [] F (Hp B L):=
 ⟨rfl,λa w ha hC=>⟨.tuple #[.agg c1.toArray,.agg c2.toArray],by
  have e1:=run_loadCells_list (P:=P) w ⟨b1,0,none⟩ c1 (λj v hv=>by rw[Addr.add_mid];exact av (n:=n1) hl1 w hC j v hv)
  have e2:=run_loadCells_list (P:=P) w ⟨b2,0,none⟩ c2 (λj v hv=>by rw[Addr.add_mid];exact av (n:=n2) hl2 w hC j v hv)
  rw[hm1]at e1;rw[hm2]at e2;simp[results,hr,ha.get t1 _ hv1,ha.get t2 _ hv2,asAddr,loadVar,hag,hs,e1,e2],h w hC⟩⟩
end
section
open Go.RowKit
theorem ly{t:TypeId}{x:Operand}{v:Value}{fl:Array Field}(hx:evF F x=some v)(hu:P.underlying t=some (.struct fl))
 (hw:bf ops F ⟨some d,.makeInterface t x,ty,pos,af,gd⟩=some true) (hd:Nat.blt d N=true)
 (h:Lx P G ro ops N ds (EE fs) Z rest ((d,.iface t v)::F) C):Lx P G ro ops N ds (EE fs) Z (⟨some d,.makeInterface t x,ty,pos,af,gd⟩::rest) F C:=
 cO (v:=.iface t v) O hw hd (λ_ h=>by cases h) (λa w ha _=>by
  simp only[execOp,ha.ev hx];simp[Instr.makeInterface,run_underlying hu]) h
def qf(P:Program)(t:TypeId)(name:String)(f:FuncId):Prop:= ∀v w,(method (P.types.size+Made.depth) t v name).run P w=.ok (f,v) w
theorem ud{f:Nat}{t:TypeId}{name:String}{x:Operand}{rv:Value}{al:List Operand}{at':Array TypeId}{vs:List Value}{v:Value}(hf:fs.any (Nat.beq 3000001)=false)(hx:evF F x=some (.iface t rv))(hm:qf P t name f)(ha:evL F al=some vs)(he:aJ P f)(hp:Pure P G f (rv::vs) v)
 (hw:bf ops F ⟨some d,.call {callee:=.invoke x name,args:=al.toArray,argTypes:=at'},ty,pos,af,gd⟩=some true) (hd:Nat.blt d N=true)
 (h:Lx P G ro ops N ds (EE fs) Z rest ((d,v)::F) C):Lx P G ro ops N ds (EE fs) Z (⟨some d,.call {callee:=.invoke x name,args:=al.toArray,argTypes:=at'},ty,pos,af,gd⟩::rest) F C:=
 tH (v:=v) (by simpa [EE]using hf) hw hd (λ_ h=>by cases h) (λa w hA hC=>⟨f,(rv::vs).toArray,by
  have e:=hA.evL ha;have e2:=hA.ev hx;simp only[execOp,resolve,invoke,Sem.run_bind,Sem.run_pure,Result.andThen_ok,List.map_toArray,e,e2];simp[callMethod,hm rv w,he _ w],eM (hp w hC)⟩) h
theorem kJ{f:Nat}{t:TypeId}{name:String}{x:Operand}{rv:Value}{al:List Operand}{at':Array TypeId}{vs:List Value}{q:Bool}(b:Bool)(hf:fs.any (Nat.beq 3000001)=false)(hx:evF F x=some (.iface t rv))(hm:qf P t name f)(ha:evL F al=some vs)(he:aJ P f)(hp:Pure P G f (rv::vs) (.bool q))(hq:q=b)
 (hw:bf ops F ⟨some d,.call {callee:=.invoke x name,args:=al.toArray,argTypes:=at'},ty,pos,af,gd⟩=some true) (hd:Nat.blt d N=true)
 (h:Lx P G ro ops N ds (EE fs) Z rest ((d,.bool b)::F) C):Lx P G ro ops N ds (EE fs) Z (⟨some d,.call {callee:=.invoke x name,args:=al.toArray,argTypes:=at'},ty,pos,af,gd⟩::rest) F C:=by
 subst hq;exact ud hf hx hm ha he hp hw hd h
theorem oC{t e:TypeId}{sz:Nat}{x y z:Operand}{lo:Option Operand}{a0:Option Addr}{len cap l h' m:Nat}(hx:evF F x=some (.slice a0 len cap))(hu:P.underlying t=some (.slice e))(hs: ∀w,(sizeOf e).run P w=.ok sz w)
 (hl:(lo.map (evF F)).getD (some (I 0))=some (I l)) (hh:evF F y=some (I h')) (hm:evF F z=some (I m)) (hb:l<=h'/\h'<=m/\m<=cap)
 (hw:bf ops F ⟨some d,.slice t x lo (some y) (some z),ty,pos,af,gd⟩=some true) (hd:Nat.blt d N=true)
 (h:Lx P G ro ops N ds (EE fs) Z rest ((d,.slice (if m=l then a0 else a0.map (·.add (l*sz))) (h'-l) (m-l))::F) C):Lx P G ro ops N ds (EE fs) Z (⟨some d,.slice t x lo (some y) (some z),ty,pos,af,gd⟩::rest) F C:=
 cO (v:=.slice (if m=l then a0 else a0.map (·.add (l*sz))) (h'-l) (m-l)) O hw hd (λ_ h=>by cases h) (λa w ha _=>by
  have hy:=ha.ev hh;have hz:=ha.ev hm;have hb1:=hb.1;have hb2:=hb.2.1;have hb3:=hb.2.2;simp only[execOp,ha.ev hx]
  cases lo with
  |none=>
   simp at hl;have hl0:l=0:=om;subst hl0;simp[Instr.sliceAt,Instr.slice,run_underlying hu,Instr.sliceBounds,Instr.sliceBound,asIntOf,hy,hz,hs,hb2,hb3]
  |some q=>
   have hq:=ha.ev (x:=q) (v:=I l) (by simpa using hl)
   simp[Instr.sliceAt,Instr.slice,run_underlying hu,Instr.sliceBounds,Instr.sliceBound,asIntOf,hy,hz,hq,hs,hb1,hb2,hb3]) h
end
section
open Go.RowKit
theorem CF{t:TypeId}{x ix:Operand}{s:ByteArray}{k:IntKind}{i:Int}{n:BitVec 8}(hx:evF F x=some (.string s))(hi:evF F ix=some (.int k i))(hu:P.underlying t=some .string)(h0:0<=i)(hv:s.data[i.toNat]? =some (UInt8.ofBitVec n))
 (hw:bf ops F ⟨some d,.index t x ix,ty,pos,af,gd⟩=some true) (hd:Nat.blt d N=true) (h:Lx P G ro ops N ds (EE fs) Z rest ((d,U8 n)::F) C):Lx P G ro ops N ds (EE fs) Z (⟨some d,.index t x ix,ty,pos,af,gd⟩::rest) F C:=
 cO (v:=U8 n) O hw hd (λ_ h=>by cases h) (λa w ha _=>by
  have hlt:i.toNat<s.size:=(Array.getElem?_eq_some_iff.1 hv).1;have hg:s[i.toNat]=UInt8.ofBitVec n:=(Array.getElem?_eq_some_iff.1 hv).2;have hr:=run_index_string (P:=P) w t s k i hu;rw[dif_pos ⟨h0,om⟩]at hr;simp only[execOp,ha.ev hx,ha.ev hi,Sem.run_bind,hr,Result.andThen_ok,hg];rfl) h
end
section
open Go.RowKit
theorem OwnSl.of{own L:Hl}{n:Nat}{e:TypeId}{a0:Option Addr}{cap:Nat}{xs:L8}(h:OwnSl own n e a0 cap xs)(hl:lkB L n=lkB own n):OwnSl L n e a0 cap xs:=by
 unfold OwnSl at*;rw[hl];exact h
end
section
open Go.RowKit
end
section
open Go.RowKit
section
variable {Y:Nat->Prop} {w w':World} {b:Nat} {cs:List Value}
theorem tR{o:Nat}(h:w.rangeAt b o cs)(hg:Grow w w'):w'.rangeAt b o cs:=λj v hv=>(hg.cell (block_lt_of_cell (h j v hv))).trans (h j v hv)
def pj(B:Bs)(b:Nat)(cs:List Value):Bs:=⟨B.w0,B.M,λY w=>B.J Y w/\¬Y b/\b<w.heap.size/\w.rangeAt b 0 cs⟩
theorem zL(hr:Rides B.J):Rides (pj B b cs).J where
 grow:=λY w w' h hg=>⟨hr.grow _ _ _ h.1 hg,h.2.1,Nat.lt_of_lt_of_le h.2.2.1 hg.size,tR h.2.2.2 hg⟩
 new:=λY w w' S h hg hS=>⟨hr.new _ _ _ S h.1 hg hS,λe=>e.elim (λe=>by have:=(hS b e).1;have:=h.2.2.1;omega) h.2.1,Nat.lt_of_lt_of_le h.2.2.1 hg.size,tR h.2.2.2 hg⟩
 turn:=λY w w' k hk h ht=>⟨hr.turn _ _ _ k hk h.1 ht,h.2.1,by rw[ht.size];exact h.2.2.1,λj v hv=>by
  have e:=World.cell?_of_block (w:=w) (w':=w') (a:=⟨b,0+j,none⟩) (ht.other b (λe=>h.2.1 (e▸hk)));exact e.trans (h.2.2.2 j v hv)⟩
 less:=λY Y' w hs h=>⟨hr.less _ _ _ hs h.1,λe=>h.2.1 (hs _ e),h.2.2⟩
theorem pE(h:Hq (pj B b cs) L Y w):Hq B L Y w:=⟨h.os,h.tape,h.output,h.size,h.keep,h.own,h.inj,h.apart,h.high,h.lt,h.rid.1⟩
theorem vI(h:BOk G B):BOk G (pj B b cs):=⟨λ_ _ _ hq=>h.g _ _ _ (pE hq),zL h.r⟩
theorem Fc(h:Hq B L Y w)(hr:Rides B.J)(hg:Grow w w')(hb:w.heap.size<=b)(hb':b<w'.heap.size)(hc:w'.rangeAt b 0 cs):Hq (pj B b cs) L Y w':=by
 have k:=h.grow hr hg;refine ⟨k.os,k.tape,k.output,k.size,k.keep,k.own,k.inj,k.apart,k.high,k.lt,k.rid,λe=> ?_,hb',hc⟩;rcases e with e|e
 ·have:=h.ownlt e;omega
 ·have:=h.lt _ e;omega
theorem Ex(h:Hq (pj B b cs) L Y w):w.rangeAt b 0 cs:=h.rid.2.2.2
theorem hbl(h:Hp B L w)(hM: ∀k,¬B.M k:=by exact λ_ h=>h):Grow B.w0 w:=h.below hM
end
end
section
open Go.RowKit
theorem K5{P:Program}{G:Cls}{ro:Option Nat}{N:Nat}{ds:List Deferred}{F:Fr}{C C':Cls}{K:KK}{c:Code}(hC: ∀w,C w->C' w)(hG:dv G C')(h:X P G ro N ds c F C' K):X P G ro N ds c F C K:=
 λ_ a w ha hw=>h hG a w ha (hC w hw)
theorem BW{f:Nat}{x:Operand}{al:List Operand}{at':Array TypeId}{vs:List Value}{v:Value}(hx:evF F x=some (.func (.func f) #[] #[]))(ha:evL F al=some vs)(he:aJ P f)(hp:Pure P G f vs v)(hB:BOk G B)
 (hw:bf ops F ⟨some d,.call {callee:=.value x,args:=al.toArray,argTypes:=at'},ty,pos,af,gd⟩=some true) (hd:iX N (some d)=true) (hE:EE fs ⟨some d,.call {callee:=.value x,args:=al.toArray,argTypes:=at'},ty,pos,af,gd⟩=true)
 (h:Lx P G ro ops N ds (EE fs) Z rest ((d,v)::F) (Hp B L))
 (hgr:EE fs (f9 ⟨some d,.call {callee:=.value x,args:=al.toArray,argTypes:=at'},ty,pos,af,gd⟩)=false:=by rfl):
 Lx P G ro ops N ds (EE fs) Z (⟨some d,.call {callee:=.value x,args:=al.toArray,argTypes:=at'},ty,pos,af,gd⟩::rest) F (Hp B L):=by
 unfold Lx;rw[hE];intro a w hA hC;refine ⟨hA.want hw,λf _=>dI ro f, ?_⟩;rw[show (FW ro).round=ro from O,Oper.semAt_eq _ _ _ (λ_ h=>by cases h)]
 have e:(execOp a.eval ⟨some d,.call {callee:=.value x,args:=al.toArray,argTypes:=at'},ty,pos,af,gd⟩).run P w=.ok (.enter f vs.toArray) w:=by
  have e:=hA.evL ha;simp only[execOp,resolve,invoke,Sem.run_bind,Sem.run_pure,Result.andThen_ok,List.map_toArray,e,hA.ev hx,Deferred.ofValue];simp[he _ w]
 rw[e];refine ⟨λh=>(by cases h),CallsIn.mono (eM (hp w (hB.g _ _ _ hC))) λe w' ⟨he',hg⟩=> ?_⟩
 subst he';exact ⟨_,Hp B L,hA.putF hd v,aT hB,hC.grow hB.r hg,λh=>(by rw[hgr]at h;cases h),h⟩
end
section
open Go.RowKit
theorem yZ(m:Nat):(madeCells (Value.int .u8 0).cells m).toList=(List.replicate m 0#8).map U8:=by
 have hz:(Value.int .u8 0).cells= #[Value.int .u8 0]:=rfl;rw[hz,madeCells,List.map_replicate];refine List.ext_getElem aB λi h1 h2=> ?_;simp[Nat.mod_one];rfl
theorem gJ(n:Nat){t e:TypeId}{x y:Operand}{l m:Nat}{z:Value}{sz by_:Nat}{c:List Value}(hB:BOk G B)(hx:evF F x=some (I (l:Int)))(hy:evF F y=some (I (m:Int)))(hlm:l<=m)(hu:P.underlying t=some (.slice e))(hi:TI P e z sz by_)
 (hm:m*sz<=16777216/\by_*m<=281474976710656/\m<=1000000) (hc:(madeCells z.cells (m*sz)).toList=c) (hw:bf ops F ⟨some d,.makeSlice t x y,ty,pos,af,gd⟩=some true) (hd:Nat.blt d N=true)
 (h: ∀b,Lx P G ro ops N ds (EE fs) Z rest ((d,.slice (spt b) l m)::F) (Hp B ((n,b,c,e)::L))) (hgr:fs.any (Nat.beq 2999995)=false:=by rfl):Lx P G ro ops N ds (EE fs) Z (⟨some d,.makeSlice t x y,ty,pos,af,gd⟩::rest) F (Hp B L):=
 e6 (hgr:=hgr) O hw hd (λ_ h=>by cases h) λa w ha hC=>by
  obtain ⟨i,hi,hz,rfl,rfl⟩:=hi;have hr:=run_makeSlice (P:=P) (w:=w) t e i z hu hi hz .i64 .i64 (l:Int) (m:Int) om om (by rw[Int.toNat_natCast];exact hm.1) (by have:=Int.ofNat_le.2 hm.2.1;rw[Int.natCast_mul]at this;exact this) om
  simp only[Int.toNat_natCast]at hr;refine ⟨.slice (spt w.heap.size) l m,w.alloc (.cells c.toArray e),_,.inl ?_,aT hB,hC.alloc hB.r n c e,h w.heap.size⟩;subst hc;simp only[execOp,ha.ev hx,ha.ev hy,I,Sem.run_bind,hr,Result.andThen_ok];simp
end
section
open Go.RowKit
structure MM(M:Nat->Prop)(w w':World):Prop where
 os:w'.os=w.os
 tape:w'.tape=w.tape
 output:w'.output=w.output
 size:w.heap.size<=w'.heap.size
 keep: ∀k,k<w.heap.size->¬M k->w'.heap[k]? =w.heap[k]?
theorem aY{M:Nat->Prop}{w w':World}(h:Grow w w'):MM M w w':=⟨h.os,h.tape,h.output,h.size,λk hk _=>h.block k hk⟩
theorem MM.grow{M:Nat->Prop}{w w':World}(h:MM M w w')(hM: ∀k,k<w.heap.size->¬M k):Grow w w':=⟨h.os,h.tape,h.output,h.size,λk hk=>h.keep k hk (hM k hk)⟩
theorem MM.mono{M M':Nat->Prop}{w w':World}(h:MM M w w')(hM: ∀k,k<w.heap.size->M k->M' k):MM M' w w':=⟨h.os,h.tape,h.output,h.size,λk hk hn=>h.keep k hk λhm=>hn (hM k hk hm)⟩
theorem MM.trans{M:Nat->Prop}{a b c:World}(h:MM M a b)(k:MM M b c):MM M a c:=
 ⟨k.os.trans h.os,k.tape.trans h.tape,k.output.trans h.output,Nat.le_trans h.size k.size,λi hi hn=>(k.keep i (Nat.lt_of_lt_of_le hi h.size) hn).trans (h.keep i hi hn)⟩
theorem MM.trans'{M M':Nat->Prop}{a b c:World}(h:MM M a b)(k:MM M' b c)(hM: ∀i,M' i->i<a.heap.size->M i):MM M a c:=
 ⟨k.os.trans h.os,k.tape.trans h.tape,k.output.trans h.output,Nat.le_trans h.size k.size,λi hi hn=>(k.keep i (Nat.lt_of_lt_of_le hi h.size) λhm=>hn (hM i hm hi)).trans (h.keep i hi hn)⟩
theorem MM.grow0{M:Nat->Prop}{w0 w w':World}(h:MM M w w')(hg:Grow w0 w)(hM: ∀k,M k->w0.heap.size<=k):Grow w0 w':=
 ((aY hg).trans h).grow λk hk hm=>by have:=hM k hm;omega
theorem jT{w w':World}{M:Nat->Prop}{L:Hl}{Y:Nat->Prop}(h:Hq (plM w M) L Y w'):MM M w w':=⟨h.os,h.tape,h.output,h.size,h.keep⟩
theorem MM.own{M:Nat->Prop}{w w':World}{b:Nat}{c:List Value}{t:TypeId}(h:MM M w w')(ho:OwnB w b c t)(hb: ¬M b):OwnB w' b c t:=ho.of_same (h.keep b ho.lt hb)
theorem MM.bytes{M:Nat->Prop}{w w':World}{a:Option Addr}{xs:L8}(h:MM M w w')(hb:BytesAt w a xs)(ha: ∀ad,a=some ad->¬M ad.block):BytesAt w' a xs:=λj v hv=>by
 obtain ⟨ad,e,hc⟩:=hb j v hv;refine ⟨ad,e, ?_⟩;have hl:=block_lt_of_cell hc;have e2:(ad.add j).block=ad.block:=gC ad j;rw[World.cell?_of_block (w:=w) (h.keep _ hl (by rw[e2];exact ha ad e))]
 exact hc
theorem MM.range{M:Nat->Prop}{w w':World}{b o:Nat}{cs:List Value}(h:MM M w w')(hb:w.rangeAt b o cs)(ha: ¬M b):w'.rangeAt b o cs:=λj v hv=>by
 have hc:=hb j v hv;rw[World.cell?_of_block (w:=w) (h.keep b (block_lt_of_cell hc) ha)];exact hc
theorem MM.cells{M:Nat->Prop}{w w':World}{a:Option Addr}{xs:List Value}(h:MM M w w')(hb:CellsAt w a xs)(ha: ∀ad,a=some ad->¬M ad.block):CellsAt w' a xs:=λj v hv=>by
 obtain ⟨ad,e,hc⟩:=hb j v hv;refine ⟨ad,e, ?_⟩;have hl:=block_lt_of_cell hc;have e2:(ad.add j).block=ad.block:=gC ad j;rw[World.cell?_of_block (w:=w) (h.keep _ hl (by rw[e2];exact ha ad e))]
 exact hc
theorem OwnB.grow{w w':World}{b:Nat}{c:List Value}{t:TypeId}(h:OwnB w b c t)(hg:Grow w w'):OwnB w' b c t:=h.of_same (hg.block b h.lt)
theorem iW{w:World}{M:Nat->Prop}{n b:Nat}{c:List Value}{t:TypeId}(h:OwnB w b c t)(hb:M b):Hp (plM w M) [(n,b,c,t)] w:=by
 have e: ∀m x,lkB [(n,b,c,t)] m=some x->m=n/\x=(b,c,t):=λm x hx=>by
  simp only[lkB]at hx
  cases hb:Nat.beq n m with
  |true=>rw[hb]at hx;simp at hx;exact ⟨(Nat.eq_of_beq_eq_true hb).symm,hx.symm⟩
  |false=>rw[hb]at hx;simp at hx
 refine ⟨rfl,rfl,rfl,Nat.le_refl _,λ_ _ _=>rfl,λm b' c' t' hx=> ?_,λm k b' c1 t1 c2 t2 h1 h2=>(e _ _ h1).1.trans (e _ _ h2).1.symm,λ_ h=>h.elim,λ_ h=>h.elim,λ_ h=>h.elim,trivial⟩;obtain ⟨_,h2⟩:=e _ _ hx
 cases h2
 exact ⟨h,.inr hb⟩
theorem nj{G:Cls}{low:Nat}(hl:GLow G low){w:World}(hw:G w){M:Nat->Prop}(hM: ∀m,M m->low<=m):BOk G (plM w M):=(hl.from hw hM).ok aL
def SlV(e:TypeId)(w:World)(a:Option Addr)(cap:Nat)(xs:List Value):Prop:=
 (a=none/\xs=[]/\cap=0)\/∃b c,a=some ⟨b,0,none⟩/\OwnB w b c e/\c.length=cap/\xs.length<=cap/\c.take xs.length=xs
theorem SlV.le{e:TypeId}{w:World}{a:Option Addr}{cap:Nat}{xs:List Value}(h:SlV e w a cap xs):xs.length<=cap:=by
 rcases h with ⟨_,rfl,rfl⟩|⟨_,_,_,_,_,h,_⟩
 ·simp
 ·exact h
theorem SlV.cells{e:TypeId}{w:World}{a:Option Addr}{cap:Nat}{xs:List Value}(h:SlV e w a cap xs):CellsAt w a xs:=by
 rcases h with ⟨_,rfl,_⟩|⟨b,c,rfl,ho,_,_,ht⟩
 ·exact qH _ _
 ·rw[<-ht];exact (CellsAt.range ho.range).take _
theorem SlV.bytes{e:TypeId}{w:World}{a:Option Addr}{cap:Nat}{xs:L8}(h:SlV e w a cap (xs.map U8)):BytesAt w a xs:=h.cells
theorem SlV.grow{e:TypeId}{w w':World}{a:Option Addr}{cap:Nat}{xs:List Value}(h:SlV e w a cap xs)(hg:Grow w w'):SlV e w' a cap xs:=by
 rcases h with h|⟨b,c,h1,h2,h3⟩
 ·exact .inl h
 ·exact .inr ⟨b,c,h1,h2.grow hg,h3⟩
theorem SlV.mm{M:Nat->Prop}{e:TypeId}{w w':World}{a:Option Addr}{cap:Nat}{xs:List Value}(h:SlV e w a cap xs)(hm:MM M w w')(hb: ∀ad,a=some ad->¬M ad.block):SlV e w' a cap xs:=by
 rcases h with h|⟨b,c,h1,h2,h3⟩
 ·exact .inl h
 ·exact .inr ⟨b,c,h1,hm.own h2 (hb _ h1),h3⟩
theorem SlV.lt{e:TypeId}{w:World}{a:Option Addr}{cap:Nat}{xs:List Value}(h:SlV e w a cap xs): ∀ad,a=some ad->ad.block<w.heap.size:=λad e=>by
 rcases h with ⟨rfl,_⟩|⟨b,c,rfl,ho,_⟩
 ·cases e
 ·cases e;exact ho.lt
def New(w:World)(a:Option Addr):Prop:= ∀ad,a=some ad->w.heap.size<=ad.block
theorem fj{f:Nat}{al:List Operand}{at':Array TypeId}{vs:List Value}{dst:Option Nat}{low:Nat}{w0:World}{M:Nat->Prop}{Q:World->World->Value->Prop}(hl:GLow G low)(hM: ∀k,M k->low<=k)(hf:fs.any (Nat.beq f)=true)(ha:evL F al=some vs)(he:aJ P f)
 (hw:bf ops F ⟨dst,.call {callee:=.value (.func f),args:=al.toArray,argTypes:=at'},ty,pos,af,gd⟩=some true) (hd:iX N dst=true) (hB:BOk G (pl w0))
 (hp: ∀w,Grow w0 w->G w->Calls P f vs.toArray w (λe w'=> ∃v,e=.returned v/\MM M w w'/\Q w w' v))
 (h: ∀w w' v,Grow w0 w->MM M w w'->G w'->Q w w' v->Lx P G ro ops N ds (EE fs) Z rest (putF dst v F) (Hp (pl w') []))
 (hgr:fs.any (Nat.beq (f+2000000))=false:=by rfl):
 Lx P G ro ops N ds (EE fs) Z (⟨dst,.call {callee:=.value (.func f),args:=al.toArray,argTypes:=at'},ty,pos,af,gd⟩::rest) F (Hp (pl w0) []):=
 cw hf ha he hw hd (λw hC=>by
  have g:=hB.g _ _ _ hC;refine (hp w (ae hC) g).mono λe w' ⟨v,he',hm,hq⟩=> ?_;have g':G w':=hl.same w w' (λk hk=>hm.keep k (Nat.lt_of_lt_of_le hk (hl.size w g)) λh=>by have:=hM k h;omega) g
  exact ⟨v,_,he',aT (hl.plain g'),cI (pl w') trivial aL,h w w' v (ae hC) hm g' hq⟩) hgr
section
variable {K:KK}
theorem iK{c:Code}{low:Nat}(hl:GLow G low)(h: ∀w,C w->G w->X P G ro N ds c F (Hp (pl w) []) K):X P G ro N ds c F C K:=λhG a w ha hw=>
 h w hw (hG.2 w hw) (aT (hl.plain (hG.2 w hw))) a w ha (cI (pl w) trivial aL)
theorem kh{c:Code}{low:Nat}(hl:GLow G low){ι:Type}(Fm:ι->Fr)(Wm:ι->World)(m:ι->Nat)(i0:ι){w0:World}(hG: ∀i,G (Wm i))(hB:Wm i0=w0)(hF:ph F (Fm i0))
 (hr: ∀i,X P G ro N ds c (Fm i) (Hp (pl (Wm i)) []) (pX (λds' F' C'=>ds'=ds/\∃j,m j<m i/\C'=Hp (pl (Wm j)) []/\ph F' (Fm j)) K)):X P G ro N ds (.loop c) F (Hp (pl w0) []) K:=
 jG Fm (λi=>pl (Wm i)) (λ_=>[]) m i0 (λi=>hl.plain (hG i)) (by rw[hB]) hF trivial λi=>(hr i).mono λe ds' F' C' hk=>by
  cases e with
  |normal=>
   obtain ⟨h1,j,hj,h2,h3⟩:=hk;exact ⟨h1,j,[],hj,h2,h3,trivial⟩
  |_=>exact hk
end
theorem yx{t e:TypeId}(hu:P.underlying t=some (.pointer e))(a:Option Addr)(w:World):(binOp .neq t (.pointer a) (.pointer none)).run P w=.ok (.bool (!a.isNone)) w:=by
 have h: ∀d:Nat,(Op.equalIn (d+1) t (.pointer a) (.pointer none)).run P w=.ok a.isNone w:=λd=>by
  cases a<;>simp[Op.equalIn,run_underlying hu]
 simp only[binOp];simp[Op.equal,Op.maxDepth,h 9999]
theorem oG(n:Nat){t tx e e':TypeId}{x y:Operand}{a0 sa:Option Addr}{cap sc:Nat}{xs ys:L8}(hB:BOk G B)(hx:evF F x=some (.slice a0 xs.length cap))(hy:evF F y=some (.slice sa ys.length sc))
 (hu:P.underlying t=some (.slice e)) (hux:P.underlying tx=some (.slice e')) (hi:TI P e (.int .u8 0) 1 1) (hown:OwnSl L n e a0 cap xs) (hsrc: ∀w,Hp B L w->BytesAt w sa ys) (hlen:xs.length+ys.length<=70368744177664)
 (hw:bf ops F ⟨some d,.call {callee:=.builtin .append,args:= #[x,y],argTypes:= #[t,tx]},ty,pos,af,gd⟩=some true) (hd:Nat.blt d N=true)
 (h: ∀a1 cap1 L1,OwnSl L1 n e a1 cap1 (xs++ys)->(∀m,m≠n->lkB L1 m=lkB L m)->Lx P G ro ops N ds (EE fs) Z rest ((d,.slice a1 (xs++ys).length cap1)::F) (Hp B L1))
 (hgr:fs.any (Nat.beq 2999997)=false:=by rfl):
 Lx P G ro ops N ds (EE fs) Z (⟨some d,.call {callee:=.builtin .append,args:= #[x,y],argTypes:= #[t,tx]},ty,pos,af,gd⟩::rest) F (Hp B L):=by
 refine d6 n hB hx hy hu hux hi hown hsrc hlen hw hd (λh0=> ?_) (λb c cap1 e1 h1 h2=> ?_) hgr
 ·have:=h none 0 L (.inl ⟨rfl,h0,rfl⟩) (λ_ _=>rfl)
  rw[h0]at this;exact this
 ·exact h _ _ _ (.inr ⟨b,c,rfl,by simp[lkB],e1,h1,h2⟩) λm hm=>by
   have:Nat.beq n m=false:=by
    cases hb:Nat.beq n m with
    |false=>rfl
    |true=>exact absurd (Nat.eq_of_beq_eq_true hb).symm hm
   simp[lkB,this]
theorem OwnSl.slv{Y:Nat->Prop}{w:World}{n:Nat}{e:TypeId}{a0:Option Addr}{cap:Nat}{xs:L8}(h:OwnSl L n e a0 cap xs)(hp:Hq B L Y w):SlV e w a0 cap (xs.map U8):=by
 rcases h with ⟨rfl,rfl,rfl⟩|⟨b,c,rfl,hl,h1,h2,h3⟩
 ·exact .inl ⟨rfl,rfl,rfl⟩
 ·exact .inr ⟨b,c,rfl,(hp.own n b c e hl).1,h1,by simpa using h2,by simpa using h3⟩
theorem OwnSl.new{Y:Nat->Prop}{w0 w:World}{M:Nat->Prop}{n:Nat}{e:TypeId}{a0:Option Addr}{cap:Nat}{xs:L8}(h:OwnSl L n e a0 cap xs)(hp:Hq (plM w0 M) L Y w): ∀ad,a0=some ad->w0.heap.size<=ad.block\/M ad.block:=λad e=>by
 rcases h with ⟨rfl,rfl,rfl⟩|⟨b,c,rfl,hl,h1,h2,h3⟩
 ·cases e
 ·cases e;exact (hp.own n b c _ hl).2
theorem OwnV.slv{Y:Nat->Prop}{w:World}{n:Nat}{e:TypeId}{a0:Option Addr}{cap:Nat}{xs:List Value}(h:OwnV L n e a0 cap xs)(hp:Hq B L Y w):SlV e w a0 cap xs:=by
 rcases h with ⟨rfl,rfl,rfl⟩|⟨b,c,rfl,hl,h1,h2,h3⟩
 ·exact .inl ⟨rfl,rfl,rfl⟩
 ·exact .inr ⟨b,c,rfl,(hp.own n b c e hl).1,h1,h2,h3⟩
theorem OwnV.new{Y:Nat->Prop}{w0 w:World}{M:Nat->Prop}{n:Nat}{e:TypeId}{a0:Option Addr}{cap:Nat}{xs:List Value}(h:OwnV L n e a0 cap xs)(hp:Hq (plM w0 M) L Y w): ∀ad,a0=some ad->w0.heap.size<=ad.block\/M ad.block:=λad e=>by
 rcases h with ⟨rfl,rfl,rfl⟩|⟨b,c,rfl,hl,h1,h2,h3⟩
 ·cases e
 ·cases e;exact (hp.own n b c _ hl).2
theorem uU{a1 a2:TypeId}{x y:Operand}{i j z:Int}(hx:evF F x=some (I i))(hy:evF F y=some (I j))(hz:(if i<j then j else i)=z)
 (hw:bf ops F ⟨some d,.call {callee:=.builtin .max,args:= #[x,y],argTypes:= #[a1,a2]},ty,pos,af,gd⟩=some true) (hd:Nat.blt d N=true)
 (h:Lx P G ro ops N ds (EE fs) Z rest ((d,I z)::F) C):Lx P G ro ops N ds (EE fs) Z (⟨some d,.call {callee:=.builtin .max,args:= #[x,y],argTypes:= #[a1,a2]},ty,pos,af,gd⟩::rest) F C:=
 cO (v:=I z) O hw hd (λ_ h=>by cases h) (λa w ha _=>by
  have:=run_max_int2 (P:=P) w #[a1,a2] ty .i64 .i64 i j;rw[hz]at this;simp only[execOp,resolve,invoke,builtin,Sem.run_bind,Sem.run_pure,Result.andThen_ok,List.map_toArray,List.map_cons,List.map_nil,ha.ev hx,ha.ev hy,I,this]) h
theorem Hh{P:Program}{G:Cls}{ro:Option Nat}{ops:Array Oper}{N:Nat}{ds:List Deferred}{fs:List Nat}{Z:Fr->Cls->Prop}{F:Fr}{C:Cls}{rest:List Oper}{d:Nat}{ty:TypeId}{pos:String}{af:Array Edge}{gd:Option (Nat×Bool)}
 (k:Nat) {t e:TypeId} {len cap:Nat} {x ix:Operand} {b:Nat} {i:Int} (hx:evF F x=some (.slice (spt b) len cap)) (hi:evF F ix=some (I i)) (hu:P.underlying t=some (.slice e))
 (hs: ∀w,(sizeOf e).run P w=.ok 1 w) (hk:i=(k:Int)) (hb:k<len) (hw:bf ops F ⟨some d,.indexAddr t x ix,ty,pos,af,gd⟩=some true) (hd:Nat.blt d N=true)
 (h:Lx P G ro ops N ds (EE fs) Z rest ((d,.pointer (some ⟨b,k,none⟩))::F) C):Lx P G ro ops N ds (EE fs) Z (⟨some d,.indexAddr t x ix,ty,pos,af,gd⟩::rest) F C:=
 jP k hx hi hu hs hk hb hw hd (by rw[Nat.zero_add];exact h)
def Of(a:Option Addr)(k:Nat):Prop:= ∃ad,a=some ad/\k=ad.block
theorem pg{o:Oper}{low:Nat}(hl:GLow G low)(hE:EE fs o=true)(hgr:EE fs (f9 o)=false)(hS: ∀w,C w->G w)(Z':World->Fr->Cls->Prop)(h: ∀w,C w->G w->∃C1,C1 w/\Lx P G ro ops N ds (EE fs) (Z' w) [o] F C1)
 (h2: ∀w w' F' C',C w->G w'->C' w'->Z' w F' C'->Lx P G ro ops N ds (EE fs) Z rest F' (Hp (pl w') [])):Lx P G ro ops N ds (EE fs) Z (o::rest) F C:=by
 unfold Lx;rw[hE];intro a w ha hC;obtain ⟨C1,h1,hx⟩:=h w hC (hS w hC);unfold Lx at hx;rw[hE]at hx;obtain ⟨hw,hp⟩:=hx a w ha h1;refine ⟨hw,Oper.wpIn_mono (λa' w' hk=> ?_) hp⟩;obtain ⟨F',C',ha',hg',hw',_,hz⟩:=hk;have g':=hg'.2 w' hw';exact ⟨F',Hp (pl w') [],ha',aT (hl.plain g'),cI (pl w') trivial aL,λh=>(by rw[hgr]at h;cases h),h2 w w' F' C' hC g' hw' hz⟩
theorem D5{low:Nat}(hl:GLow G low){t tx e e':TypeId}{x y:Operand}{a0 sa:Option Addr}{cap sc:Nat}{xs ys:L8}(hS: ∀w,C w->G w)(hx:evF F x=some (.slice a0 xs.length cap))(hy:evF F y=some (.slice sa ys.length sc))
 (hu:P.underlying t=some (.slice e)) (hux:P.underlying tx=some (.slice e')) (hi:TI P e (.int .u8 0) 1 1) (hown: ∀w,C w->SlV e w a0 cap (xs.map U8)) (hlow: ∀k,Of a0 k->low<=k) (hsrc: ∀w,C w->BytesAt w sa ys) (hne: ∀w,C w->ys≠[]->∀ad,sa=some ad->¬Of a0 ad.block) (hlen:xs.length+ys.length<=70368744177664)
 (hw:bf ops F ⟨some d,.call {callee:=.builtin .append,args:= #[x,y],argTypes:= #[t,tx]},ty,pos,af,gd⟩=some true) (hd:Nat.blt d N=true)
 (h: ∀w w2 a1 cap1,C w->G w2->MM (Of a0) w w2->SlV e w2 a1 cap1 ((xs++ys).map U8)->(∀k,Of a1 k->Of a0 k\/w.heap.size<=k)->Lx P G ro ops N ds (EE fs) Z rest ((d,.slice a1 (xs++ys).length cap1)::F) (Hp (pl w2) []))
 (hgr:fs.any (Nat.beq 2999997)=false:=by rfl):
 Lx P G ro ops N ds (EE fs) Z (⟨some d,.call {callee:=.builtin .append,args:= #[x,y],argTypes:= #[t,tx]},ty,pos,af,gd⟩::rest) F C:=by
 refine pg hl O hgr hS (λw F' C'=> ∃a1 cap1 L1,OwnSl L1 0 e a1 cap1 (xs++ys)/\F'=(d,.slice a1 (xs++ys).length cap1)::F/\C'=Hp (plM w (Of a0)) L1) (λw hC hG=> ?_) (λw w' F' C' hC hG' hC' hz=> ?_)
 ·have hB:BOk G (plM w (Of a0)):=nj hl hG hlow
  have src: ∀L w',Hp (plM w (Of a0)) L w'->BytesAt w' sa ys:=λL w' h'=>by
   by_cases h0:ys=[]
   ·subst h0;exact jv _ _
   ·exact (jT h').bytes (hsrc w hC) (hne w hC h0)
  rcases hown w hC with ⟨rfl,hx0,rfl⟩|⟨b,c,rfl,ho,h1,h2,h3⟩
  ·refine ⟨Hp (plM w (Of none)) [],cI _ trivial aL, ?_⟩
   obtain rfl:xs=[]:=by simpa using hx0
   exact oG 0 hB hx hy hu hux hi (kK _ _ _) (src []) hlen hw hd (λa1 cap1 L1 o1 _=>aa ⟨a1,cap1,L1,o1,rfl,rfl⟩) hgr
  ·refine ⟨Hp (plM w (Of (spt b))) [(0,b,c,e)],iW ho ⟨_,rfl,rfl⟩, ?_⟩
   exact oG 0 hB hx hy hu hux hi (.inr ⟨b,c,rfl,rfl,h1,by simpa using h2,by simpa using h3⟩) (src _) hlen hw hd (λa1 cap1 L1 o1 _=>aa ⟨a1,cap1,L1,o1,rfl,rfl⟩) hgr
 ·obtain ⟨a1,cap1,L1,o1,rfl,rfl⟩:=hz
  exact h w w' a1 cap1 hC hG' (jT hC') (o1.slv hC') (λk ⟨ad,e,hk⟩=>by
   subst hk;exact (o1.new hC' ad e).symm)
def SlW(e:TypeId)(s:Nat)(w:World)(a:Option Addr)(cap nx:Nat)(xs:List Value):Prop:=
 (a=none/\xs=[]/\nx=0/\cap=0)\/∃b c,a=some ⟨b,0,none⟩/\OwnB w b c e/\c.length=cap*s/\nx<=cap/\xs.length=nx*s/\c.take xs.length=xs
theorem SlW.grow{e:TypeId}{s:Nat}{w w':World}{a:Option Addr}{cap nx:Nat}{xs:List Value}(h:SlW e s w a cap nx xs)(hg:Grow w w'):SlW e s w' a cap nx xs:=by
 rcases h with h|⟨b,c,h1,h2,h3⟩
 ·exact .inl h
 ·exact .inr ⟨b,c,h1,h2.grow hg,h3⟩
theorem SlW.mm{M:Nat->Prop}{e:TypeId}{s:Nat}{w w':World}{a:Option Addr}{cap nx:Nat}{xs:List Value}(h:SlW e s w a cap nx xs)(hm:MM M w w')(hb: ∀k,Of a k->¬M k):SlW e s w' a cap nx xs:=by
 rcases h with h|⟨b,c,h1,h2,h3⟩
 ·exact .inl h
 ·exact .inr ⟨b,c,h1,hm.own h2 (hb _ ⟨_,h1,rfl⟩),h3⟩
theorem SlW.lt{e:TypeId}{s:Nat}{w:World}{a:Option Addr}{cap nx:Nat}{xs:List Value}(h:SlW e s w a cap nx xs): ∀k,Of a k->k<w.heap.size:=λk ⟨ad,e,hk⟩=>by
 rcases h with ⟨rfl,_⟩|⟨b,c,rfl,ho,_⟩
 ·cases e
 ·cases e;subst hk;exact ho.lt
theorem SlW.at{e:TypeId}{s:Nat}{w:World}{a:Option Addr}{cap nx:Nat}{xs:List Value}(h:SlW e s w a cap nx xs)(hx:xs≠[]): ∃b,a=some ⟨b,0,none⟩/\w.rangeAt b 0 xs:=by
 rcases h with ⟨_,h,_⟩|⟨b,c,h1,h2,_,_,_,h6⟩
 ·exact absurd h hx
 ·refine ⟨b,h1,λj v hv=>h2.range j v ?_⟩
  rw[<-h6,List.getElem?_take]at hv;split at hv
  ·exact hv
  ·cases hv
theorem SlV.at{e:TypeId}{w:World}{a:Option Addr}{cap:Nat}{xs:List Value}(h:SlV e w a cap xs)(hx:xs≠[]): ∃b,a=some ⟨b,0,none⟩/\b<w.heap.size/\w.rangeAt b 0 xs:=by
 rcases h with ⟨_,h,_⟩|⟨b,c,h1,h2,_,_,h6⟩
 ·exact absurd h hx
 ·refine ⟨b,h1,h2.lt,λj v hv=>h2.range j v ?_⟩
  rw[<-h6,List.getElem?_take]at hv;split at hv
  ·exact hv
  ·cases hv
theorem n9{bw s:Nat}(f:Nat->List (BitVec bw))(n:Nat)(hf:(f n).length=s):RW s f (n+1)=RW s f n++f n:=by
 unfold RW;rw[Nat.mul_succ,List.range_add,List.map_append,List.map_map];congr 1;apply List.ext_getElem?;intro i;by_cases hi:i<s
 ·rw[List.getElem?_map,List.getElem?_range hi]
  simp only[Option.map_some,Function.comp];rw[wK hi,vV hi,List.getD_eq_getElem?_getD,List.getElem?_eq_getElem om];rfl
 ·rw[List.getElem?_eq_none (by simp;omega),List.getElem?_eq_none om]
theorem kq{low:Nat}(hl:GLow G low){t tx e e':TypeId}{x y:Operand}{a0:Option Addr}{s cap nx sb sc by_:Nat}{xs ys:List Value}{z:Value}(hS: ∀w,C w->G w)(hx:evF F x=some (.slice a0 nx cap))(hy:evF F y=some (.slice (spt sb) 1 sc))
 (hu:P.underlying t=some (.slice e)) (hux:P.underlying tx=some (.slice e')) (hi:TI P e z s by_) (hz1:z.cells.size=s) (hown: ∀w,C w->SlW e s w a0 cap nx xs) (hlow: ∀k,Of a0 k->low<=k) (hly:ys.length=s) (hsrc: ∀w,C w->w.rangeAt sb 0 ys) (hone:ys.all (·.oneCell')=true) (hne: ∀w,C w->¬Of a0 sb) (hlen:(nx+1)*by_<=140737488355328) (h63:nx+1<=4611686018427387904)
 (hw:bf ops F ⟨some d,.call {callee:=.builtin .append,args:= #[x,y],argTypes:= #[t,tx]},ty,pos,af,gd⟩=some true) (hd:Nat.blt d N=true)
 (h: ∀w w2 a1 cap1,C w->G w2->MM (Of a0) w w2->SlW e s w2 a1 cap1 (nx+1) (xs++ys)->(∀k,Of a1 k->Of a0 k\/w.heap.size<=k)->Lx P G ro ops N ds (EE fs) Z rest ((d,.slice a1 (nx+1) cap1)::F) (Hp (pl w2) []))
 (hgr:fs.any (Nat.beq 2999997)=false:=by rfl):
 Lx P G ro ops N ds (EE fs) Z (⟨some d,.call {callee:=.builtin .append,args:= #[x,y],argTypes:= #[t,tx]},ty,pos,af,gd⟩::rest) F C:=by
 refine pg hl O hgr hS (λw F' C'=> ∃b c cap1 L1,lkB L1 0=some (b,c,e)/\c.length=cap1*s/\nx+1<=cap1/\c.take (xs++ys).length=xs++ys/\xs.length=nx*s/\F'=(d,.slice (spt b) (nx+1) cap1)::F/\C'=Hp (plM w (Of a0)) L1) (λw hC hG=> ?_) (λw w' F' C' hC hG' hC' hz=> ?_)
 ·have hB:BOk G (plM w (Of a0)):=nj hl hG hlow
  have src: ∀L w',Hp (plM w (Of a0)) L w'->w'.rangeAt sb 0 ys:=λL w' h'=>(jT h').range (hsrc w hC) (hne w hC);rcases hown w hC with ⟨rfl,rfl,rfl,rfl⟩|⟨b,c,rfl,ho,h1,h2,h3,h4⟩
  ·refine ⟨Hp (plM w (Of none)) [],cI _ trivial aL, ?_⟩
   exact lj 0 hB hx hy hu hux hi hz1 (zW _ _ _ _) (by rw[Nat.one_mul];exact hly) (src []) hone aC hlen h63 hw hd (λb c cap1 e1 e2 e3=>aa ⟨b,c,cap1,_,rfl,e1,e2,e3,aB,rfl,rfl⟩) hgr
  ·refine ⟨Hp (plM w (Of (spt b))) [(0,b,c,e)],iW ho ⟨_,rfl,rfl⟩, ?_⟩
   exact lj 0 hB hx hy hu hux hi hz1 (.inr ⟨b,c,rfl,rfl,h1,h2,h3,h4⟩) (by rw[Nat.one_mul];exact hly) (src _) hone aC hlen h63 hw hd (λb c cap1 e1 e2 e3=>aa ⟨b,c,cap1,_,rfl,e1,e2,e3,h3,rfl,rfl⟩) hgr
 ·obtain ⟨b,c,cap1,L1,hl1,e1,e2,e3,e4,rfl,rfl⟩:=hz
  have ho:=hC'.own 0 b c e hl1;refine h w w' _ cap1 hC hG' (jT hC') (.inr ⟨b,c,rfl,ho.1,e1,e2,by rw[List.length_append,e4,hly,Nat.add_mul,Nat.one_mul],e3⟩) (λk ⟨ad,e,hk⟩=> ?_)
  cases e
  subst hk;exact ho.2.symm
end
section
open Go.RowKit
theorem er(k s:Nat){t e:TypeId}{len cap:Nat}{x ix:Operand}{ad:Addr}{i:Int}(hx:evF F x=some (.slice (some ad) len cap))(hi:evF F ix=some (I i))(hu:P.underlying t=some (.slice e))
 (hs: ∀w,(sizeOf e).run P w=.ok s w) (hk:i=(k:Int)) (hb:k<len) (hw:bf ops F ⟨some d,.indexAddr t x ix,ty,pos,af,gd⟩=some true) (hd:Nat.blt d N=true)
 (h:Lx P G ro ops N ds (EE fs) Z rest ((d,.pointer (some (ad.add (k*s))))::F) C):Lx P G ro ops N ds (EE fs) Z (⟨some d,.indexAddr t x ix,ty,pos,af,gd⟩::rest) F C:=
 cO (v:=.pointer (some (ad.add (k*s)))) O hw hd (λ_ h=>by cases h) (λa w ha _=>by
  subst hk;have h1: ¬len<=k:=om;simp only[execOp,ha.ev hx,ha.ev hi];simp[Instr.indexAt,asIntOf,run_underlying hu,hs,h1]) h
theorem i2{w:World}{base:Nat}{a:Addr}{n:Nat}{cs:List Value}(h:w.cells? base a n=some cs):cs.length=n/\∀j v,cs[j]? =some v->w.cell? (a.add j)=some v:=by
 unfold World.cells? at h;split at h
 ·have hl:cs.length=n:=by simpa using mapM_some_length h
  refine ⟨hl,λj v hv=> ?_⟩;have hj:j<n:=by rw[<-hl];exact (List.getElem?_eq_some_iff.1 hv).1
  rw[mapM_some_get h j j (by simp[hj])]
  exact hv
 ·cases h
end
section
open Go.RowKit
theorem bB{t:TypeId}{x:Operand}{ad:Addr}{n:Nat}{cs:List Value}(hx:evF F x=some (.pointer (some ad)))(hag: ∀w,(isAgg t).run P w=.ok true w)(hs: ∀w,(sizeOf t).run P w=.ok n w)(hn:cs.length=n)
 (hc: ∀w,C w->∀j v,cs[j]? =some v->w.cell? (ad.add j)=some v) (hw:bf ops F ⟨some d,.load t x,ty,pos,af,gd⟩=some true) (hd:Nat.blt d N=true)
 (h:Lx P G ro ops N ds (EE fs) Z rest ((d,.agg cs.toArray)::F) C):Lx P G ro ops N ds (EE fs) Z (⟨some d,.load t x,ty,pos,af,gd⟩::rest) F C:=
 cO (v:=.agg cs.toArray) O hw hd (λ_ h=>by cases h) (λa w ha hC=>by
  have hl:=run_loadCells_list (P:=P) w ad cs (λj v hv=>hc w hC.1 j v hv);rw[hn]at hl;simp only[execOp,ha.ev hx];simp[Instr.loadAt,Instr.sureAddr,loadVar,hag,hs,hl]) h
theorem zd(s:Nat){t e:TypeId}{len cap:Nat}{x ix:Operand}{ad:Addr}{i:BitVec 64}(hx:evF F x=some (.slice (some ad) len cap))(hi:evF F ix=some (U64 i))(hu:P.underlying t=some (.slice e))
 (hs: ∀w,(sizeOf e).run P w=.ok s w) (hb:i.toNat<len) (hw:bf ops F ⟨some d,.indexAddr t x ix,ty,pos,af,gd⟩=some true) (hd:Nat.blt d N=true)
 (h:Lx P G ro ops N ds (EE fs) Z rest ((d,.pointer (some (ad.add (i.toNat*s))))::F) C):Lx P G ro ops N ds (EE fs) Z (⟨some d,.indexAddr t x ix,ty,pos,af,gd⟩::rest) F C:=
 cO (v:=.pointer (some (ad.add (i.toNat*s)))) O hw hd (λ_ h=>by cases h) (λa w ha _=>by
  have h1: ¬len<=i.toNat:=om;simp only[execOp,ha.ev hx,ha.ev hi];simp[Instr.indexAt,asIntOf,U64,run_underlying hu,hs,h1]) h
end
section
open Go.RowKit
structure ASrc(P:Program)(t tx e:TypeId)(i:TypeInfo)(z v:Value)(n:Nat)(ys:List Value)(w:World):Prop where
 room: ∀(ty:TypeId) (b sLen sCap:Nat),sLen+n<=sCap->(∀j,j<ys.length->(w.cell? ⟨b,0+sLen*i.size+j,none⟩).isSome=true)->(∀j,j<ys.length->w.frozen? ⟨b,0+sLen*i.size+j,none⟩=false)->
  (Builtin.append_ #[t,tx] ty #[.slice (spt b) sLen sCap,v]).run P w=.ok (.slice (spt b) (sLen+n) sCap) (w.setCells b (0+sLen*i.size) ys)
 nil:n=0->∀ty:TypeId,(Builtin.append_ #[t,tx] ty #[.slice none 0 0,v]).run P w=.ok (.slice none 0 0) w
 grow: ∀(ty:TypeId) (base:Option Addr) (sLen sCap:Nat) (olds:List Value),(Builtin.firstCells i.size sLen (.slice base sLen sCap)).run P w.drew=.ok olds.toArray w.drew->sCap<sLen+n->((sLen+n:Nat):Int)<=9223372036854775807->Builtin.nextslicecap (sLen+n) sCap*i.bytes<=281474976710656->
  (Builtin.append_ #[t,tx] ty #[.slice base sLen sCap,v]).run P w=.ok (.slice (spt w.heap.size) (sLen+n) (grownCap w (sLen+n) sCap e)) (w.drew.alloc (.cells ((olds++ys).toArray++Builtin.zeroCells z.cells (grownCap w (sLen+n) sCap e-(sLen+n))) e))
 len:ys.length=n*i.size
 one: ∀u∈ys,u.oneCell'=true
theorem ASrc.of{P:Program}{t tx e:TypeId}{i:TypeInfo}{z v:Value}{n:Nat}{ys:List Value}{w:World}(ht:P.underlying t=some (.slice e))(hi:P.info? e=some i)(hz:i.zero=some z)(hs:Src P i.size tx v n ys w):ASrc P t tx e i z v n ys w where
 room:=λty b sLen sCap h hc hf=>run_append_room_src w t tx ty e i ht hi b 0 sLen sCap v n ys hs h hc hf
 nil:=λh0 ty=>by
  subst h0;rcases hs.kind with ⟨e',hk⟩|hk<;>simp[Builtin.append_,run_underlying ht,run_underlying hk,sizeOf,typeInfo,hi,hs.len,hs.cells]
 grow:=λty base sLen sCap olds hold hg h63 hfit=>run_append_grow_src w t tx ty e i z ht hi hz base sLen sCap olds hold v n ys hs hg h63 hfit
 len:=hs.newsLen
 one:=hs.one
theorem tz{n:Nat}(h:n<=1000000):IntKind.i64.wrap (n:Int)=n:=fV _ aG
theorem hw0:IntKind.i64.wrap (0:Int)=0:=fV _ aG
theorem ASrc.zeros{P:Program}{t tx e:TypeId}{i:TypeInfo}{z:Value}{n:Nat}{w:World}{kn:IntKind}(ht:P.underlying t=some (.slice e))(htx:P.underlying tx=some (.int kn))(hi:P.info? e=some i)(hz:i.zero=some z)(hzs:z.cells.size=i.size)(hsp:0<i.size)
 (hz1: ∀u∈(Builtin.zeroCells z.cells n).toList,u.oneCell'=true) (hn:n<=1000000) (hb:n*i.bytes<=281474976710656):ASrc P t tx e i z (I (n:Int)) n (Builtin.zeroCells z.cells n).toList w where
 room:=λty b sLen sCap h hc hf=>by
  have hw:=tz hn;have hneg: ¬((n:Int)<0):=om;have h48: ¬(281474976710656<(n:Int)*(i.bytes:Int)):=by rw[<-Int.natCast_mul];omega
  have hst:=run_storeCells_cells (P:=P) b (0+sLen*i.size) (Builtin.zeroCells z.cells n).toList 0 w (by simpa using hc) (by simpa using hf) hz1
  simp only[Nat.add_zero,Nat.zero_add]at hst;by_cases h0:n=0
  ·subst h0
   have he:Builtin.zeroCells z.cells 0= #[]:=by simp[Builtin.zeroCells]
   have h':sLen<=sCap:=om;rw[he]at hst⊢;simp[Builtin.append_,run_underlying ht,run_underlying htx,sizeOf,typeInfo,hi,asInt,asIntOf,I,hw0,h',Addr.add_lit]at hst⊢;rw[hst];rfl
  ·have hns: ¬n*i.size=0:=by rw[Nat.mul_eq_zero];omega
   simp[Builtin.append_,run_underlying ht,run_underlying htx,sizeOf,typeInfo,zeroValue,hi,hz,asInt,asIntOf,I,hw,hneg,h48,h,hns,Addr.add_lit,hst]
 nil:=λh0 ty=>by
  subst h0;simp[Builtin.append_,run_underlying ht,run_underlying htx,sizeOf,typeInfo,hi,asInt,asIntOf,I,hw0]
 grow:=λty base sLen sCap olds hold hg h63 hfit=>by
  have hw:=tz hn;have hneg: ¬((n:Int)<0):=om;have h48: ¬(281474976710656<(n:Int)*(i.bytes:Int)):=by rw[<-Int.natCast_mul];omega
  have hnr: ¬(sLen+n<=sCap):=om;have h63': ¬(9223372036854775807<((sLen:Int)+(n:Int))):=om;have h48': ¬(281474976710656<Builtin.nextslicecap (sLen+n) sCap*i.bytes):=om;by_cases h0:n=0
  ·subst h0
   have he:Builtin.zeroCells z.cells 0= #[]:=by simp[Builtin.zeroCells]
   have hnr': ¬(sLen<=sCap):=om;have h63n: ¬(9223372036854775807<(sLen:Int)):=om;rw[Nat.add_zero]at h48'⊢;simp[Builtin.append_,run_underlying ht,run_underlying htx,sizeOf,typeInfo,zeroValue,hi,hz,asInt,asIntOf,I,hw0,hnr',h63n,h48',Question.forced,hold,newRow,grownCap,he]
  ·have hns: ¬n*i.size=0:=by rw[Nat.mul_eq_zero];omega
   simp[Builtin.append_,run_underlying ht,run_underlying htx,sizeOf,typeInfo,zeroValue,hi,hz,asInt,asIntOf,I,hw,hneg,h48,hnr,h63',h48',hns,Question.forced,hold,newRow,grownCap];congr 2;apply Array.ext';simp[List.append_assoc]
 len:=by rw[Array.length_toList,size_zeroCells,hzs]
 one:=hz1
theorem DL{low:Nat}(hl:GLow G low){t tx e:TypeId}{x y:Operand}{a0:Option Addr}{s cap nx ny by_:Nat}{xs ys:List Value}{v z:Value}(hS: ∀w,C w->G w)(hx:evF F x=some (.slice a0 nx cap))(hy:evF F y=some v)
 (hi:TI P e z s by_) (hz1:z.cells.size=s) (hown: ∀w,C w->SlW e s w a0 cap nx xs) (hlow: ∀k,Of a0 k->low<=k) (hsrc: ∀w,C w->∀i,P.info? e=some i->i.zero=some z->i.size=s->i.bytes=by_->ASrc P t tx e i z v ny ys w) (hlen:(nx+ny)*by_<=140737488355328) (h63:nx+ny<=4611686018427387904)
 (hw:bf ops F ⟨some d,.call {callee:=.builtin .append,args:= #[x,y],argTypes:= #[t,tx]},ty,pos,af,gd⟩=some true) (hd:Nat.blt d N=true)
 (h: ∀w w2 a1 cap1,C w->G w2->MM (Of a0) w w2->SlW e s w2 a1 cap1 (nx+ny) (xs++ys)->(∀k,Of a1 k->Of a0 k\/w.heap.size<=k)->Lx P G ro ops N ds (EE fs) Z rest ((d,.slice a1 (nx+ny) cap1)::F) (Hp (pl w2) []))
 (hgr:fs.any (Nat.beq 2999997)=false:=by rfl):
 Lx P G ro ops N ds (EE fs) Z (⟨some d,.call {callee:=.builtin .append,args:= #[x,y],argTypes:= #[t,tx]},ty,pos,af,gd⟩::rest) F C:=by
 obtain ⟨i,hi,hz,hsz,hby⟩:=hi;refine e6 (hgr:=hgr) O hw hd (λ_ h=>by cases h) λa w ha hC=> ?_
 have hs:=hsrc w hC i hi hz hsz hby;have hG:=hS w hC;have hly:ys.length=ny*s:=by rw[hs.len,hsz]
 have run: ∀{v':Value} {w':World},(Builtin.append_ #[t,tx] ty #[.slice a0 nx cap,v]).run P w=.ok v' w'->
  (execOp a.eval ⟨some d,.call {callee:=.builtin .append,args:= #[x,y],argTypes:= #[t,tx]},ty,pos,af,gd⟩).run P w=.ok (.value v') w':=λ{v' w'} hr=>by
  simp only[execOp,resolve,invoke,builtin,Sem.run_bind,Sem.run_pure,Result.andThen_ok,List.map_toArray,List.map_cons,List.map_nil,ha.ev hx,ha.ev hy,hr]
 have fin: ∀{w2:World} {a1:Option Addr} {cap1:Nat},(Builtin.append_ #[t,tx] ty #[.slice a0 nx cap,v]).run P w=.ok (.slice a1 (nx+ny) cap1) w2->MM (Of a0) w w2->SlW e s w2 a1 cap1 (nx+ny) (xs++ys)->(∀k,Of a1 k->Of a0 k\/w.heap.size<=k)->
  ∃v' w' C',((execOp a.eval ⟨some d,.call {callee:=.builtin .append,args:= #[x,y],argTypes:= #[t,tx]},ty,pos,af,gd⟩).run P w=.ok (.value v') w'\/((execOp a.eval ⟨some d,.call {callee:=.builtin .append,args:= #[x,y],argTypes:= #[t,tx]},ty,pos,af,gd⟩).run P w=.ok .skip w'/\v'=undef))/\dv G C'/\C' w'/\Lx P G ro ops N ds (EE fs) Z rest (putF (some d) v' F) C':=λ{w2 a1 cap1} hr hm hsl ho=>by
  have g2:G w2:=hl.same w w2 (λk hk=>hm.keep k (Nat.lt_of_lt_of_le hk (hl.size w hG)) λh=>by have:=hlow k h;omega) hG
  exact ⟨_,w2,_,.inl (run hr),aT (hl.plain g2),cI (pl w2) trivial aL,h w w2 a1 cap1 hC g2 hm hsl ho⟩
 have hxl:xs.length=nx*s:=by
  rcases hown w hC with ⟨_,rfl,rfl,_⟩|⟨_,_,_,_,_,_,h5,_⟩
  ·simp
  ·exact h5
 have len1:(xs++ys).length=(nx+ny)*s:=by rw[List.length_append,hxl,hly,Nat.add_mul]
 rcases Nat.lt_or_ge cap (nx+ny)with hg|hroom
 ·have hold:(Builtin.firstCells i.size nx (.slice a0 nx cap)).run P w.drew=.ok xs.toArray w.drew:=by
   rcases hown w hC with ⟨rfl,rfl,rfl,rfl⟩|⟨b,c,rfl,ho,_,_,_,ht⟩
   ·exact run_firstCells_none _ _ _ _ _
   ·refine run_firstCells_some _ _ _ _ _ _ _ (by rw[hsz];exact hxl) (λj u hv=> ?_)
    rw[Addr.add_mid,Nat.zero_add];have hcj:c[j]? =some u:=by
     have:(c.take xs.length)[j]? =some u:=by rw[ht];exact hv
     rw[List.getElem?_take]at this;split at this
     ·exact this
     ·cases this
    exact (ho.cell j).trans hcj
  have hr:=hs.grow ty a0 nx cap xs hold hg om (by rw[hby];exact growslice_fits hg hlen)
  have hge:=grownCap_ge w (nx+ny) cap e;obtain ⟨cc,hcc⟩: ∃cc,xs++ys++(Builtin.zeroCells z.cells (grownCap w (nx+ny) cap e-(nx+ny))).toList=cc:=⟨_,rfl⟩;have hcl:cc.length=grownCap w (nx+ny) cap e*s:=by
   rw[<-hcc,List.length_append,len1,Array.length_toList,size_zeroCells,hz1];obtain ⟨r,hr⟩:=Nat.exists_eq_add_of_le hge;rw[hr,Nat.add_sub_cancel_left,Nat.add_mul (nx+ny)]
  have hct:cc.take (xs++ys).length=xs++ys:=by rw[<-hcc,List.take_append_of_le_length aB,List.take_of_length_le aB]
  have harr:(xs++ys).toArray++Builtin.zeroCells z.cells (grownCap w (nx+ny) cap e-(nx+ny))=cc.toArray:=by
   rw[<-hcc];apply Array.ext';simp
  rw[harr]at hr;have hp:=((cI (pl w) trivial aL).grow aL ((Below.refl _ w).drew)).alloc aL 0 cc e;have hb:=hp.own 0 _ _ _ O;refine fin hr (aY (ae hp)) (.inr ⟨_,cc,rfl,hb.1,hcl,hge,len1,hct⟩) (λk ⟨ad,e1,hk⟩=> ?_)
  cases e1
  subst hk;exact .inr (Nat.le_refl _)
 ·rcases hown w hC with ⟨rfl,rfl,rfl,rfl⟩|⟨b,c,rfl,ho,hc,hle,_,ht⟩
  ·have h0:ny=0:=om
   subst h0;have hys:ys=[]:=List.eq_nil_of_length_eq_zero (by rw[hly,Nat.zero_mul])
   subst hys;exact fin (hs.nil O ty) (aY (Grow.refl w)) (.inl ⟨rfl,rfl,rfl,rfl⟩) (λ_ h=>.inl h)
  ·have hin:nx*s+ys.length<=c.length:=by rw[hly,hc,<-Nat.add_mul];exact Nat.mul_le_mul_right s hroom
   have hr:=hs.room ty b nx cap hroom
    (λj hj=>by rw[hsz,Nat.zero_add,ho.cell,List.getElem?_eq_getElem om];rfl) (λj hj=>ho.frozen (by rw[hsz];omega))
   rw[hsz,show 0+nx*s=xs.length from by rw[hxl,Nat.zero_add]]at hr
   have hp:=Hq.lays (n:=0) (b:=b) (c:=c) (t:=e) aL ys (iW (n:=0) (M:=Of (spt b)) ho ⟨_,rfl,rfl⟩) O xs.length;have hb:=hp.own 0 _ _ _ O;exact fin hr (jT hp) (.inr ⟨b,_,rfl,hb.1,by rw[fu];exact hc,hroom,len1,by rw[List.length_append];exact mI xs ys c (by rw[hxl];exact hin) ht⟩) (λ_ h=>.inl h)
end
section
open Go.RowKit
theorem tX(n:Nat){t e:TypeId}{x y:Operand}{l m:Nat}{q:BitVec 64}{z:Value}{sz by_:Nat}{c:List Value}(hB:BOk G B)(hfr:lkB L n=none)(hx:evF F x=some (I (l:Int)))(hy:evF F y=some (U64 q))(hq:q.toNat=m)(hlm:l<=m)(hu:P.underlying t=some (.slice e))(hi:TI P e z sz by_)
 (hm:m*sz<=16777216/\by_*m<=281474976710656/\m<=1000000) (hc:(madeCells z.cells (m*sz)).toList=c) (hw:bf ops F ⟨some d,.makeSlice t x y,ty,pos,af,gd⟩=some true) (hd:Nat.blt d N=true)
 (h: ∀b,Lx P G ro ops N ds (EE fs) Z rest ((d,.slice (spt b) l m)::F) (Hp B ((n,b,c,e)::L))):Lx P G ro ops N ds (EE fs) Z (⟨some d,.makeSlice t x y,ty,pos,af,gd⟩::rest) F (Hp B L):=
 nY O hw hd (λ_ h=>by cases h) λa w ha hC=>by
  subst hq;obtain ⟨i,hi,hz,rfl,rfl⟩:=hi;have hr:=run_makeSlice (P:=P) (w:=w) t e i z hu hi hz .i64 .u64 (l:Int) (q.toNat:Int) om om (by rw[Int.toNat_natCast];exact hm.1) (by have:=Int.ofNat_le.2 hm.2.1;rw[Int.natCast_mul]at this;exact this) om
  simp only[Int.toNat_natCast]at hr;refine ⟨.slice (spt w.heap.size) l q.toNat,w.alloc (.cells c.toArray e),_,.inl ?_,aT hB,hC.alloc hB.r n c e,λw' h'=>ef hB.r hfr w' h',h w.heap.size⟩;subst hc;simp only[execOp,ha.ev hx,ha.ev hy,I,U64,Sem.run_bind,hr,Result.andThen_ok];simp
theorem lI{place:Nat->Option (Nat×Nat)}{i off size:Nat}{v:Value}{vs c:List Value}(hp:place i=some (off,size))(hv:v.cells=vs.toArray)(hs:vs.length=size)(ho:off+vs.length<=c.length)(rest:List (Nat×Value)):
 Instr.fill place c.toArray ((i,v)::rest)=Instr.fill place (c.take off++vs++c.drop (off+vs.length)).toArray rest:=by
 have h:=pk off vs 0 c;have hn: ¬((decide (v.cells.size≠size)||decide (off+v.cells.size>c.toArray.size))=true):=by
  simp[hv,hs];omega
 have e:v.cells.zipIdx.foldl (λ(cs:Array Value) (p:Value×Nat)=>cs.setIfInBounds (off+p.2) p.1) c.toArray=(lay off vs c).toArray:=by
  rw[hv,<-Array.foldl_toList,Array.toList_zipIdx];exact h
 rw[Instr.fill,hp];show (if (decide (v.cells.size≠size)||decide (off+v.cells.size>c.toArray.size))=true then none else _)=_
 rw[if_neg hn,<-gU _ _ _ ho,<-e]
/-! ### How many bits a number has -/
def IsL(n k:Nat):Prop:=n<2^k/\∀e,e<k->2^e<=n
theorem IsL.shift{n k:Nat}(s:Nat)(h:IsL (n / 2^s) k)(hn:2^s<=n):IsL n (k+s):=by
 refine ⟨by rw[Nat.pow_add];exact (Nat.div_lt_iff_lt_mul (Nat.two_pow_pos s)).1 h.1,λe he=> ?_⟩
 rcases Nat.lt_or_ge e s with h1|h1
 ·exact Nat.le_trans (Nat.pow_le_pow_right aC (Nat.le_of_lt h1)) hn
 ·obtain ⟨e',rfl⟩:=Nat.exists_eq_add_of_le h1
  rw[Nat.add_comm,Nat.pow_add];exact (Nat.le_div_iff_mul_le (Nat.two_pow_pos s)).1 (h.2 e' om)
def ln(n:Nat):Nat:=if n=0 then 0 else n.log2+1
theorem IsL.eq{n k:Nat}(h:IsL n k):ln n=k:=by
 unfold ln;by_cases h0:n=0
 ·rw[if_pos h0]
  rcases Nat.eq_zero_or_pos k with hk|hk
  ·exact hk.symm
  ·have:=h.2 0 hk;omega
 ·rw[if_neg h0]
  have h1:=(Nat.log2_lt h0).2 h.1;have h2:=(Nat.le_log2 h0).2 (h.2 (k-1) om);omega
def yH(s:ByteArray):Bool:=(List.range 256).all λi=>match s.data[i]? with
 |some b=>Nat.blt i (2^b.toNat) && (b.toNat==0||Nat.ble (2^(b.toNat-1)) i)
 |none=>false
theorem xw{s:ByteArray}(h:yH s=true){i:Nat}(hi:i<256): ∃b:BitVec 8,s.data[i]? =some (UInt8.ofBitVec b)/\IsL i b.toNat:=by
 have h1:=List.all_eq_true.1 h i (List.mem_range.2 hi)
 cases hb:s.data[i]? with
 |none=>simp[hb]at h1
 |some b=>
  simp only[hb,Bool.and_eq_true,Bool.or_eq_true]at h1;refine ⟨b.toBitVec,rfl,of_decide_eq_true (by rw[decide_eq_true_eq];exact Nat.le_of_ble_eq_true h1.1),λe he=> ?_⟩
  rcases h1.2 with h2|h2
  ·have:b.toNat=0:=by simpa using h2
   have he':e<b.toNat:=he;omega
  ·exact Nat.le_trans (Nat.pow_le_pow_right aC (by have he':e<b.toNat:=he;omega)) (Nat.le_of_ble_eq_true h2)
end
section
open Go.RowKit
theorem d7{t e:TypeId}{n sz:Nat}{x:Operand}{b o:Nat}(hx:evF F x=some (.pointer (some ⟨b,o,none⟩)))(hu:P.underlying t=some (.array n e))(hs: ∀w,(sizeOf e).run P w=.ok sz w)(hne:n≠0)
 (hw:bf ops F ⟨some d,.slice t x none none none,ty,pos,af,gd⟩=some true) (hd:Nat.blt d N=true)
 (h:Lx P G ro ops N ds (EE fs) Z rest ((d,.slice (some ⟨b,o,none⟩) n n)::F) C):Lx P G ro ops N ds (EE fs) Z (⟨some d,.slice t x none none none,ty,pos,af,gd⟩::rest) F C:=
 tC (l:=0) (h':=n) hx hu hs O O ⟨Nat.zero_le _,Nat.le_refl _⟩ (λh=>hne h.symm) hw hd (by rw[Nat.zero_mul,Nat.add_zero,Nat.sub_zero];exact h)
end
section
open Go.RowKit
theorem fE{low:Nat}(hl:GLow G low){t et:TypeId}{x y:Operand}{b o m:Nat}{c vs:List Value}(hS: ∀w,C w->G w)(hown: ∀w,C w->OwnB w b c et)(hlow:low<=b)(hx:evF F x=some (.pointer (some ⟨b,o,none⟩)))(hy:evF F y=some (.agg vs.toArray))
 (hs: ∀w,(sizeOf t).run P w=.ok m w) (hm:vs.length=m) (hv:vs.all (·.oneCell')=true) (ho:o+vs.length<=c.length) (hw:bf ops F ⟨none,.store t x y,ty,pos,af,gd⟩=some true)
 (h: ∀w w2,C w->G w2->MM (λk=>k=b) w w2->OwnB w2 b (lay o vs c) et->Lx P G ro ops N ds (EE fs) Z rest F (Hp (pl w2) [])):Lx P G ro ops N ds (EE fs) Z (⟨none,.store t x y,ty,pos,af,gd⟩::rest) F C:=by
 refine pg hl O O hS (λw F' C'=>F'=F/\C'=Hp (plM w (λk=>k=b)) [(0,b,lay o vs c,et),(0,b,c,et)]) (λw hC hG=> ?_) (λw w' F' C' hC hG' hC' hz=> ?_)
 ·exact ⟨Hp (plM w (λk=>k=b)) [(0,b,c,et)],iW (hown w hC) O,fL 0 (nj hl hG (λm hm=>by subst hm;exact hlow)) hx hy O hs hm hv ho hw (aa ⟨rfl,rfl⟩)⟩
 ·obtain ⟨rfl,rfl⟩:=hz
  exact h w w' hC hG' (jT hC') (hC'.own 0 _ _ _ O).1
theorem eY{low:Nat}(hl:GLow G low){t et:TypeId}{x y:Operand}{b o:Nat}{c:List Value}{v:Value}(hS: ∀w,C w->G w)(hown: ∀w,C w->OwnB w b c et)(hlow:low<=b)(hx:evF F x=some (.pointer (some ⟨b,o,none⟩)))(hy:evF F y=some v)
 (hs: ∀w,(sizeOf t).run P w=.ok 1 w) (hv:v.oneCell'=true) (ho:o<c.length) (hw:bf ops F ⟨none,.store t x y,ty,pos,af,gd⟩=some true)
 (h: ∀w w2,C w->G w2->MM (λk=>k=b) w w2->OwnB w2 b (c.set o v) et->Lx P G ro ops N ds (EE fs) Z rest F (Hp (pl w2) [])):Lx P G ro ops N ds (EE fs) Z (⟨none,.store t x y,ty,pos,af,gd⟩::rest) F C:=by
 refine pg hl O O hS (λw F' C'=>F'=F/\C'=Hp (plM w (λk=>k=b)) [(0,b,c.set o v,et),(0,b,c,et)]) (λw hC hG=> ?_) (λw w' F' C' hC hG' hC' hz=> ?_)
 ·exact ⟨Hp (plM w (λk=>k=b)) [(0,b,c,et)],iW (hown w hC) O,cL 0 (nj hl hG (λm hm=>by subst hm;exact hlow)) hx hy O hs hv ho hw (aa ⟨rfl,rfl⟩)⟩
 ·obtain ⟨rfl,rfl⟩:=hz
  exact h w w' hC hG' (jT hC') (hC'.own 0 _ _ _ O).1
theorem Ij{low:Nat}(hl:GLow G low){dT sT e et:TypeId}{x y:Operand}{b o dl dc:Nat}{sa:Option Addr}{sl sc:Nat}{c:List Value}{cs:L8}(hS: ∀w,C w->G w)(hown: ∀w,C w->OwnB w b c et)(hlow:low<=b)(hx:evF F x=some (.slice (some ⟨b,o,none⟩) dl dc))(hy:evF F y=some (.slice sa sl sc))
 (hu:P.underlying dT=some (.slice e)) (hs:(P.info? e).map (·.size)=some 1) (hn:cs.length=Nat.min sl dl) (hsrc: ∀w,C w->BytesAt w sa cs) (hne: ∀w,C w->cs≠[]->∀ad,sa=some ad->ad.block≠b)
 (ho:o+cs.length<=c.length) (hw:bf ops F ⟨some d,.call {callee:=.builtin .copy,args:= #[x,y],argTypes:= #[dT,sT]},ty,pos,af,gd⟩=some true) (hd:Nat.blt d N=true)
 (h: ∀w w2,C w->G w2->MM (λk=>k=b) w w2->OwnB w2 b (lay o (cs.map U8) c) et->Lx P G ro ops N ds (EE fs) Z rest ((d,I cs.length)::F) (Hp (pl w2) [])):
 Lx P G ro ops N ds (EE fs) Z (⟨some d,.call {callee:=.builtin .copy,args:= #[x,y],argTypes:= #[dT,sT]},ty,pos,af,gd⟩::rest) F C:=by
 refine pg hl O O hS (λw F' C'=>F'=(d,I cs.length)::F/\C'=Hp (plM w (λk=>k=b)) [(0,b,lay o (cs.map U8) c,et),(0,b,c,et)]) (λw hC hG=> ?_) (λw w' F' C' hC hG' hC' hz=> ?_)
 ·have src: ∀w',Hp (plM w (λk=>k=b)) [(0,b,c,et)] w'->BytesAt w' sa cs:=λw' h'=>by
   by_cases h0:cs=[]
   ·subst h0;exact jv _ _
   ·exact (jT h').bytes (hsrc w hC) (hne w hC h0)
  exact ⟨Hp (plM w (λk=>k=b)) [(0,b,c,et)],iW (hown w hC) O,ed 0 (nj hl hG (λm hm=>by subst hm;exact hlow)) hx hy O hu hs hn src ho hw hd (aa ⟨rfl,rfl⟩)⟩
 ·obtain ⟨rfl,rfl⟩:=hz
  exact h w w' hC hG' (jT hC') (hC'.own 0 _ _ _ O).1
end
section
open Go.RowKit
end
section
open Go.RowKit
theorem rR{o:Oper}(hE:EE fs o=true)(hE0:EE [] o=true)(hS: ∀w,C w->G w)(Z':World->Fr->Cls->Prop)(h: ∀w,C w->G w->∃C1,C1 w/\Lx P G ro ops N ds (EE []) (Z' w) [o] F C1)
 (h2: ∀w w' F' C',C w->G w'->C' w'->Z' w F' C'->∃C2:Cls,dv G C2/\C2 w'/\(∀x,C2 x->C x)/\Lx P G ro ops N ds (EE fs) Z rest F' C2):Lx P G ro ops N ds (EE fs) Z (o::rest) F C:=by
 unfold Lx;rw[hE];intro a w ha hC;obtain ⟨C1,h1,hx⟩:=h w hC (hS w hC);unfold Lx at hx;rw[hE0]at hx;obtain ⟨hw,hp⟩:=hx a w ha h1;refine ⟨hw,Oper.wpIn_mono (λa' w' hk=> ?_) hp⟩;obtain ⟨F',C',ha',hg',hw',_,hz⟩:=hk;obtain ⟨C2,h3,h4,h5,h6⟩:=h2 w w' F' C' hC (hg'.2 w' hw') hw' hz;exact ⟨F',C2,ha',h3,h4,λ_=>h5,h6⟩
theorem CN{low:Nat}(hl:GLow G low){t tx e:TypeId}{x y:Operand}{a0:Option Addr}{s cap nx ny by_:Nat}{xs ys:List Value}{v z:Value}(hS: ∀w,C w->G w)(hx:evF F x=some (.slice a0 nx cap))(hy:evF F y=some v)
 (hi:TI P e z s by_) (hz1:z.cells.size=s) (hown: ∀w,C w->SlW e s w a0 cap nx xs) (hlow: ∀k,Of a0 k->low<=k) (hsrc: ∀w,C w->∀i,P.info? e=some i->i.zero=some z->i.size=s->i.bytes=by_->ASrc P t tx e i z v ny ys w) (hlen:(nx+ny)*by_<=140737488355328) (h63:nx+ny<=4611686018427387904)
 (hw:bf ops F ⟨some d,.call {callee:=.builtin .append,args:= #[x,y],argTypes:= #[t,tx]},ty,pos,af,gd⟩=some true) (hd:Nat.blt d N=true)
 (h: ∀w w2 a1 cap1,C w->G w2->((a1=a0/\cap1=cap)\/Grow w w2)->MM (Of a0) w w2->SlW e s w2 a1 cap1 (nx+ny) (xs++ys)->(∀k,Of a1 k->Of a0 k\/w.heap.size<=k)->Lx P G ro ops N ds (EE fs) Z rest ((d,.slice a1 (nx+ny) cap1)::F) (Hp (pl w2) []))
 (hgr:fs.any (Nat.beq 2999997)=false:=by rfl):
 Lx P G ro ops N ds (EE fs) Z (⟨some d,.call {callee:=.builtin .append,args:= #[x,y],argTypes:= #[t,tx]},ty,pos,af,gd⟩::rest) F C:=by
 obtain ⟨i,hi,hz,hsz,hby⟩:=hi;refine e6 (hgr:=hgr) O hw hd (λ_ h=>by cases h) λa w ha hC=> ?_
 have hs:=hsrc w hC i hi hz hsz hby;have hG:=hS w hC;have hly:ys.length=ny*s:=by rw[hs.len,hsz]
 have run: ∀{v':Value} {w':World},(Builtin.append_ #[t,tx] ty #[.slice a0 nx cap,v]).run P w=.ok v' w'->
  (execOp a.eval ⟨some d,.call {callee:=.builtin .append,args:= #[x,y],argTypes:= #[t,tx]},ty,pos,af,gd⟩).run P w=.ok (.value v') w':=λ{v' w'} hr=>by
  simp only[execOp,resolve,invoke,builtin,Sem.run_bind,Sem.run_pure,Result.andThen_ok,List.map_toArray,List.map_cons,List.map_nil,ha.ev hx,ha.ev hy,hr]
 have fin: ∀{w2:World} {a1:Option Addr} {cap1:Nat},(Builtin.append_ #[t,tx] ty #[.slice a0 nx cap,v]).run P w=.ok (.slice a1 (nx+ny) cap1) w2->((a1=a0/\cap1=cap)\/Grow w w2)->MM (Of a0) w w2->SlW e s w2 a1 cap1 (nx+ny) (xs++ys)->(∀k,Of a1 k->Of a0 k\/w.heap.size<=k)->
  ∃v' w' C',((execOp a.eval ⟨some d,.call {callee:=.builtin .append,args:= #[x,y],argTypes:= #[t,tx]},ty,pos,af,gd⟩).run P w=.ok (.value v') w'\/((execOp a.eval ⟨some d,.call {callee:=.builtin .append,args:= #[x,y],argTypes:= #[t,tx]},ty,pos,af,gd⟩).run P w=.ok .skip w'/\v'=undef))/\dv G C'/\C' w'/\Lx P G ro ops N ds (EE fs) Z rest (putF (some d) v' F) C':=λ{w2 a1 cap1} hr hq hm hsl ho=>by
  have g2:G w2:=hl.same w w2 (λk hk=>hm.keep k (Nat.lt_of_lt_of_le hk (hl.size w hG)) λh=>by have:=hlow k h;omega) hG
  exact ⟨_,w2,_,.inl (run hr),aT (hl.plain g2),cI (pl w2) trivial aL,h w w2 a1 cap1 hC g2 hq hm hsl ho⟩
 have hxl:xs.length=nx*s:=by
  rcases hown w hC with ⟨_,rfl,rfl,_⟩|⟨_,_,_,_,_,_,h5,_⟩
  ·simp
  ·exact h5
 have len1:(xs++ys).length=(nx+ny)*s:=by rw[List.length_append,hxl,hly,Nat.add_mul]
 rcases Nat.lt_or_ge cap (nx+ny)with hg|hroom
 ·have hold:(Builtin.firstCells i.size nx (.slice a0 nx cap)).run P w.drew=.ok xs.toArray w.drew:=by
   rcases hown w hC with ⟨rfl,rfl,rfl,rfl⟩|⟨b,c,rfl,ho,_,_,_,ht⟩
   ·exact run_firstCells_none _ _ _ _ _
   ·refine run_firstCells_some _ _ _ _ _ _ _ (by rw[hsz];exact hxl) (λj u hv=> ?_)
    rw[Addr.add_mid,Nat.zero_add];have hcj:c[j]? =some u:=by
     have:(c.take xs.length)[j]? =some u:=by rw[ht];exact hv
     rw[List.getElem?_take]at this;split at this
     ·exact this
     ·cases this
    exact (ho.cell j).trans hcj
  have hr:=hs.grow ty a0 nx cap xs hold hg om (by rw[hby];exact growslice_fits hg hlen)
  have hge:=grownCap_ge w (nx+ny) cap e;obtain ⟨cc,hcc⟩: ∃cc,xs++ys++(Builtin.zeroCells z.cells (grownCap w (nx+ny) cap e-(nx+ny))).toList=cc:=⟨_,rfl⟩;have hcl:cc.length=grownCap w (nx+ny) cap e*s:=by
   rw[<-hcc,List.length_append,len1,Array.length_toList,size_zeroCells,hz1];obtain ⟨r,hr⟩:=Nat.exists_eq_add_of_le hge;rw[hr,Nat.add_sub_cancel_left,Nat.add_mul (nx+ny)]
  have hct:cc.take (xs++ys).length=xs++ys:=by rw[<-hcc,List.take_append_of_le_length aB,List.take_of_length_le aB]
  have harr:(xs++ys).toArray++Builtin.zeroCells z.cells (grownCap w (nx+ny) cap e-(nx+ny))=cc.toArray:=by
   rw[<-hcc];apply Array.ext';simp
  rw[harr]at hr;have hp:=((cI (pl w) trivial aL).grow aL ((Below.refl _ w).drew)).alloc aL 0 cc e;have hb:=hp.own 0 _ _ _ O;refine fin hr (.inr (ae hp)) (aY (ae hp)) (.inr ⟨_,cc,rfl,hb.1,hcl,hge,len1,hct⟩) (λk ⟨ad,e1,hk⟩=> ?_)
  cases e1
  subst hk;exact .inr (Nat.le_refl _)
 ·rcases hown w hC with ⟨rfl,rfl,rfl,rfl⟩|⟨b,c,rfl,ho,hc,hle,_,ht⟩
  ·have h0:ny=0:=om
   subst h0;have hys:ys=[]:=List.eq_nil_of_length_eq_zero (by rw[hly,Nat.zero_mul])
   subst hys;exact fin (hs.nil O ty) (.inr (Grow.refl w)) (aY (Grow.refl w)) (.inl ⟨rfl,rfl,rfl,rfl⟩) (λ_ h=>.inl h)
  ·have hin:nx*s+ys.length<=c.length:=by rw[hly,hc,<-Nat.add_mul];exact Nat.mul_le_mul_right s hroom
   have hr:=hs.room ty b nx cap hroom
    (λj hj=>by rw[hsz,Nat.zero_add,ho.cell,List.getElem?_eq_getElem om];rfl) (λj hj=>ho.frozen (by rw[hsz];omega))
   rw[hsz,show 0+nx*s=xs.length from by rw[hxl,Nat.zero_add]]at hr
   have hp:=Hq.lays (n:=0) (b:=b) (c:=c) (t:=e) aL ys (iW (n:=0) (M:=Of (spt b)) ho ⟨_,rfl,rfl⟩) O xs.length;have hb:=hp.own 0 _ _ _ O;exact fin hr (.inl ⟨rfl,rfl⟩) (jT hp) (.inr ⟨b,_,rfl,hb.1,by rw[fu];exact hc,hroom,len1,by rw[List.length_append];exact mI xs ys c (by rw[hxl];exact hin) ht⟩) (λ_ h=>.inl h)
theorem fr{low:Nat}(hl:GLow G low){t tx e:TypeId}{x y:Operand}{a0:Option Addr}{s cap nx ny by_ b0:Nat}{xs ys:List Value}{v z:Value}{U:Nat->Prop}(hG:dv G C)(hb0: ∀w,C w->b0<=w.heap.size)(hU: ∀w,C w->∀k,U k->k<w.heap.size)(hx:evF F x=some (.slice a0 nx cap))(hy:evF F y=some v)
 (hi:TI P e z s by_) (hz1:z.cells.size=s) (hown: ∀w,C w->SlW e s w a0 cap nx xs) (hlow: ∀k,Of a0 k->low<=k) (hsrc: ∀w,C w->∀i,P.info? e=some i->i.zero=some z->i.size=s->i.bytes=by_->ASrc P t tx e i z v ny ys w) (hlen:(nx+ny)*by_<=140737488355328) (h63:nx+ny<=4611686018427387904)
 (hw:bf ops F ⟨some d,.call {callee:=.builtin .append,args:= #[x,y],argTypes:= #[t,tx]},ty,pos,af,gd⟩=some true) (hd:Nat.blt d N=true)
 (hst: ∀w w2,C w->G w2->MM (Of a0) w w2->SlW e s w2 a0 cap nx xs->C w2)
 (h: ∀a1 cap1,(∀k,Of a1 k->Of a0 k\/(b0<=k/\¬U k))->Lx P G ro ops N ds (EE fs) Z rest ((d,.slice a1 (nx+ny) cap1)::F) (λw=>C w/\SlW e s w a1 cap1 (nx+ny) (xs++ys))):
 Lx P G ro ops N ds (EE fs) Z (⟨some d,.call {callee:=.builtin .append,args:= #[x,y],argTypes:= #[t,tx]},ty,pos,af,gd⟩::rest) F C:=by
 refine rR O O hG.2 (λw F' C'=> ∃w2 a1 cap1,F'=(d,.slice a1 (nx+ny) cap1)::F/\C'=Hp (pl w2) []/\((a1=a0/\cap1=cap)\/Grow w w2)/\MM (Of a0) w w2/\SlW e s w2 a1 cap1 (nx+ny) (xs++ys)/\(∀k,Of a1 k->Of a0 k\/w.heap.size<=k)) (λw hC _=>⟨λw'=>w'=w,rfl, ?_⟩) (λw w' F' C' hC hg hC' hz=> ?_)
 ·refine CN (ys:=ys) (xs:=xs) hl (λw' e=>by subst e;exact hG.2 _ hC) hx hy hi hz1 (λw' e=>by subst e;exact hown _ hC) hlow (λw' e=>by subst e;exact hsrc _ hC) hlen h63 hw hd (λw1 w2 a1 cap1 e g2 hq hm hs ho=> ?_)
  subst e;exact ⟨w2,a1,cap1,rfl,rfl,hq,hm,hs,ho⟩
 ·obtain ⟨w2,a1,cap1,rfl,rfl,hq,hm,hs,ho⟩:=hz
  have hgr:Grow w2 w':=ae hC';have hold:SlW e s w' a0 cap nx xs:=by
   rcases hq with ⟨rfl,rfl⟩|hq
   ·rcases hs with ⟨rfl,h5,h6,rfl⟩|⟨b',c',rfl,hob',h1',h2',h3',h4'⟩
    ·exact .inl ⟨rfl,(List.append_eq_nil_iff.1 h5).1,om,rfl⟩
    ·have hxl:xs.length=nx*s:=by
      rcases hown w hC with ⟨_,rfl,rfl,_⟩|⟨_,_,_,_,_,_,h5,_⟩
      ·simp
      ·exact h5
     refine .inr ⟨b',c',rfl,hob'.grow hgr,h1',om,hxl, ?_⟩;have h6:=congrArg (List.take xs.length) h4'
     rwa [List.take_take,List.length_append,Nat.min_eq_left om,List.take_append_of_le_length (Nat.le_refl _),List.take_of_length_le (Nat.le_refl _)]at h6
   ·exact ((hown w hC).grow hq).grow hgr
  exact ⟨λx=>C x/\SlW e s x a1 cap1 (nx+ny) (xs++ys),⟨λx x' hx hg=>⟨hG.1 x x' hx.1 hg,hx.2.grow hg⟩,λx hx=>hG.2 x hx.1⟩,
   ⟨hst w w' hC hg (hm.trans' (M':=λ_=>False) (aY hgr) λ_ h _=>h.elim) hold,hs.grow hgr⟩,λx hx=>hx.1,h a1 cap1 (λk hk=>(ho k hk).imp id λh=>⟨Nat.le_trans (hb0 w hC) h,λhu=>absurd (hU w hC k hu) (Nat.not_lt.2 h)⟩)⟩
theorem i3{b0:Nat}(row:List Value){t e:TypeId}{s:Nat}{z:Value}{x:Operand}(hG:dv G C)(hB: ∀w,G w->BOk G (pl w))(hb0: ∀w,C w->b0<=w.heap.size)(hx:evF F x=some (.agg row.toArray))(hr:row.length=s)(h0:0<s)(hl:s<=16777216)(hu:P.underlying t=some (.slice e))
 (hs: ∀w,(sizeOf e).run P w=.ok s w) (hz: ∀w,(zeroValue e).run P w=.ok z w) (hw:bf ops F ⟨some d,.buildSlice t 1 #[(0,x)],ty,pos,af,gd⟩=some true) (hd:Nat.blt d N=true)
 (h: ∀b,b0<=b->Lx P G ro ops N ds (EE fs) Z rest ((d,.slice (spt b) 1 1)::F) (λw=>C w/\OwnB w b row e)):Lx P G ro ops N ds (EE fs) Z (⟨some d,.buildSlice t 1 #[(0,x)],ty,pos,af,gd⟩::rest) F C:=by
 refine rR O O hG.2 (λw F' C'=> ∃b,F'=(d,.slice (spt b) 1 1)::F/\C'=Hp (pl w) [(0,b,row,e)]) (λw hC hg=>⟨Hp (pl w) [],cI (pl w) trivial aL, ?_⟩) (λw w' F' C' hC hg hC' hz=> ?_)
 ·exact iC 0 row (hB w hg) hx hr h0 hl hu hs hz hw hd (λb=>aa ⟨b,rfl,rfl⟩)
 ·obtain ⟨b,rfl,rfl⟩:=hz
  have ho:=hC'.own 0 _ _ _ O;exact ⟨λx=>C x/\OwnB x b row e,⟨λx x' hx hgr=>⟨hG.1 x x' hx.1 hgr,hx.2.grow hgr⟩,λx hx=>hG.2 x hx.1⟩,⟨hG.1 w w' hC (ae hC'),ho.1⟩,λx hx=>hx.1,h b (Nat.le_trans (hb0 w hC) (ho.2.elim id False.elim))⟩
theorem tv{b0:Nat}{v z:Value}{t e:TypeId}{x:Operand}(hG:dv G C)(hB: ∀w,G w->BOk G (pl w))(hb0: ∀w,C w->b0<=w.heap.size)(hx:evF F x=some v)(hone:v.oneCell'=true)(hu:P.underlying t=some (.slice e))
 (hs: ∀w,(sizeOf e).run P w=.ok 1 w) (hz: ∀w,(zeroValue e).run P w=.ok z w) (hw:bf ops F ⟨some d,.buildSlice t 1 #[(0,x)],ty,pos,af,gd⟩=some true) (hd:Nat.blt d N=true)
 (h: ∀b,b0<=b->Lx P G ro ops N ds (EE fs) Z rest ((d,.slice (spt b) 1 1)::F) (λw=>C w/\OwnB w b [v] e)):Lx P G ro ops N ds (EE fs) Z (⟨some d,.buildSlice t 1 #[(0,x)],ty,pos,af,gd⟩::rest) F C:=by
 refine rR O O hG.2 (λw F' C'=> ∃b,F'=(d,.slice (spt b) 1 1)::F/\C'=Hp (pl w) [(0,b,[v],e)]) (λw hC hg=>⟨Hp (pl w) [],cI (pl w) trivial aL, ?_⟩) (λw w' F' C' hC hg hC' hz=> ?_)
 ·exact iq 0 [v] (ps:=[(0,x)]) (len:=1) (hB w hg) (by simp[evL,hx]) O O aC aC hu hs hz (by simp[hone]) hw hd (λb=>aa ⟨b,rfl,rfl⟩)
 ·obtain ⟨b,rfl,rfl⟩:=hz
  have ho:=hC'.own 0 _ _ _ O;exact ⟨λx=>C x/\OwnB x b [v] e,⟨λx x' hx hgr=>⟨hG.1 x x' hx.1 hgr,hx.2.grow hgr⟩,λx hx=>hG.2 x hx.1⟩,⟨hG.1 w w' hC (ae hC'),ho.1⟩,λx hx=>hx.1,h b (Nat.le_trans (hb0 w hC) (ho.2.elim id False.elim))⟩
end
section
open Go.RowKit
end
section
open Go.RowKit
def EqB(P:Program)(t:TypeId)(n d0:Nat):Prop:= ∀xs ys:L8,xs.length=n->ys.length=n->∀(d:Nat) (w:World),(Op.equalIn (d+d0) t (.agg (xs.map U8).toArray) (.agg (ys.map U8).toArray)).run P w=.ok (decide (xs=ys)) w
theorem Fu{t e:TypeId}{n:Nat}(hu:P.underlying t=some (.array n e))(he:P.underlying e=some (.int .u8))(hs: ∀w,(sizeOf e).run P w=.ok 1 w)(hag: ∀w,(isAgg e).run P w=.ok false w):EqB P t n 2:=
 λxs ys hl hl' d w=>eq8 hu he hs hag xs ys hl hl' d w
theorem qN{t:TypeId}{m o:Nat}(hag: ∀w,(isAgg t).run P w=.ok true w)(hs: ∀w,(sizeOf t).run P w=.ok m w)(xs:L8)(w:World):(part t (xs.map U8).toArray o).run P w=.ok (.agg (((xs.drop o).take m).map U8).toArray) w:=by
 simp only[part,Sem.run_bind,hag,hs,Result.andThen_ok,if_true,Sem.run_pure];congr 2;simp[List.extract_toArray,List.map_take,List.map_drop]
theorem zv{xs ys:L8}{n:Nat}(hn:0<n): ∀(k:Nat),xs.length=k*n->ys.length=k*n->((List.range' 0 k).all (λi=>decide ((xs.drop (i*n)).take n=(ys.drop (i*n)).take n))=decide (xs=ys)):=by
 intro k hx hy;by_cases h:xs=ys
 ·subst h;simp
 ·rw[decide_eq_false h]
  cases hb:(List.range' 0 k).all (λi=>decide ((xs.drop (i*n)).take n=(ys.drop (i*n)).take n))with
  |false=>rfl
  |true=>
   exfalso;apply h;apply List.ext_getElem?;intro j;rcases Nat.lt_or_ge j (k*n)with hj|hj
   ·have hi:j / n<k:=Nat.div_lt_of_lt_mul (by rw[Nat.mul_comm];exact hj)
    have:=of_decide_eq_true (List.all_eq_true.1 hb (j / n) (by simp[List.mem_range'_1];exact hi))
    have e:=congrArg (λl=>l[j % n]?) this;have hm:=Nat.mod_lt j hn;simp only[List.getElem?_take,hm,if_true,List.getElem?_drop]at e;rw[Nat.mul_comm,Nat.div_add_mod]at e;exact e
   ·rw[List.getElem?_eq_none om,List.getElem?_eq_none om]
theorem vK{t e:TypeId}{k n d0:Nat}(hn:0<n)(hu:P.underlying t=some (.array k e))(hag: ∀w,(isAgg e).run P w=.ok true w)(hs: ∀w,(sizeOf e).run P w=.ok n w)(he:EqB P e n d0):EqB P t (k*n) (d0+1):=by
 intro xs ys hl hl' d w;rw[show d+(d0+1)=(d+d0)+1 from O,Op.equalIn];simp only[Sem.run_bind,run_underlying hu,Result.andThen_ok,hs];rw[Std.Legacy.Range.forIn_eq_forIn_range'];have key: ∀is:List Nat,(∀i∈is,i<k)->∀{β:Type} (f:Nat->β->Sem (ForInStep β)) (b b1:β),(∀i,i<k->(f i b).run P w=.ok (if decide ((xs.drop (i*n)).take n=(ys.drop (i*n)).take n)then .yield b else .done b1) w)->(forIn is b f).run P w=.ok (if is.all (λi=>decide ((xs.drop (i*n)).take n=(ys.drop (i*n)).take n))then b else b1) w:=by
  intro is
  induction is with
  |nil=>intro _ β f b b1 _;simp
  |cons i r ih=>
   intro hi β f b b1 hf;rw[List.forIn_cons,Sem.run_bind,hf i (hi i aB),Result.andThen_ok,List.all_cons]
   cases hb:decide ((xs.drop (i*n)).take n=(ys.drop (i*n)).take n)with
   |true=>simpa using ih (λj hj=>hi j (by simp[hj])) f b b1 hf
   |false=>simp
 rw[key _ (by intro i hi;simp at hi;omega) _ _ ⟨some false,()⟩ ?_]
 ·have:=zv hn k hl hl'
  simp only[Std.Legacy.Range.size,Nat.sub_zero,Nat.add_sub_cancel,Nat.div_one]at*;rw[this]
  cases decide (xs=ys)<;>simp
 ·intro i hi
  have hle:i*n+n<=k*n:=by have:=Nat.mul_le_mul_right n hi;rw[Nat.succ_mul]at this;exact this
  have p1:=qN (o:=i*n) hag hs xs w;have p2:=qN (o:=i*n) hag hs ys w;have e1:=he ((xs.drop (i*n)).take n) ((ys.drop (i*n)).take n) (by rw[List.length_take,List.length_drop];omega) (by rw[List.length_take,List.length_drop];omega) d w
  simp only[Sem.run_bind,p1,p2,e1,Result.andThen_ok]
  cases decide ((xs.drop (i*n)).take n=(ys.drop (i*n)).take n)<;>simp
theorem xa{t:TypeId}{n d0:Nat}(he:EqB P t n d0)(hd:d0<=100)(xs ys:L8)(hl:xs.length=n)(hl':ys.length=n)(w:World):(binOp .eql t (.agg (xs.map U8).toArray) (.agg (ys.map U8).toArray)).run P w=.ok (.bool (decide (xs=ys))) w:=by
 rw[run_eql_struct,show (10000:Nat)=(10000-d0)+d0 by omega,he xs ys hl hl' (10000-d0) w];rfl
theorem nW{t:TypeId}{n d0:Nat}(he:EqB P t n d0)(hd:d0<=100)(xs ys:L8)(hl:xs.length=n)(hl':ys.length=n)(w:World):(binOp .neq t (.agg (xs.map U8).toArray) (.agg (ys.map U8).toArray)).run P w=.ok (.bool (!decide (xs=ys))) w:=by
 rw[run_neq_struct,show (10000:Nat)=(10000-d0)+d0 by omega,he xs ys hl hl' (10000-d0) w];rfl
end
section
open Go.RowKit
section
variable {l:List Oper} {E:Oper->Bool} {KK':Cls->Prop} {mk rk:Oper->Bool} {K:KK}
end
end
section
open Go.RowKit
theorem AZ{f:Nat}{x:Operand}{ft cl:List Value}{al:List Operand}{at':Array TypeId}{vs:List Value}{v:Value}(hx:evF F x=some (.func (.func f) ft.toArray cl.toArray))(ha:evL F al=some vs)(he:aJ P f)
 (hp: ∀w,Hp B L w->G w->Calls P f (ft++vs++cl).toArray w (λe w'=>e=.returned v/\Grow w w')) (hB:BOk G B)
 (hw:bf ops F ⟨some d,.call {callee:=.value x,args:=al.toArray,argTypes:=at'},ty,pos,af,gd⟩=some true) (hd:iX N (some d)=true) (hE:EE fs ⟨some d,.call {callee:=.value x,args:=al.toArray,argTypes:=at'},ty,pos,af,gd⟩=true)
 (h:Lx P G ro ops N ds (EE fs) Z rest ((d,v)::F) (Hp B L))
 (hgr:EE fs (f9 ⟨some d,.call {callee:=.value x,args:=al.toArray,argTypes:=at'},ty,pos,af,gd⟩)=false:=by rfl):
 Lx P G ro ops N ds (EE fs) Z (⟨some d,.call {callee:=.value x,args:=al.toArray,argTypes:=at'},ty,pos,af,gd⟩::rest) F (Hp B L):=by
 unfold Lx;rw[hE];intro a w hA hC;refine ⟨hA.want hw,λf _=>dI ro f, ?_⟩;rw[show (FW ro).round=ro from O,Oper.semAt_eq _ _ _ (λ_ h=>by cases h)]
 have e:(execOp a.eval ⟨some d,.call {callee:=.value x,args:=al.toArray,argTypes:=at'},ty,pos,af,gd⟩).run P w=.ok (.enter f (ft++vs++cl).toArray) w:=by
  have e:=hA.evL ha;simp only[execOp,resolve,invoke,Sem.run_bind,Sem.run_pure,Result.andThen_ok,List.map_toArray,e,hA.ev hx,Deferred.ofValue];simp[he _ w]
 rw[e];refine ⟨λh=>(by cases h),CallsIn.mono (eM (hp w hC (hB.g _ _ _ hC))) λe w' ⟨he',hg⟩=> ?_⟩
 subst he';exact ⟨_,Hp B L,hA.putF hd v,aT hB,hC.grow hB.r hg,λh=>(by rw[hgr]at h;cases h),h⟩
end
end Go.Proofs.YtfakhlafilbjkaaGreatDoor
