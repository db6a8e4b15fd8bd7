/- X3 -/
import Derived.Test.YtjookodjbjabbaaGreatDoorX2
import Derived.Laws.MakeOwn
set_option maxRecDepth 100000
set_option maxHeartbeats 1000000
namespace Go.Proofs.YtjookodjbjabbaaGreatDoor
variable {P:Program} {G:Cls} {ro:Option Nat} {ops:Array Oper} {N:Nat} {ds:List Deferred} {fs:List Nat} {Z:Fr->Cls->Prop} {F:Fr} {C:Cls} {rest:List Oper} {d:Nat} {ty:TypeId} {pos:String} {af:Array Edge} {gd:Option (Nat×Bool)} {B:Bs} {L:Hl}
section
open Go.RowKit
theorem yF{t:TypeId}{f:Field}{l:L6}(hl:l.length=6)(hu:P.underlying t=some (.struct #[f]))(h0:f.offset=0)(hs: ∀w,(sizeOf f.type).run P w=.ok 6 w)
 (hz: ∀w,(zeroValue t).run P w=.ok (aJ (List.replicate 6 0#64)) w) (w:World):(Instr.build t #[(0,aJ l)]).run P w=.ok (aJ l) w:=by
 match l,hl with
 |[_,_,_,_,_,_],_=>simp[Instr.build,hz,run_underlying hu,hs,h0,Value.cells,Instr.fill,List.replicate]
theorem ch{t:TypeId}{f:Field}{x:Operand}{l:L6}(hx:evF F x=some (aJ l))(hl:l.length=6)(hu:P.underlying t=some (.struct #[f]))(h0:f.offset=0)(hs: ∀w,(sizeOf f.type).run P w=.ok 6 w)
 (hz: ∀w,(zeroValue t).run P w=.ok (aJ (List.replicate 6 0#64)) w) (hw:aT ops F ⟨some d,.build t #[(0,x)],ty,pos,af,gd⟩=some true) (hd:Nat.blt d N=true)
 (h:Lx P G ro ops N ds (EE fs) Z rest ((d,aJ l)::F) C):Lx P G ro ops N ds (EE fs) Z (⟨some d,.build t #[(0,x)],ty,pos,af,gd⟩::rest) F C:=
 ek (ps:=[(0,x)]) (vs:=[aJ l]) (by simp[evL,hx]) (λw=>yF hl hu h0 hs hz w) hw hd h
theorem yE{t e:TypeId}{n:BitVec 64}(hu:P.underlying t=some (.array 6 e))(hs: ∀w,(sizeOf e).run P w=.ok 1 w)
 (hz: ∀w,(zeroValue t).run P w=.ok (aJ (List.replicate 6 0#64)) w) (w:World):(Instr.build t #[(0,U64 n)]).run P w=.ok (aJ (n::List.replicate 5 0)) w:=by
 simp[Instr.build,hz,run_underlying hu,hs,Value.cells,Instr.fill,List.replicate,U64]
theorem eu{t e:TypeId}{x:Operand}(n:BitVec 64)(hx:evF F x=some (U64 n))(hu:P.underlying t=some (.array 6 e))(hs: ∀w,(sizeOf e).run P w=.ok 1 w)
 (hz: ∀w,(zeroValue t).run P w=.ok (aJ (List.replicate 6 0#64)) w) (hw:aT ops F ⟨some d,.build t #[(0,x)],ty,pos,af,gd⟩=some true) (hd:Nat.blt d N=true)
 (h:Lx P G ro ops N ds (EE fs) Z rest ((d,aJ (n::List.replicate 5 0))::F) C):Lx P G ro ops N ds (EE fs) Z (⟨some d,.build t #[(0,x)],ty,pos,af,gd⟩::rest) F C:=
 ek (ps:=[(0,x)]) (vs:=[U64 n]) (by simp[evL,hx]) (λw=>yE hu hs hz w) hw hd h
end
section
open Go.RowKit
theorem OwnB.range{w:World}{b:Nat}{c:List Value}{t:TypeId}(h:OwnB w b c t):w.rangeAt b 0 c:=by
 obtain ⟨fz,h,_⟩:=h;intro j v hj;simp[World.cell?,h,hj]
theorem ww{t:TypeId}(hag: ∀w,(isAgg t).run P w=.ok true w)(hs: ∀w,(sizeOf t).run P w=.ok 6 w)(xs:L6)(hl:xs.length=6)(w:World):(part t (xs.map U64).toArray 0).run P w=.ok (aJ xs) w:=by
 simp only[part,Sem.run_bind,hag,hs,Result.andThen_ok,if_true,Sem.run_pure,Nat.zero_add];congr 2;have:(xs.map U64).length=6:=by rw[List.length_map,hl]
 simp[List.extract_toArray,this,List.take_of_length_le]
theorem eqS{t e:TypeId}{f:Field}(hu:P.underlying t=some (.struct #[f]))(h0:f.offset=0)(hn:f.name≠ "_")(hsi:P.stoodInHeld t=false)(hag: ∀w,(isAgg f.type).run P w=.ok true w)(hs: ∀w,(sizeOf f.type).run P w=.ok 6 w)
 (hua:P.underlying f.type=some (.array 6 e)) (he:P.underlying e=some (.int .u64)) (hse: ∀w,(sizeOf e).run P w=.ok 1 w) (hae: ∀w,(isAgg e).run P w=.ok false w) (xs ys:L6) (hl:xs.length=6) (hl':ys.length=6) (d:Nat) (w:World):
 (Op.equalIn (d+3) t (aJ xs) (aJ ys)).run P w=.ok (decide (xs=ys)) w:=by
 rw[show d+3=(d+2)+1 from O,Op.equalIn];simp only[Sem.run_bind,run_underlying hu,Result.andThen_ok];simp[hsi,hn,h0,ww hag hs xs hl,ww hag hs ys hl',Qr hua he hse hae xs ys hl hl' d];by_cases h:xs=ys<;>simp[h]
theorem IC{t e:TypeId}{f:Field}(hu:P.underlying t=some (.struct #[f]))(h0:f.offset=0)(hn:f.name≠ "_")(hsi:P.stoodInHeld t=false)(hag: ∀w,(isAgg f.type).run P w=.ok true w)(hs: ∀w,(sizeOf f.type).run P w=.ok 6 w)
 (hua:P.underlying f.type=some (.array 6 e)) (he:P.underlying e=some (.int .u64)) (hse: ∀w,(sizeOf e).run P w=.ok 1 w) (hae: ∀w,(isAgg e).run P w=.ok false w) (xs ys:L6) (hl:xs.length=6) (hl':ys.length=6) (w:World):
 (binOp .neq t (aJ xs) (aJ ys)).run P w=.ok (.bool (!decide (xs=ys))) w:=by
 rw[run_neq_struct,eqS hu h0 hn hsi hag hs hua he hse hae xs ys hl hl' 9997 w];rfl
end
section
open Go.RowKit
theorem Ga{f:Nat}{al:List Operand}{at':Array TypeId}{vs:List Value}{b:Bool}(b':Bool)(hf:fs.any (Nat.beq f)=false)(ha:evL F al=some vs)(he:ai P f)(hp:lZ P G f vs (.bool b))(hb:b=b')
 (hw:aT ops F ⟨some d,.call {callee:=.value (.func f),args:=al.toArray,argTypes:=at'},ty,pos,af,gd⟩=some true) (hd:Nat.blt d N=true)
 (h:Lx P G ro ops N ds (EE fs) Z rest ((d,.bool b')::F) C):Lx P G ro ops N ds (EE fs) Z (⟨some d,.call {callee:=.value (.func f),args:=al.toArray,argTypes:=at'},ty,pos,af,gd⟩::rest) F C:=
 mK hf ha he (hb▸hp) hw hd h
theorem tg{op:BinOp}{t yt:TypeId}{x y:Operand}{vx vy:Value}{b:Bool}(b':Bool)(hx:evF F x=some vx)(hy:evF F y=some vy)(hg: ∀w,(eqGuard op t x y vx vy).run P w=.ok () w)
 (hr: ∀w,(binOp op t vx vy).run P w=.ok (.bool b) w) (hb:b=b') (hw:aT ops F ⟨some d,.binOp op t x y yt,ty,pos,af,gd⟩=some true) (hd:Nat.blt d N=true)
 (h:Lx P G ro ops N ds (EE fs) Z rest ((d,.bool b')::F) C):Lx P G ro ops N ds (EE fs) Z (⟨some d,.binOp op t x y yt,ty,pos,af,gd⟩::rest) F C:=
 cr hx hy hg (hb▸hr) hw hd h
theorem gV{t:TypeId}{g m:Nat}{cs:List Value}(hG:BOk G B)(hag: ∀w,(isAgg t).run P w=.ok true w)(hs: ∀w,(sizeOf t).run P w=.ok m w)(hm:cs.length=m)(hc: ∀w,G w->w.rangeAt g 0 cs)
 (hw:aT ops F ⟨some d,.load t (.global g),ty,pos,af,gd⟩=some true) (hd:Nat.blt d N=true)
 (h:Lx P G ro ops N ds (EE fs) Z rest ((d,.agg cs.toArray)::F) (Hp B L)):Lx P G ro ops N ds (EE fs) Z (⟨some d,.load t (.global g),ty,pos,af,gd⟩::rest) F (Hp B L):=
 de O hag hs hm (λw hw=>hc w (hG.g _ _ w hw)) hw hd h
theorem aw(n:Nat){t et:TypeId}{x:Operand}{b o m:Nat}{c:List Value}(cs:List Value)(hx:evF F x=some (.pointer (some ⟨b,o,none⟩)))(hl:lkB L n=some (b,c,et))(hag: ∀w,(isAgg t).run P w=.ok true w)(hs: ∀w,(sizeOf t).run P w=.ok m w)
 (hm:cs.length=m) (hv: ∀j v,cs[j]? =some v->c[o+j]? =some v) (hw:aT ops F ⟨some d,.load t x,ty,pos,af,gd⟩=some true) (hd:Nat.blt d N=true)
 (h:Lx P G ro ops N ds (EE fs) Z rest ((d,.agg cs.toArray)::F) (Hp B L)):Lx P G ro ops N ds (EE fs) Z (⟨some d,.load t x,ty,pos,af,gd⟩::rest) F (Hp B L):=
 de hx hag hs hm (pT (n:=n) hl hv) hw hd h
theorem lh(n:Nat){t et:TypeId}{x y:Operand}{b o m:Nat}{c:List Value}{vs:List Value}(c':List Value)(hG:BOk G B)(hx:evF F x=some (.pointer (some ⟨b,o,none⟩)))(hy:evF F y=some (.agg vs.toArray))(hl:lkB L n=some (b,c,et))
 (hs: ∀w,(sizeOf t).run P w=.ok m w) (hm:vs.length=m) (hv:vs.all (·.oneCell')=true) (ho:o+vs.length<=c.length) (he:lay o vs c=c') (hw:aT ops F ⟨none,.store t x y,ty,pos,af,gd⟩=some true)
 (h:Lx P G ro ops N ds (EE fs) Z rest F (Hp B ((n,b,c',et)::L))):Lx P G ro ops N ds (EE fs) Z (⟨none,.store t x y,ty,pos,af,gd⟩::rest) F (Hp B L):=
 fQ n hG hx hy hl hs hm hv ho hw (he▸h)
theorem fx{t e:TypeId}{len sz:Nat}(k o':Nat){x ix:Operand}{b o:Nat}{i:Int}(hx:evF F x=some (.pointer (some ⟨b,o,none⟩)))(hi:evF F ix=some (I i))(hu:P.underlying t=some (.array len e))
 (hs: ∀w,(sizeOf e).run P w=.ok sz w) (hk:i=(k:Int)) (hb:k<len) (ho:o+k*sz=o') (hw:aT ops F ⟨some d,.indexAddr t x ix,ty,pos,af,gd⟩=some true) (hd:Nat.blt d N=true)
 (h:Lx P G ro ops N ds (EE fs) Z rest ((d,.pointer (some ⟨b,o',none⟩))::F) C):Lx P G ro ops N ds (EE fs) Z (⟨some d,.indexAddr t x ix,ty,pos,af,gd⟩::rest) F C:=
 EC hx hi hu hs om hw hd (by rw[show i.toNat=k by omega,ho];exact h)
end
section
open Go.RowKit
theorem lL{f:Field}{n:Nat}(hs: ∀w,(sizeOf f.type).run P w=.ok n w)(w:World): ∃a,(Array.mapM (λf:Field=>Prod.mk f.offset<$>sizeOf f.type) #[f]:Sem _).run P w=.ok a w:=⟨#[(f.offset,n)],by simp[hs]⟩
theorem iy(t:TypeId)(hu:P.underlying t=some .bool)(a b:Bool)(w:World):(binOp .eql t (.bool a) (.bool b)).run P w=.ok (.bool (a==b)) w:=by
 have h: ∀d:Nat,(Op.equalIn (d+1) t (.bool a) (.bool b)).run P w=.ok (a==b) w:=λd=>by simp[Op.equalIn,run_underlying hu]
 simp only[binOp];simp[Op.equal,Op.maxDepth,h 9999]
theorem uD(t:TypeId)(hu:P.underlying t=some .bool)(a b:Bool)(w:World):(binOp .neq t (.bool a) (.bool b)).run P w=.ok (.bool (a !=b)) w:=by
 have h: ∀d:Nat,(Op.equalIn (d+1) t (.bool a) (.bool b)).run P w=.ok (a==b) w:=λd=>by simp[Op.equalIn,run_underlying hu]
 simp only[binOp];simp[Op.equal,Op.maxDepth,h 9999,bne]
end
section
open Go.RowKit
theorem u9(o:Nat): ∀(vs:List Value) (k:Nat) (c:List Value),(vs.zipIdx k).foldl (λ(cs:Array Value) (p:Value×Nat)=>cs.setIfInBounds (o+p.2) p.1) c.toArray=(lay (o+k) vs c).toArray
 |[],_,_=>rfl
 |v::r,k,c=>by
  have ih:=u9 o r (k+1) (c.set (o+k) v);rw[List.zipIdx_cons,List.foldl_cons,lay];simp only[List.setIfInBounds_toArray];rw[ih,Nat.add_assoc]
theorem dv{place:Nat->Option (Nat×Nat)}{i off size:Nat}{vs c:List Value}(hp:place i=some (off,size))(hs:vs.length=size)(ho:off+vs.length<=c.length)(rest:List (Nat×Value)):
 Instr.fill place c.toArray ((i,.agg vs.toArray)::rest)=Instr.fill place (lay off vs c).toArray rest:=by
 have h:=u9 off vs 0 c;have hn: ¬((decide ((Value.agg vs.toArray).cells.size≠size)||decide (off+(Value.agg vs.toArray).cells.size>c.toArray.size))=true):=by
  simp[Value.cells,hs];omega
 have e:(Value.agg vs.toArray).cells.zipIdx.foldl (λ(cs:Array Value) (p:Value×Nat)=>cs.setIfInBounds (off+p.2) p.1) c.toArray=(lay off vs c).toArray:=by
  rw[<-Array.foldl_toList,Array.toList_zipIdx];exact h
 rw[Instr.fill,hp];show (if (decide ((Value.agg vs.toArray).cells.size≠size)||decide (off+(Value.agg vs.toArray).cells.size>c.toArray.size))=true then none else _)=_
 rw[if_neg hn,<-e]
/-! ### Rows of six -/
def FL(f:Nat->L6)(n:Nat):L6:=(List.range (6*n)).map λm=>(f (m / 6)).getD (m % 6) 0
theorem bf(f:Nat->L6)(n:Nat):(FL f n).length=6*n:=by rw[FL,List.length_map,List.length_range]
theorem yz(f:Nat->L6)(n m:Nat)(h:m<6*n):(FL f n)[m]? =some ((f (m / 6)).getD (m % 6) 0):=by
 rw[FL,List.getElem?_map,List.getElem?_range h];rfl
theorem Iu(f:Nat->L6)(n k:Nat)(hk:k<n)(hf:(f k).length=6)(o:Nat)(ho:o=6*k): ∀j v,((f k).map U64)[j]? =some v->((FL f n).map U64)[o+j]? =some v:=λj v hv=>by
 have hj:j<6:=by
  rcases Nat.lt_or_ge j 6 with h|h
  ·exact h
  ·rw[List.getElem?_eq_none (by rw[List.length_map,hf];exact h)]at hv;cases hv
 rw[List.getElem?_map]at hv⊢;rw[yz f n (o+j) om,show (o+j) / 6=k by omega,show (o+j) % 6=j by omega]
 rw[List.getElem?_eq_getElem om]at hv;rw[<-hv,List.getD_eq_getElem?_getD,List.getElem?_eq_getElem om];rfl
theorem vS{f g:Nat->L6}{n:Nat}(h: ∀i,i<n->f i=g i):FL f n=FL g n:=by
 unfold FL;refine List.map_congr_left λm hm=> ?_;rw[List.mem_range]at hm;rw[h (m / 6) om]
theorem E9(f:Nat->L6)(n k:Nat)(g:L6)(hk:k<n)(hg:g.length=6)(o:Nat)(ho:o=6*k):lay o (g.map U64) ((FL f n).map U64)=(FL (λi=>if i=k then g else f i) n).map U64:=by
 apply List.ext_getElem?;intro m;rw[iw _ _ _ _ (by rw[List.length_map,List.length_map,bf,hg];omega)]
 rw[List.length_map,hg,List.getElem?_map (l:=FL (λi=>if i=k then g else f i) n)]
 by_cases hm:m<6*n
 ·rw[yz _ n m hm]
  by_cases h:o<=m/\m<o+6
  ·rw[if_pos h,if_pos om,List.getElem?_map,List.getElem?_eq_getElem om,List.getD_eq_getElem?_getD,show m % 6=m-o by omega,List.getElem?_eq_getElem om]
   rfl
  ·rw[if_neg h,if_neg om,List.getElem?_map,yz f n m hm]
 ·rw[if_neg om,List.getElem?_map,List.getElem?_eq_none (by rw[bf];omega),List.getElem?_eq_none (by rw[bf];omega)]
theorem w6{t e:TypeId}{n:Nat}{l:L6}{z:Nat->L6}(hl:l.length=6)(hn:0<n)(hu:P.underlying t=some (.array n e))(hs: ∀w,(sizeOf e).run P w=.ok 6 w)
 (hz: ∀w,(zeroValue t).run P w=.ok (aJ (FL z n)) w) (w:World):(Instr.build t #[(0,aJ l)]).run P w=.ok (aJ (FL (λi=>if i=0 then l else z i) n)) w:=by
 have h:=dv (place:=λi=>some (i*6,6)) (i:=0) (off:=0) (vs:=l.map U64) (c:=(FL z n).map U64) O (by rw[List.length_map,hl]) (by rw[List.length_map,List.length_map,bf,hl];omega) []
 rw[E9 z n 0 l hn hl 0 O]at h;simp only[Instr.build,hz,run_underlying hu,hs,Sem.run_bind,Result.andThen_ok];rw[show (Value.agg (List.map U64 (FL z n)).toArray).cells=(List.map U64 (FL z n)).toArray from O,h];rfl
theorem Cg{t e:TypeId}{n:Nat}{x:Operand}{l:L6}{z:Nat->L6}(hx:evF F x=some (aJ l))(hl:l.length=6)(hn:0<n)(hu:P.underlying t=some (.array n e))(hs: ∀w,(sizeOf e).run P w=.ok 6 w)
 (hz: ∀w,(zeroValue t).run P w=.ok (aJ (FL z n)) w) (hw:aT ops F ⟨some d,.build t #[(0,x)],ty,pos,af,gd⟩=some true) (hd:Nat.blt d N=true)
 (h:Lx P G ro ops N ds (EE fs) Z rest ((d,aJ (FL (λi=>if i=0 then l else z i) n))::F) C):Lx P G ro ops N ds (EE fs) Z (⟨some d,.build t #[(0,x)],ty,pos,af,gd⟩::rest) F C:=
 ek (ps:=[(0,x)]) (vs:=[aJ l]) (by simp[evL,hx]) (λw=>w6 hl hn hu hs hz w) hw hd h
end
section
open Go.RowKit
section
variable {E:Oper->Bool} {Q:Exit->Act->World->Prop}
theorem ip{Z:Fr->Cls->Prop}(hZ: ∀F C,dJ G C->Z F C->rQ N ds Q .normal F C)(l2:List Oper): ∀(l:List Oper) (F:Fr) (C:Cls),dJ G C->
 Lx P G ro ops N ds E (λF' C'=> ∃E',Lx P G ro ops N ds E' Z l2 F' C') l F C->∀a w,Has N ds F a->C w->wpListIn (FW ro) 0 P ops Q (l++l2) a w
 |[],F,C,hS,h,a,w,ha,hw=>by
  obtain ⟨E',h⟩:=h;exact eM hZ l2 F C hS h a w ha hw
 |o::rest,F,C,hS,h,a,w,ha,hw=>by
  rw[List.cons_append];unfold wpListIn;unfold Lx at h
  cases hE:E o with
  |true=>
   rw[hE]at h;obtain ⟨hwant,hwp⟩:=h a w ha hw;rw[if_pos hwant];refine Oper.wpIn_exits (Oper.wpIn_mono (λa' w' hk=> ?_) hwp);obtain ⟨F',C',ha',hS',hw',_,hk⟩:=hk;exact ip hZ l2 rest F' C' hS' hk a' w' ha' hw'
  |false=>
   rw[hE]at h;obtain ⟨v,⟨hd,hy⟩,hk⟩:=h;have hcls:ii G o C w:=pg hS hw;rcases hy a ha with ⟨hwant,hy⟩|⟨hwant,rfl⟩
   ·rw[if_pos hwant]
    exact hy.wpIn hcls λw' hg=>ip hZ l2 rest _ C hS hk _ w' (ha.putF hd v) (hS.1 _ _ hw hg)
   ·rw[if_neg (by simp[hwant])]
    exact ⟨λf _=>dP ro f,ip hZ l2 rest _ C hS hk _ w (ha.putF hd _) hw⟩
end
theorem IS{t e:TypeId}{len sz:Nat}(o':Nat){x ix:Operand}{b o:Nat}{i:BitVec 8}(hx:evF F x=some (.pointer (some ⟨b,o,none⟩)))(hi:evF F ix=some (U8 i))(hu:P.underlying t=some (.array len e))
 (hs: ∀w,(sizeOf e).run P w=.ok sz w) (hb:i.toNat<len) (ho:o+i.toNat*sz=o') (hw:aT ops F ⟨some d,.indexAddr t x ix,ty,pos,af,gd⟩=some true) (hd:Nat.blt d N=true)
 (h:Lx P G ro ops N ds (EE fs) Z rest ((d,.pointer (some ⟨b,o',none⟩))::F) C):Lx P G ro ops N ds (EE fs) Z (⟨some d,.indexAddr t x ix,ty,pos,af,gd⟩::rest) F C:=
 cq (v:=.pointer (some ⟨b,o',none⟩)) O hw hd (λ_ h=>by cases h) (λa w ha _=>by
  have h1: ¬len<=i.toNat:=om;simp only[execOp,ha.ev hx,ha.ev hi,U8];simp[Instr.indexAt,asIntOf,run_underlying hu,Instr.sureAddr,h1,hs,Addr.add_mid,ho]) h
section
variable {K:KK}
theorem Fp{id:Nat}{l:List Oper}{E:Oper->Bool}(n:Nat)(h:Lx P G ro l.toArray N ds E (λF' C'=> ∃E',Lx P G ro l.toArray N ds E' (K .normal ds) (l.drop n) F' C') (l.take n) F C):X P G ro N ds (.region id l.toArray false) F C K:=λhS a w ha hw=>by
 have key:=ip (Q:=λe a' w'=> ∃ds' F' C',dJ G C'/\Has N ds' F' a'/\C' w'/\K e ds' F' C') (λF' C' hS' hk a' w' ha' hw'=>⟨ds,F',C',hS',ha',hw',hk⟩) (l.drop n) (l.take n) F C hS h a w ha hw;rw[List.take_append_drop]at key;exact wpIn_region_lit key
theorem B3{id:Nat}{l:List Oper}{E:Oper->Bool}{y:Code}(n:Nat)(h:Lx P G ro l.toArray N ds E (λF' C'=> ∃E',Lx P G ro l.toArray N ds E' (λF' C'=>X P G ro N ds y F' C' K) (l.drop n) F' C') (l.take n) F C):X P G ro N ds (.seq (.region id l.toArray false) y) F C K:=ae (Fp n h)
end
end
section
open Go.RowKit
section
variable {l:List Oper} {E:Oper->Bool} {K:KK}
def np(l:List Oper)(σ:List Nat):Array Bool:=fL σ (Array.replicate l.toArray.size false)
def TR(P:Program)(G:Cls)(ro:Option Nat)(N:Nat)(ds:List Deferred)(l:List Oper)(E:Oper->Bool)(K:KK)(m:Nat)(σ:List Nat)(F:Fr)(C:Cls):Prop:=
 Region.noSelect l.toArray=true->db l.toArray=true->Closed .any l.toArray (np l σ)->dJ G C->∀a,Has N ds F a->
  kf P G ro .any l.toArray (λe a' w'=> ∃ds' F' C',dJ G C'/\Has N ds' F' a'/\C' w'/\K e ds' F' C') E m (np l σ) a C
theorem wr(σ τ:List Nat):np l (σ++τ)=fL τ (np l σ):=by unfold np fL;rw[List.foldl_append]
theorem aO{m:Nat}{σ:List Nat}(τ:List Nat)(hok:nW .any l.toArray E τ (np l σ)=true)(h:Lx P G ro l.toArray N ds E (λF' C'=>TR P G ro N ds l E K m (σ++τ) F' C') (fT τ l) F C):
 TR P G ro N ds l E K (τ.length+m) σ F C:=λhsel hdef hc hS a ha=>by
 rw[<-iK]at h;refine mN (Z:=λF' C'=>TR P G ro N ds l E K m (σ++τ) F' C') hsel hdef τ _ F C a hc hok ha hS (λF' C' a' hc' ha' hS' hZ=> ?_) h;have hZ:TR P G ro N ds l E K m (σ++τ) F' C':=hZ;rw[<-wr]at hc'⊢;exact hZ hsel hdef hc' hS' a' ha'
theorem ew{m:Nat}{σ:List Nat}(R:List Nat)(hR:Region.ready .any l.toArray (np l σ)=R)(hE:R.all (λi=>(l.toArray[i]?).any E)=true)(hne:R≠[])
 (h: ∀i∈R,Lx P G ro l.toArray N ds E (λF' C'=>TR P G ro N ds l E K m (σ++[i]) F' C') (fT [i] l) F C):TR P G ro N ds l E K (m+1) σ F C:=λhsel hdef hc hS a ha=>by
 refine ⟨λh0=>absurd (hR.symm.trans h0) hne,λi hi oi hoi=> ?_⟩;have hiR:i∈R:=by rw[<-hR];exact hi
 have hEi:E oi=true:=by have:=List.all_eq_true.1 hE i hiR;rw[hoi]at this;exact this
 have hx:=h i hiR;rw[<-iK]at hx;have hl:[i].filterMap (l.toArray[·]?)=[oi]:=by simp only[List.filterMap_cons,hoi,List.filterMap_nil]
 rw[hl]at hx;unfold Lx at hx;rw[hEi]at hx⊢;intro w hw;obtain ⟨hwant,hwp⟩:=hx a w ha hw;refine ⟨hwant,Oper.wpIn_mono (λa' w' hk=> ?_) hwp⟩;obtain ⟨F',C',ha',hS',hw',hgr,hk⟩:=hk;refine ⟨C',hS',hw',hgr, ?_⟩;have hk:TR P G ro N ds l E K m (σ++[i]) F' C':=hk;have hc':=hc.set hi;have e:np l (σ++[i])=(np l σ).setIfInBounds i true:=wr σ [i];rw[<-e]at hc'⊢;exact hk hsel hdef hc' hS' a' ha'
theorem cF{σ:List Nat}(hR:Region.ready .any l.toArray (np l σ)=[])(h:K .normal ds F C):TR P G ro N ds l E K 0 σ F C:=λ_ _ _ hS _ ha=>⟨hR,λ_ hw=>⟨ds,F,C,hS,ha,hw,h⟩⟩
theorem lF{id:Nat}(E:Oper->Bool)(hm:P.follows .mixedOrders=true)(hsel:Region.noSelect l.toArray=true)(hdef:db l.toArray=true)(h:TR P G ro N ds l E K l.length [] F C):X P G ro N ds (.region id l.toArray true) F C K:=λhS a w ha hw=>by
 refine wpIn_region_any hm ?_;have hc:Closed .any l.toArray (np l []):=λj i _ hj=>by
  rcases Nat.lt_or_ge j l.toArray.size with h'|h'
  ·simp at h';simp[np,fL,h']at hj
  ·simp at h';simp[np,fL,h']at hj
 exact dM _ _ _ C _ hS (hS.1 w _ hw ((Below.refl _ w).drew)) (h hsel hdef hc hS a ha)
theorem oz{id:Nat}{y:Code}(E:Oper->Bool)(hm:P.follows .mixedOrders=true)(hsel:Region.noSelect l.toArray=true)(hdef:db l.toArray=true)(h:TR P G ro N ds l E (rp (λds' F' C'=>X P G ro N ds' y F' C' K) K) l.length [] F C):X P G ro N ds (.seq (.region id l.toArray true) y) F C K:=
 ae (lF E hm hsel hdef h)
end
theorem bE(n:Nat){t:TypeId}{l:List Value}(hG:BOk G B)(hz: ∀w,(zeroValue t).run P w=.ok (.agg l.toArray) w)(hn:lkB L n=none)(hw:aT ops F ⟨some d,.alloc t,ty,pos,af,gd⟩=some true)(hd:Nat.blt d N=true)
 (h: ∀b,Lx P G ro ops N ds (EE fs) Z rest ((d,pnt b)::F) (Hp B ((n,b,l,t)::L))):Lx P G ro ops N ds (EE fs) Z (⟨some d,.alloc t,ty,pos,af,gd⟩::rest) F (Hp B L):=by
 unfold Lx;rw[show EE fs ⟨some d,.alloc t,ty,pos,af,gd⟩=true from O];intro a w ha hC;refine ⟨ha.want hw,λf _=>dP ro f, ?_⟩;rw[show (FW ro).round=ro from O,Oper.semAt_eq _ _ _ (λ_ h=>by cases h)]
 have e:(execOp a.eval ⟨some d,.alloc t,ty,pos,af,gd⟩).run P w=.ok (.value (pnt w.heap.size)) (w.alloc (.cells l.toArray t)):=by
  simp only[execOp,Instr.alloc,Sem.run_bind,hz,Result.andThen_ok];rfl
 rw[e];exact ⟨_,Hp B ((n,w.heap.size,l,t)::L),ha.putF (d:=some d) hd _,ay hG,hC.alloc hG.r n l t,λ_=>bO hG.r hn,h w.heap.size⟩
end
section
open Go.RowKit
theorem oO(n:Nat){t e:TypeId}{x y:Operand}{m:Nat}{i:TypeInfo}{z:Value}{c:List Value}(hB:BOk G B)(hx:evF F x=some (I (m:Int)))(hy:evF F y=some (I (m:Int)))(hu:P.underlying t=some (.slice e))(hi:P.info? e=some i)(hz:i.zero=some z)
 (hm:m*i.size<=16777216/\i.bytes*m<=281474976710656/\m<=1000000) (hc:(madeCells z.cells (m*i.size)).toList=c) (hw:aT ops F ⟨some d,.makeSlice t x y,ty,pos,af,gd⟩=some true) (hd:Nat.blt d N=true)
 (h: ∀b,Lx P G ro ops N ds (EE fs) Z rest ((d,.slice (spt b) m m)::F) (Hp B ((n,b,c,e)::L))) (hgr:fs.any (Nat.beq 2999995)=false:=by rfl):Lx P G ro ops N ds (EE fs) Z (⟨some d,.makeSlice t x y,ty,pos,af,gd⟩::rest) F (Hp B L):=
 eN (hgr:=hgr) O hw hd (λ_ h=>by cases h) λa w ha hC=>by
  have hr:=run_makeSlice (P:=P) (w:=w) t e i z hu hi hz .i64 .i64 (m:Int) (m:Int) om (Int.le_refl _) (by rw[Int.toNat_natCast];exact hm.1) (by have:=Int.ofNat_le.2 hm.2.1;rw[Int.natCast_mul]at this;exact this) om
  simp only[Int.toNat_natCast]at hr;refine ⟨.slice (spt w.heap.size) m m,w.alloc (.cells c.toArray e),_,.inl ?_,ay hB,hC.alloc hB.r n c e,h w.heap.size⟩;subst hc;simp only[execOp,ha.ev hx,ha.ev hy,I,Sem.run_bind,hr,Result.andThen_ok];simp
end
section
open Go.RowKit
theorem Nt{t e:TypeId}{n m cap:Nat}{x:Operand}{ad:Option Addr}(hx:evF F x=some (.slice ad m cap))(hu:P.underlying t=some (.array n e))(hn:n<=m)
 (hw:aT ops F ⟨some d,.sliceToArrayPointer t x,ty,pos,af,gd⟩=some true) (hd:Nat.blt d N=true)
 (h:Lx P G ro ops N ds (EE fs) Z rest ((d,.pointer ad)::F) C):Lx P G ro ops N ds (EE fs) Z (⟨some d,.sliceToArrayPointer t x,ty,pos,af,gd⟩::rest) F C:=
 cq (v:=.pointer ad) O hw hd (λ_ h=>by cases h) (λa w ha _=>by
  simp only[execOp,ha.ev hx];simp[Instr.arrayAt,run_underlying hu,Nat.not_lt.2 hn]) h
end
section
open Go.RowKit
/-! ### Compared -/
def EqF(P:Program)(t:TypeId)(n d0:Nat):Prop:= ∀xs ys:L6,xs.length=n->ys.length=n->∀(d:Nat) (w:World),(Op.equalIn (d+d0) t (aJ xs) (aJ ys)).run P w=.ok (decide (xs=ys)) w
theorem cE{t e:TypeId}{n:Nat}(hu:P.underlying t=some (.array n e))(he:P.underlying e=some (.int .u64))(hs: ∀w,(sizeOf e).run P w=.ok 1 w)(hag: ∀w,(isAgg e).run P w=.ok false w):EqF P t n 2:=
 λxs ys hl hl' d w=>Qr hu he hs hag xs ys hl hl' d w
theorem gL{t:TypeId}{m o:Nat}(hag: ∀w,(isAgg t).run P w=.ok true w)(hs: ∀w,(sizeOf t).run P w=.ok m w)(xs:L6)(w:World):(part t (xs.map U64).toArray o).run P w=.ok (aJ ((xs.drop o).take m)) w:=by
 simp only[part,Sem.run_bind,hag,hs,Result.andThen_ok,if_true,Sem.run_pure];congr 2;simp[List.extract_toArray,List.map_take,List.map_drop]
theorem I2{xs ys:L6}{m n:Nat}(hx:xs.length=m+n)(hy:ys.length=m+n):xs=ys↔((xs.drop 0).take m=(ys.drop 0).take m/\(xs.drop m).take n=(ys.drop m).take n):=by
 constructor
 ·intro h;rw[h];exact ⟨rfl,rfl⟩
 ·rintro ⟨h1,h2⟩
  rw[List.drop_zero,List.drop_zero]at h1;rw[List.take_of_length_le (by rw[List.length_drop];omega),List.take_of_length_le (by rw[List.length_drop];omega)]at h2
  rw[<-List.take_append_drop m xs,<-List.take_append_drop m ys,h1,h2]
theorem cZ{t:TypeId}{f:Field}{n d0:Nat}(hu:P.underlying t=some (.struct #[f]))(h0:f.offset=0)(hn:f.name≠ "_")(hsi:P.stoodInHeld t=false)(hag: ∀w,(isAgg f.type).run P w=.ok true w)(hs: ∀w,(sizeOf f.type).run P w=.ok n w)(he:EqF P f.type n d0):EqF P t n (d0+1):=by
 intro xs ys hx hy d w;rw[show d+(d0+1)=(d+d0)+1 from O,Op.equalIn];simp only[Sem.run_bind,run_underlying hu,Result.andThen_ok];have p1:=gL (o:=0) hag hs xs w;have p2:=gL (o:=0) hag hs ys w;rw[List.drop_zero,List.take_of_length_le om]at p1 p2;have e:=he xs ys hx hy d w;simp[hsi,hn,h0,p1,p2,e];by_cases h:xs=ys<;>simp[h]
theorem gh{t:TypeId}{f g:Field}{m n d0:Nat}(hu:P.underlying t=some (.struct #[f,g]))(h0:f.offset=0)(h1:g.offset=m)(hn:f.name≠ "_")(hn':g.name≠ "_")(hsi:P.stoodInHeld t=false)
 (hag: ∀w,(isAgg f.type).run P w=.ok true w) (hs: ∀w,(sizeOf f.type).run P w=.ok m w) (he:EqF P f.type m d0) (hag': ∀w,(isAgg g.type).run P w=.ok true w) (hs': ∀w,(sizeOf g.type).run P w=.ok n w) (he':EqF P g.type n d0):EqF P t (m+n) (d0+1):=by
 intro xs ys hx hy d w;rw[show d+(d0+1)=(d+d0)+1 from O,Op.equalIn];simp only[Sem.run_bind,run_underlying hu,Result.andThen_ok];have p1:=gL (o:=0) hag hs xs w;have p2:=gL (o:=0) hag hs ys w;have p3:=gL (o:=m) hag' hs' xs w;have p4:=gL (o:=m) hag' hs' ys w;have e1:=he ((xs.drop 0).take m) ((ys.drop 0).take m) (by rw[List.drop_zero,List.length_take];omega) (by rw[List.drop_zero,List.length_take];omega) d w
 have e2:=he' ((xs.drop m).take n) ((ys.drop m).take n) (by rw[List.length_take,List.length_drop];omega) (by rw[List.length_take,List.length_drop];omega) d w
 have i:=I2 hx hy;generalize (xs.drop 0).take m=a1 at*;generalize (ys.drop 0).take m=a2 at*;generalize (xs.drop m).take n=b1 at*;generalize (ys.drop m).take n=b2 at*;simp[hsi,hn,hn',h0,h1,p1,p2,p3,p4,e1,e2];by_cases ha:a1=a2
 ·by_cases hb:b1=b2
  ·simp[ha,hb,i.2 ⟨ha,hb⟩]
  ·simp[ha,hb,show¬xs=ys from λh=>hb (i.1 h).2]
 ·simp[ha,show¬xs=ys from λh=>ha (i.1 h).1]
theorem zD{t:TypeId}{n d0:Nat}(he:EqF P t n d0)(hd:d0<=100)(xs ys:L6)(hl:xs.length=n)(hl':ys.length=n)(w:World):(binOp .eql t (aJ xs) (aJ ys)).run P w=.ok (.bool (decide (xs=ys))) w:=by
 rw[run_eql_struct,show (10000:Nat)=(10000-d0)+d0 by omega,he xs ys hl hl' (10000-d0) w];rfl
theorem KA{t:TypeId}{n d0:Nat}(he:EqF P t n d0)(hd:d0<=100)(xs ys:L6)(hl:xs.length=n)(hl':ys.length=n)(w:World):(binOp .neq t (aJ xs) (aJ ys)).run P w=.ok (.bool (!decide (xs=ys))) w:=by
 rw[run_neq_struct,show (10000:Nat)=(10000-d0)+d0 by omega,he xs ys hl hl' (10000-d0) w];rfl
/-! ### Read -/
theorem ej{a b:L6}: ∀j v,(a.map U64)[j]? =some v->((a++b).map U64)[0+j]? =some v:=λj v h=>by
 have hj:j<(a.map U64).length:=by
  rcases Nat.lt_or_ge j (a.map U64).length with h'|h'
  ·exact h'
  ·rw[List.getElem?_eq_none h']at h;cases h
 rw[Nat.zero_add,List.map_append,List.getElem?_append_left hj];exact h
theorem jf{a b:L6}{m:Nat}(hm:a.length=m): ∀j v,(b.map U64)[j]? =some v->((a++b).map U64)[m+j]? =some v:=λj v h=>by
 rw[List.map_append,List.getElem?_append_right (by rw[List.length_map];omega),List.length_map,hm,Nat.add_sub_cancel_left];exact h
theorem Ht{a b c:L6}(h:c.length=a.length):lay 0 (c.map U64) ((a++b).map U64)=(c++b).map U64:=by
 apply List.ext_getElem?;intro m;rw[iw _ _ _ _ (by simp;omega)]
 simp only[List.map_append,List.getElem?_append,List.length_map,Nat.zero_le,true_and,Nat.zero_add,Nat.sub_zero,h];by_cases hm:m<a.length
 ·simp[hm]
 ·simp[hm]
theorem GN{a b c:L6}{m:Nat}(hm:a.length=m)(h:c.length=b.length):lay m (c.map U64) ((a++b).map U64)=(a++c).map U64:=by
 apply List.ext_getElem?;intro k;rw[iw _ _ _ _ (by simp;omega)]
 simp only[List.map_append,List.getElem?_append,List.length_map,h,hm];by_cases hk:k<m
 ·simp[hk,show¬m<=k by omega]
 ·by_cases hk2:k<m+b.length
  ·simp[hk,hk2,show m<=k by omega]
  ·rw[if_neg om,if_neg hk,if_neg hk,List.getElem?_eq_none (by simp;omega),List.getElem?_eq_none (by simp;omega)]
/-! ### Built -/
theorem gw{t:TypeId}{fields:Array Field}{ps:Array (Nat×Nat)}{c out:List Value}(hz: ∀w,(zeroValue t).run P w=.ok (.agg c.toArray) w)(hu:P.underlying t=some (.struct fields))
 (hm: ∀w,(Array.mapM (λf=>Prod.mk f.offset<$>sizeOf f.type) fields:Sem _).run P w=.ok ps w) (parts:List (Nat×Value)) (hf:Instr.fill (λi=>ps[i]?) c.toArray parts=some out.toArray) (w:World):
 (Instr.build t parts.toArray).run P w=.ok (.agg out.toArray) w:=by
 have hm':(Array.mapM (λf=>do let x<-sizeOf f.type;pure (f.offset,x)) fields:Sem _).run P w=.ok ps w:=hm w
 simp only[Instr.build,hz,run_underlying hu,Sem.run_bind,Result.andThen_ok];rw[hm',Result.andThen_ok];rw[show (Value.agg c.toArray).cells=c.toArray from O,hf];rfl
theorem mG{f g:Field}{m n:Nat}(h0:f.offset=0)(h1:g.offset=m)(hs: ∀w,(sizeOf f.type).run P w=.ok m w)(hs': ∀w,(sizeOf g.type).run P w=.ok n w)(w:World):
 (Array.mapM (λf=>Prod.mk f.offset<$>sizeOf f.type) #[f,g]:Sem _).run P w=.ok #[(0,m),(m,n)] w:=by
 simp[hs,hs',h0,h1]
section
variable {t:TypeId} {f g:Field} {m n:Nat} {za zb:L6}
theorem I9(h0:f.offset=0)(h1:g.offset=m)(hs: ∀w,(sizeOf f.type).run P w=.ok m w)(hs': ∀w,(sizeOf g.type).run P w=.ok n w)(hu:P.underlying t=some (.struct #[f,g]))
 (hz: ∀w,(zeroValue t).run P w=.ok (aJ (za++zb)) w) (hza:za.length=m) (hzb:zb.length=n) {a b:L6} (ha:a.length=m) (hb:b.length=n) (w:World):
 (Instr.build t #[(0,aJ a),(1,aJ b)]).run P w=.ok (aJ (a++b)) w:=
 gw (c:=(za++zb).map U64) hz hu (mG h0 h1 hs hs') [(0,aJ a),(1,aJ b)] (by
  rw[dv (off:=0) (size:=m) (vs:=a.map U64) O (by simp[ha]) (by simp;omega),Ht om,dv (off:=m) (size:=n) (vs:=b.map U64) O (by simp[hb]) (by simp;omega),GN ha om]
  rfl) w
theorem E7(h0:f.offset=0)(h1:g.offset=m)(hs: ∀w,(sizeOf f.type).run P w=.ok m w)(hs': ∀w,(sizeOf g.type).run P w=.ok n w)(hu:P.underlying t=some (.struct #[f,g]))
 (hz: ∀w,(zeroValue t).run P w=.ok (aJ (za++zb)) w) (hza:za.length=m) (hzb:zb.length=n) {a:L6} (ha:a.length=m) (w:World):
 (Instr.build t #[(0,aJ a)]).run P w=.ok (aJ (a++zb)) w:=
 gw (c:=(za++zb).map U64) hz hu (mG h0 h1 hs hs') [(0,aJ a)] (by
  rw[dv (off:=0) (size:=m) (vs:=a.map U64) O (by simp[ha]) (by simp;omega),Ht om]
  rfl) w
theorem FJ(h0:f.offset=0)(h1:g.offset=m)(hs: ∀w,(sizeOf f.type).run P w=.ok m w)(hs': ∀w,(sizeOf g.type).run P w=.ok n w)(hu:P.underlying t=some (.struct #[f,g]))
 (hz: ∀w,(zeroValue t).run P w=.ok (aJ (za++zb)) w) (hza:za.length=m) (hzb:zb.length=n) {b:L6} (hb:b.length=n) (w:World):
 (Instr.build t #[(1,aJ b)]).run P w=.ok (aJ (za++b)) w:=
 gw (c:=(za++zb).map U64) hz hu (mG h0 h1 hs hs') [(1,aJ b)] (by
  rw[dv (off:=m) (size:=n) (vs:=b.map U64) O (by simp[hb]) (by simp;omega),GN hza om]
  rfl) w
structure Two(P:Program)(t:TypeId)(f g:Field)(m n:Nat)(za zb:L6):Prop where
 u:P.underlying t=some (.struct #[f,g])
 h0:f.offset=0
 h1:g.offset=m
 s0: ∀w,(sizeOf f.type).run P w=.ok m w
 s1: ∀w,(sizeOf g.type).run P w=.ok n w
 z: ∀w,(zeroValue t).run P w=.ok (aJ (za++zb)) w
 la:za.length=m
 lb:zb.length=n
theorem co(q:Two P t f g m n za zb){x y:Operand}{a b:L6}(hx:evF F x=some (aJ a))(hy:evF F y=some (aJ b))(ha:a.length=m)(hb:b.length=n)
 (hw:aT ops F ⟨some d,.build t #[(0,x),(1,y)],ty,pos,af,gd⟩=some true) (hd:Nat.blt d N=true)
 (h:Lx P G ro ops N ds (EE fs) Z rest ((d,aJ (a++b))::F) C):Lx P G ro ops N ds (EE fs) Z (⟨some d,.build t #[(0,x),(1,y)],ty,pos,af,gd⟩::rest) F C:=
 ek (ps:=[(0,x),(1,y)]) (vs:=[aJ a,aJ b]) (by simp[evL,hx,hy]) (λw=>I9 q.h0 q.h1 q.s0 q.s1 q.u q.z q.la q.lb ha hb w) hw hd h
theorem A3(q:Two P t f g m n za zb){x:Operand}{a:L6}(hx:evF F x=some (aJ a))(ha:a.length=m)
 (hw:aT ops F ⟨some d,.build t #[(0,x)],ty,pos,af,gd⟩=some true) (hd:Nat.blt d N=true)
 (h:Lx P G ro ops N ds (EE fs) Z rest ((d,aJ (a++zb))::F) C):Lx P G ro ops N ds (EE fs) Z (⟨some d,.build t #[(0,x)],ty,pos,af,gd⟩::rest) F C:=
 ek (ps:=[(0,x)]) (vs:=[aJ a]) (by simp[evL,hx]) (λw=>E7 q.h0 q.h1 q.s0 q.s1 q.u q.z q.la q.lb ha w) hw hd h
theorem mS(q:Two P t f g m n za zb){y:Operand}{b:L6}(hy:evF F y=some (aJ b))(hb:b.length=n)
 (hw:aT ops F ⟨some d,.build t #[(1,y)],ty,pos,af,gd⟩=some true) (hd:Nat.blt d N=true)
 (h:Lx P G ro ops N ds (EE fs) Z rest ((d,aJ (za++b))::F) C):Lx P G ro ops N ds (EE fs) Z (⟨some d,.build t #[(1,y)],ty,pos,af,gd⟩::rest) F C:=
 ek (ps:=[(1,y)]) (vs:=[aJ b]) (by simp[evL,hy]) (λw=>FJ q.h0 q.h1 q.s0 q.s1 q.u q.z q.la q.lb hb w) hw hd h
theorem JB(q:Two P t f g m n za zb)(hw:aT ops F ⟨some d,.build t #[],ty,pos,af,gd⟩=some true)(hd:Nat.blt d N=true)
 (h:Lx P G ro ops N ds (EE fs) Z rest ((d,aJ (za++zb))::F) C):Lx P G ro ops N ds (EE fs) Z (⟨some d,.build t #[],ty,pos,af,gd⟩::rest) F C:=
 el q.z q.u (λw=>⟨_,mG q.h0 q.h1 q.s0 q.s1 w⟩) hw hd h
end
end
section
open Go.RowKit
/-! ### Rows of twelve -/
def FM(f:Nat->L6)(n:Nat):L6:=(List.range (12*n)).map λm=>(f (m / 12)).getD (m % 12) 0
theorem bu(f:Nat->L6)(n:Nat):(FM f n).length=12*n:=by rw[FM,List.length_map,List.length_range]
theorem yi(f:Nat->L6)(n m:Nat)(h:m<12*n):(FM f n)[m]? =some ((f (m / 12)).getD (m % 12) 0):=by
 rw[FM,List.getElem?_map,List.getElem?_range h];rfl
theorem z8(f:Nat->L6)(n k:Nat)(hk:k<n)(hf:(f k).length=12)(o:Nat)(ho:o=12*k): ∀j v,((f k).map U64)[j]? =some v->((FM f n).map U64)[o+j]? =some v:=λj v hv=>by
 have hj:j<12:=by
  rcases Nat.lt_or_ge j 12 with h|h
  ·exact h
  ·rw[List.getElem?_eq_none (by rw[List.length_map,hf];exact h)]at hv;cases hv
 rw[List.getElem?_map]at hv⊢;rw[yi f n (o+j) om,show (o+j) / 12=k by omega,show (o+j) % 12=j by omega]
 rw[List.getElem?_eq_getElem om]at hv;rw[<-hv,List.getD_eq_getElem?_getD,List.getElem?_eq_getElem om];rfl
theorem mH{f g:Nat->L6}{n:Nat}(h: ∀i,i<n->f i=g i):FM f n=FM g n:=by
 unfold FM;refine List.map_congr_left λm hm=> ?_;rw[List.mem_range]at hm;rw[h (m / 12) om]
theorem ue(f:Nat->L6)(n k:Nat)(g:L6)(hk:k<n)(hg:g.length=12)(o:Nat)(ho:o=12*k):lay o (g.map U64) ((FM f n).map U64)=(FM (λi=>if i=k then g else f i) n).map U64:=by
 apply List.ext_getElem?;intro m;rw[iw _ _ _ _ (by rw[List.length_map,List.length_map,bu,hg];omega)]
 rw[List.length_map,hg,List.getElem?_map (l:=FM (λi=>if i=k then g else f i) n)]
 by_cases hm:m<12*n
 ·rw[yi _ n m hm]
  by_cases h:o<=m/\m<o+12
  ·rw[if_pos h,if_pos om,List.getElem?_map,List.getElem?_eq_getElem om,List.getD_eq_getElem?_getD,show m % 12=m-o by omega,List.getElem?_eq_getElem om]
   rfl
  ·rw[if_neg h,if_neg om,List.getElem?_map,yi f n m hm]
 ·rw[if_neg om,List.getElem?_map,List.getElem?_eq_none (by rw[bu];omega),List.getElem?_eq_none (by rw[bu];omega)]
end
section
open Go.RowKit
section
variable {K:KK}
theorem i3{x y:Code}{ι:Type}(Fm:ι->Fr)(Lm:ι->Hl)(hG:BOk G B)
 (h1:X P G ro N ds x F C (rp (λds' F' C'=>ds'=ds/\∃j L',C'=Hp B L'/\sW F' (Fm j)/\jP L' (Lm j)) K))
 (h2: ∀j,X P G ro N ds y (Fm j) (Hp B (Lm j)) K):X P G ro N ds (.seq x y) F C K:=
 ae (h1.mono λe ds' F' C' hk=>by
  cases e with
  |normal=>
   obtain ⟨rfl,j,L',rfl,a,b⟩:=hk;exact V9 (Fm j) (Lm j) hG a b (h2 j)
  |_=>exact hk)
end
end
section
open Go.RowKit
/-! ### Read, written -/
theorem km{a b c:L6}{m:Nat}(hm:a.length=m): ∀j v,(b.map U64)[j]? =some v->((a++(b++c)).map U64)[m+j]? =some v:=λj v h=>jf hm j v (by have:=ej (b:=c) j v h;rw[Nat.zero_add]at this;exact this)
theorem gc{a b c:L6}{m n k:Nat}(hm:a.length=m)(hn:b.length=n)(hk:m+n=k): ∀j v,(c.map U64)[j]? =some v->((a++(b++c)).map U64)[k+j]? =some v:=λj v h=>by
 rw[<-hk,Nat.add_assoc];exact jf hm (n+j) v (jf hn j v h)
theorem V7{a b c d:L6}{m:Nat}(hm:a.length=m)(h:d.length=b.length):lay m (d.map U64) ((a++(b++c)).map U64)=(a++(d++c)).map U64:=by
 apply List.ext_getElem?;intro k;rw[iw _ _ _ _ (by simp;omega)]
 simp only[List.map_append,List.getElem?_append,List.length_map,h,hm];by_cases hk:k<m
 ·simp[hk,show¬m<=k by omega]
 ·by_cases hk2:k<m+b.length
  ·simp[hk,hk2,show m<=k by omega,show k-m<b.length by omega]
  ·rw[if_neg om,if_neg hk,if_neg hk,if_neg om,if_neg om]
theorem OJ{a b c d:L6}{m n k:Nat}(hm:a.length=m)(hn:b.length=n)(hk:m+n=k)(h:d.length=c.length):lay k (d.map U64) ((a++(b++c)).map U64)=(a++(b++d)).map U64:=by
 have e:=GN (a:=a++b) (b:=c) (c:=d) (m:=k) (by rw[List.length_append,hm,hn,hk]) h
 rw[List.append_assoc,List.append_assoc]at e;exact e
/-! ### Built -/
theorem qS{f g h:Field}{m:Nat}(h0:f.offset=0)(h1:g.offset=m)(h2:h.offset=m+m)(hs: ∀w,(sizeOf f.type).run P w=.ok m w)(hs': ∀w,(sizeOf g.type).run P w=.ok m w)(hs'': ∀w,(sizeOf h.type).run P w=.ok m w)(w:World):
 (Array.mapM (λf=>Prod.mk f.offset<$>sizeOf f.type) #[f,g,h]:Sem _).run P w=.ok #[(0,m),(m,m),(m+m,m)] w:=by
 simp[hs,hs',hs'',h0,h1,h2]
structure Three(P:Program)(t:TypeId)(f g h:Field)(m:Nat)(za zb zc:L6):Prop where
 u:P.underlying t=some (.struct #[f,g,h])
 h0:f.offset=0
 h1:g.offset=m
 h2:h.offset=m+m
 s0: ∀w,(sizeOf f.type).run P w=.ok m w
 s1: ∀w,(sizeOf g.type).run P w=.ok m w
 s2: ∀w,(sizeOf h.type).run P w=.ok m w
 z: ∀w,(zeroValue t).run P w=.ok (aJ (za++(zb++zc))) w
 la:za.length=m
 lb:zb.length=m
 lc:zc.length=m
section
variable {t:TypeId} {f g h:Field} {m:Nat} {za zb zc:L6}
theorem jn(q:Three P t f g h m za zb zc)(hw:aT ops F ⟨some d,.build t #[],ty,pos,af,gd⟩=some true)(hd:Nat.blt d N=true)
 (k:Lx P G ro ops N ds (EE fs) Z rest ((d,aJ (za++(zb++zc)))::F) C):Lx P G ro ops N ds (EE fs) Z (⟨some d,.build t #[],ty,pos,af,gd⟩::rest) F C:=
 el q.z q.u (λw=>⟨_,qS q.h0 q.h1 q.h2 q.s0 q.s1 q.s2 w⟩) hw hd k
theorem sJ(q:Three P t f g h m za zb zc){a:L6}(ha:a.length=m){b:L6}(hb:b.length=m){c:L6}(hc:c.length=m)(w:World):(Instr.build t [(0,aJ a),(1,aJ b),(2,aJ c)].toArray).run P w=.ok (aJ (a++(b++c))) w:=
 gw (c:=(za++(zb++zc)).map U64) q.z q.u (qS q.h0 q.h1 q.h2 q.s0 q.s1 q.s2) [(0,aJ a),(1,aJ b),(2,aJ c)] (by
  rw[dv (off:=0) (size:=m) (vs:=a.map U64) O (by simp[ha]) (by simp[q.la,q.lb,q.lc,ha];try omega),Ht (by rw[q.la,ha]),dv (off:=m) (size:=m) (vs:=b.map U64) O (by simp[hb]) (by simp[ha,q.lb,q.lc,hb];try omega),V7 ha (by rw[q.lb,hb]),dv (off:=m+m) (size:=m) (vs:=c.map U64) O (by simp[hc]) (by simp[ha,hb,q.lc,hc];try omega),OJ ha hb O (by rw[q.lc,hc])]
  rfl) w
theorem ef(q:Three P t f g h m za zb zc){x0 x1 x2:Operand}{a b c:L6}(hx0:evF F x0=some (aJ a))(hx1:evF F x1=some (aJ b))(hx2:evF F x2=some (aJ c))(ha:a.length=m)(hb:b.length=m)(hc:c.length=m)
 (hw:aT ops F ⟨some d,.build t #[(0,x0),(1,x1),(2,x2)],ty,pos,af,gd⟩=some true) (hd:Nat.blt d N=true)
 (k:Lx P G ro ops N ds (EE fs) Z rest ((d,aJ (a++(b++c)))::F) C):Lx P G ro ops N ds (EE fs) Z (⟨some d,.build t #[(0,x0),(1,x1),(2,x2)],ty,pos,af,gd⟩::rest) F C:=
 ek (ps:=[(0,x0),(1,x1),(2,x2)]) (vs:=[aJ a,aJ b,aJ c]) (by simp[evL,hx0,hx1,hx2]) (λw=>sJ q ha hb hc w) hw hd k
end
/-! ### Arrays of rows, compared -/
theorem JJ{xs ys:L6}{n:Nat}(hn:0<n): ∀(k:Nat),xs.length=k*n->ys.length=k*n->((List.range' 0 k).all (λi=>decide ((xs.drop (i*n)).take n=(ys.drop (i*n)).take n))=decide (xs=ys)):=by
 intro k hx hy;by_cases h:xs=ys
 ·subst h;simp
 ·rw[decide_eq_false h]
  cases hb:(List.range' 0 k).all (λi=>decide ((xs.drop (i*n)).take n=(ys.drop (i*n)).take n))with
  |false=>rfl
  |true=>
   exfalso;apply h;apply List.ext_getElem?;intro j;rcases Nat.lt_or_ge j (k*n)with hj|hj
   ·have hi:j / n<k:=Nat.div_lt_of_lt_mul (by rw[Nat.mul_comm];exact hj)
    have:=of_decide_eq_true (List.all_eq_true.1 hb (j / n) (by simp[List.mem_range'_1];exact hi))
    have e:=congrArg (λl=>l[j % n]?) this;have hm:=Nat.mod_lt j hn;simp only[List.getElem?_take,hm,if_true,List.getElem?_drop]at e;rw[Nat.mul_comm,Nat.div_add_mod]at e;exact e
   ·rw[List.getElem?_eq_none om,List.getElem?_eq_none om]
theorem mT{t e:TypeId}{k n d0:Nat}(hn:0<n)(hu:P.underlying t=some (.array k e))(hag: ∀w,(isAgg e).run P w=.ok true w)(hs: ∀w,(sizeOf e).run P w=.ok n w)(he:EqF P e n d0):EqF P t (k*n) (d0+1):=by
 intro xs ys hl hl' d w;rw[show d+(d0+1)=(d+d0)+1 from O,Op.equalIn];simp only[Sem.run_bind,run_underlying hu,Result.andThen_ok,hs];rw[Std.Legacy.Range.forIn_eq_forIn_range'];have key: ∀is:List Nat,(∀i∈is,i<k)->∀{β:Type} (f:Nat->β->Sem (ForInStep β)) (b b1:β),(∀i,i<k->(f i b).run P w=.ok (if decide ((xs.drop (i*n)).take n=(ys.drop (i*n)).take n)then .yield b else .done b1) w)->(forIn is b f).run P w=.ok (if is.all (λi=>decide ((xs.drop (i*n)).take n=(ys.drop (i*n)).take n))then b else b1) w:=by
  intro is
  induction is with
  |nil=>intro _ β f b b1 _;simp
  |cons i r ih=>
   intro hi β f b b1 hf;rw[List.forIn_cons,Sem.run_bind,hf i (hi i sm),Result.andThen_ok,List.all_cons]
   cases hb:decide ((xs.drop (i*n)).take n=(ys.drop (i*n)).take n)with
   |true=>simpa using ih (λj hj=>hi j (by simp[hj])) f b b1 hf
   |false=>simp
 rw[key _ (by intro i hi;simp at hi;omega) _ _ ⟨some false,()⟩ ?_]
 ·have:=JJ hn k hl hl'
  simp only[Std.Legacy.Range.size,Nat.sub_zero,Nat.add_sub_cancel,Nat.div_one]at*;rw[this]
  cases decide (xs=ys)<;>simp
 ·intro i hi
  have hle:i*n+n<=k*n:=by have:=Nat.mul_le_mul_right n hi;rw[Nat.succ_mul]at this;exact this
  have p1:=gL (o:=i*n) hag hs xs w;have p2:=gL (o:=i*n) hag hs ys w;have e1:=he ((xs.drop (i*n)).take n) ((ys.drop (i*n)).take n) (by rw[List.length_take,List.length_drop];omega) (by rw[List.length_take,List.length_drop];omega) d w
  simp only[Sem.run_bind,p1,p2,e1,Result.andThen_ok]
  cases decide ((xs.drop (i*n)).take n=(ys.drop (i*n)).take n)<;>simp
end
section
open Go.RowKit
theorem Ov(f:Nat->L6)(n k:Nat)(hk:k<n)(hf:(f k).length=12):((FM f n).map U64).toArray.extract (k*12) (k*12+12)=((f k).map U64).toArray:=by
 apply Array.ext_getElem?;intro j;rw[Array.getElem?_extract,List.size_toArray,List.length_map,bu];rcases Nat.lt_or_ge j 12 with hj|hj
 ·rw[if_pos om,List.getElem?_toArray,List.getElem?_toArray]
  have h:=z8 f n k hk hf (k*12) (Nat.mul_comm _ _) j (U64 (f k)[j]) (by rw[List.getElem?_map,List.getElem?_eq_getElem om];rfl)
  rw[h,List.getElem?_map,List.getElem?_eq_getElem om];rfl
 ·rw[if_neg om,List.getElem?_toArray,List.getElem?_eq_none (by rw[List.length_map];omega)]
theorem zG(f:Nat->L6)(k:Nat){t e:TypeId}{n:Nat}{x ix:Operand}{i:Int}(hx:evF F x=some (aJ (FM f n)))(hi:evF F ix=some (I i))(hu:P.underlying t=some (.array n e))
 (hs: ∀w,(sizeOf e).run P w=.ok 12 w) (hag: ∀w,(isAgg e).run P w=.ok true w) (hk:i=(k:Int)) (hb:k<n) (hf:(f k).length=12) (hw:aT ops F ⟨some d,.index t x ix,ty,pos,af,gd⟩=some true) (hd:Nat.blt d N=true)
 (h:Lx P G ro ops N ds (EE fs) Z rest ((d,aJ (f k))::F) C):Lx P G ro ops N ds (EE fs) Z (⟨some d,.index t x ix,ty,pos,af,gd⟩::rest) F C:=
 cq (v:=aJ (f k)) O hw hd (λ_ h=>by cases h) (λa w ha _=>by
  simp only[execOp,ha.ev hx,ha.ev hi];have hb':0<=i/\i<(n:Int):=om;have e:i.toNat=k:=om;have e2:=Ov f n k hb hf;simp only[Instr.index,asIntOf,run_underlying hu,part,Sem.run_bind,Sem.run_pure,Result.andThen_ok];rw[if_pos hb'];simp only[Sem.run_bind,Sem.run_pure,Result.andThen_ok,hs,hag,if_true,e,e2]) h
theorem Ex{t e:TypeId}{f z:Nat->L6}(hu:P.underlying t=some (.array 3 e))(hs: ∀w,(sizeOf e).run P w=.ok 12 w)(hz: ∀w,(zeroValue t).run P w=.ok (aJ (FM z 3)) w)(h0:(f 0).length=12)(h1:(f 1).length=12)(h2:(f 2).length=12)(w:World):
 (Instr.build t [(0,aJ (f 0)),(1,aJ (f 1)),(2,aJ (f 2))].toArray).run P w=.ok (aJ (FM f 3)) w:=by
 have g0:=λc hc r=>dv (place:=λi=>some (i*12,12)) (i:=0) (off:=0) (vs:=(f 0).map U64) (c:=c) O (by rw[List.length_map,h0]) hc r
 have g1:=λc hc r=>dv (place:=λi=>some (i*12,12)) (i:=1) (off:=12) (vs:=(f 1).map U64) (c:=c) O (by rw[List.length_map,h1]) hc r
 have g2:=λc hc r=>dv (place:=λi=>some (i*12,12)) (i:=2) (off:=24) (vs:=(f 2).map U64) (c:=c) O (by rw[List.length_map,h2]) hc r
 simp only[Instr.build,hz,run_underlying hu,hs,Sem.run_bind,Result.andThen_ok];rw[show (Value.agg (List.map U64 (FM z 3)).toArray).cells=(List.map U64 (FM z 3)).toArray from O,
  g0 _ (by rw[List.length_map,List.length_map,bu,h0];decide),ue z 3 0 (f 0) dc h0 0 O,
  g1 _ (by rw[List.length_map,List.length_map,bu,h1];decide),ue _ 3 1 (f 1) dc h1 12 O,
  g2 _ (by rw[List.length_map,List.length_map,bu,h2];decide),ue _ 3 2 (f 2) dc h2 24 O]
 rw[mH (f:=λi=>if i=2 then f 2 else if i=1 then f 1 else if i=0 then f 0 else z i) (g:=f) (n:=3) (λi hi=>by
  match i,hi with
  |0,_=>rfl
  |1,_=>rfl
  |2,_=>rfl)]
 rfl
theorem Jm(f:Nat->L6){t e:TypeId}{z:Nat->L6}{x0 x1 x2:Operand}(hx0:evF F x0=some (aJ (f 0)))(hx1:evF F x1=some (aJ (f 1)))(hx2:evF F x2=some (aJ (f 2)))
 (hu:P.underlying t=some (.array 3 e)) (hs: ∀w,(sizeOf e).run P w=.ok 12 w) (hz: ∀w,(zeroValue t).run P w=.ok (aJ (FM z 3)) w) (h0:(f 0).length=12) (h1:(f 1).length=12) (h2:(f 2).length=12)
 (hw:aT ops F ⟨some d,.build t #[(0,x0),(1,x1),(2,x2)],ty,pos,af,gd⟩=some true) (hd:Nat.blt d N=true)
 (h:Lx P G ro ops N ds (EE fs) Z rest ((d,aJ (FM f 3))::F) C):Lx P G ro ops N ds (EE fs) Z (⟨some d,.build t #[(0,x0),(1,x1),(2,x2)],ty,pos,af,gd⟩::rest) F C:=
 ek (ps:=[(0,x0),(1,x1),(2,x2)]) (vs:=[aJ (f 0),aJ (f 1),aJ (f 2)]) (by simp[evL,hx0,hx1,hx2]) (λw=>Ex hu hs hz h0 h1 h2 w) hw hd h
section
variable {K:KK}
theorem sh(n:Nat){fn:Func}{R:Ending->World->Prop}{t:Nat}{T et:TypeId}{b:Nat}{v:Value}(hr:fn.results= #[.cell t T])(hv:lk F t=some (pnt b))(hl:lkB L n=some (b,[v],et))
 (hag: ∀w,(isAgg T).run P w=.ok false w) (h: ∀w,Hp B L w->R (.returned v) w):lW P fn R .ret [] F (Hp B L):=
 ⟨rfl,λa w ha hC=>⟨v,by
  have hc:=cM (n:=n) (o:=0) hl O w hC;simp[results,hr,ha.get t _ hv,asAddr,loadVar,hag,load,Sem.run,hc],h w hC⟩⟩
theorem GT{C:Cls}(h:K .ret ds F C):RI K .ret ds F C:=h
def CG:Hl:=[(0,0,[],0),(1,0,[],0)]
theorem yH{Y:Nat->Prop}{w:World}(h:Hq B CG Y w):False:=by
 have:=h.inj 0 1 0 [] 0 [] 0 O O;omega
theorem qz{ro:Option Nat}{c:Code}(h: ∀w,Hp B L w->False):X P G ro N ds c F (Hp B L) K:=λ_ _ w _ hC=>(h w hC).elim
def LkQ(Q:Nat->Prop) [DecidablePred Q](Lk:Nat->Hl)(k:Nat):Hl:=if Q k then Lk k else CG
theorem Oe{Q:Nat->Prop} [DecidablePred Q]{Lk:Nat->Hl}{k:Nat}(h:Q k)(hs:jP L (Lk k)):jP L (LkQ Q Lk k):=by rw[LkQ,if_pos h];exact hs
theorem uM(Q:Nat->Prop) [DecidablePred Q]{g:Operand}{ps:List Nat}{assign body:Code}{gf:Nat}{caps:List Value}{xs:List (List Value)}{Rd:Cls}(Bk:Nat->Bs)(Be:Code->Nat->Bs)(hBk: ∀k,BOk G (Bk k))(hBe: ∀c k,BOk G (Be c k))(hw0: ∀k,(Bk k).w0=B.w0)(hwe: ∀c k,(Be c k).w0=B.w0)
 (hBB:Bk 0=B) (hg:evF F g=some (.func (.func gf) #[] caps.toArray)) (he:ai P gf) (hseq:fD P G gf caps xs Rd)
 (hps: ∀x∈xs,x.length=ps.length) (hpN:ps.all (Nat.blt · N)=true) (Lk:Nat->Hl) (Ext:Code->Nat->Hl->Prop) (hq0:Q 0) (h0:jP L (Lk 0)) (hRd: ∀k Y w,Hq (Bk k) (Lk k) Y w->Rd w)
 (hround: ∀(k:Nat) (x:List Value),xs[k]? =some x->Q k->∀R:Rnd,R.Ok G B.w0->X P G (some R.l) N [] assign (i6 ps x F) (Hp (R.a (Bk k)) (Lk k)) (Ud P G N body R Bk Be (LkQ Q Lk) Ext k))
 (hdone:Q xs.length->∀D,BOk G (B2 (Bk xs.length) D)->K .normal (mkD D::ds) F (Hp (B2 (Bk xs.length) D) (Lk xs.length)))
 (hbad: ∀D,(∀w,Hp (B2 (Bk xs.length) D) CG w->False)->K .normal (mkD D::ds) F (Hp (B2 (Bk xs.length) D) CG))
 (hleave: ∀D c k L',BOk G (B2 (Be c k) D)->Ext c k L'->RI K c (mkD D::ds) F (Hp (B2 (Be c k) D) L')):X P G none N ds (.rangeFunc g ps.toArray assign body) F (Hp B L) K:=by
 refine fc Bk Be hBk hBe hw0 hwe hBB hg he hseq hps hpN (LkQ Q Lk) Ext (Oe hq0 h0) (λk Y w h=> ?_) (λk x hx R hR=> ?_) (λD hD=> ?_) hleave
 ·rw[LkQ]at h
  by_cases hq:Q k
  ·rw[if_pos hq]at h;exact hRd k Y w h
  ·rw[if_neg hq]at h;exact (yH h).elim
 ·by_cases hq:Q k
  ·rw[show LkQ Q Lk k=Lk k from if_pos hq];exact hround k x hx hq R hR
  ·rw[show LkQ Q Lk k=CG from if_neg hq];exact qz λw h=>yH h
 ·by_cases hq:Q xs.length
  ·rw[show LkQ Q Lk xs.length=Lk xs.length from if_pos hq];exact hdone hq D hD
  ·rw[show LkQ Q Lk xs.length=CG from if_neg hq];exact hbad D λw h=>yH h
end
end
section
open Go.RowKit
/-! ### Rows of any width -/
def RW{bw:Nat}(s:Nat)(f:Nat->List (BitVec bw))(n:Nat):List (BitVec bw):=(List.range (s*n)).map λm=>(f (m / s)).getD (m % s) 0
section
variable {s bw:Nat} {uf:BitVec bw->Value}
theorem cQ(f:Nat->List (BitVec bw))(n:Nat):(RW s f n).length=s*n:=by rw[RW,List.length_map,List.length_range]
theorem lI(f:Nat->List (BitVec bw))(n m:Nat)(h:m<s*n):(RW s f n)[m]? =some ((f (m / s)).getD (m % s) 0):=by
 rw[RW,List.getElem?_map,List.getElem?_range h];rfl
theorem O3{k n j:Nat}(hk:k<n)(hj:j<s):s*k+j<s*n:=by
 have h1:s*(k+1)<=s*n:=Nat.mul_le_mul_left s hk;rw[Nat.mul_succ]at h1;omega
theorem A6{k j:Nat}(hj:j<s):(s*k+j) / s=k:=by
 rw[Nat.mul_add_div om,Nat.div_eq_of_lt hj,Nat.add_zero]
theorem zJ{k j:Nat}(hj:j<s):(s*k+j) % s=j:=by rw[Nat.mul_add_mod,Nat.mod_eq_of_lt hj]
theorem zW(f:Nat->List (BitVec bw))(n k:Nat)(hk:k<n)(hf:(f k).length=s)(o:Nat)(ho:o=s*k): ∀j v,((f k).map uf)[j]? =some v->((RW s f n).map uf)[o+j]? =some v:=λj v hv=>by
 have hj:j<s:=by
  rcases Nat.lt_or_ge j s with h|h
  ·exact h
  ·rw[List.getElem?_eq_none (by rw[List.length_map,hf];exact h)]at hv;cases hv
 rw[List.getElem?_map]at hv⊢;rw[ho,lI f n (s*k+j) (O3 hk hj),A6 hj,zJ hj];rw[List.getElem?_eq_getElem om]at hv;rw[<-hv,List.getD_eq_getElem?_getD,List.getElem?_eq_getElem om];rfl
theorem kN{f g:Nat->List (BitVec bw)}{n:Nat}(h: ∀i,i<n->f i=g i):RW s f n=RW s g n:=by
 unfold RW;refine List.map_congr_left λm hm=> ?_;rw[List.mem_range]at hm;rw[h (m / s) (Nat.div_lt_of_lt_mul hm)]
theorem EF(f:Nat->List (BitVec bw))(n k:Nat)(g:List (BitVec bw))(hk:k<n)(hg:g.length=s)(o:Nat)(ho:o=s*k):lay o (g.map uf) ((RW s f n).map uf)=(RW s (λi=>if i=k then g else f i) n).map uf:=by
 have hin:s*k+s<=s*n:=by rw[<-Nat.mul_succ];exact Nat.mul_le_mul_left s hk
 apply List.ext_getElem?;intro m;rw[iw _ _ _ _ (by rw[List.length_map,List.length_map,cQ,hg];omega)]
 rw[List.length_map,hg,List.getElem?_map (l:=RW s (λi=>if i=k then g else f i) n)]
 by_cases hm:m<s*n
 ·rw[lI _ n m hm]
  by_cases h:o<=m/\m<o+s
  ·have e:m=s*k+(m-o):=om
   have hj:m-o<s:=om;have e1:m / s=k:=by rw[e];exact A6 hj
   have e2:m % s=m-o:=by
    have:=zJ (k:=k) hj;rw[<-e]at this;exact this
   rw[if_pos h,e1,if_pos O,e2,List.getElem?_map,List.getElem?_eq_getElem om,List.getD_eq_getElem?_getD,List.getElem?_eq_getElem om];rfl
  ·have e1: ¬m / s=k:=λe=>by
    have h0:0<s:=by
     rcases Nat.eq_zero_or_pos s with h0|h0
     ·subst h0;omega
     ·exact h0
    have h1:=Nat.div_add_mod m s;have h2:=Nat.mod_lt m h0;rw[e]at h1;omega
   rw[if_neg h,if_neg e1,List.getElem?_map,lI f n m hm]
 ·rw[if_neg om,List.getElem?_map,List.getElem?_eq_none (by rw[cQ];omega),List.getElem?_eq_none (by rw[cQ];omega)]
theorem OX(f:Nat->List (BitVec bw))(n k:Nat)(hk:k<n)(hf:(f k).length=s):((RW s f n).map uf).toArray.extract (k*s) (k*s+s)=((f k).map uf).toArray:=by
 have hin:k*s+s<=s*n:=by rw[Nat.mul_comm k,<-Nat.mul_succ];exact Nat.mul_le_mul_left s hk
 apply Array.ext_getElem?;intro j;rw[Array.getElem?_extract,List.size_toArray,List.length_map,cQ];rcases Nat.lt_or_ge j s with hj|hj
 ·rw[if_pos om,List.getElem?_toArray,List.getElem?_toArray]
  have h:=zW f n k hk hf (k*s) (Nat.mul_comm _ _) j (uf (f k)[j]) (by rw[List.getElem?_map,List.getElem?_eq_getElem om];rfl)
  rw[h,List.getElem?_map,List.getElem?_eq_getElem om];rfl
 ·rw[if_neg om,List.getElem?_toArray,List.getElem?_eq_none (by rw[List.length_map];omega)]
/-! ### Made -/
def yc(f:Nat->List (BitVec bw)):List Nat->(Nat->List (BitVec bw))->Nat->List (BitVec bw)
 |[],g=>g
 |i::r,g=>yc f r (λj=>if j=i then f i else g j)
theorem oN(f:Nat->List (BitVec bw)): ∀(is:List Nat) (g:Nat->List (BitVec bw)) (j:Nat),j∈is\/g j=f j->yc f is g j=f j
 |[],_,_,h=>h.elim (λh=>by cases h) id
 |i::r,g,j,h=>by
  refine oN f r _ j ?_;by_cases hj:j=i
  ·right;rw[if_pos hj,hj]
  ·rcases h with h|h
   ·left
    rcases List.mem_cons.1 h with h|h
    ·exact absurd h hj
    ·exact h
   ·right;rw[if_neg hj,h]
theorem Gx(f:Nat->List (BitVec bw))(n:Nat)(hf: ∀i,i<n->(f i).length=s): ∀(is:List Nat) (g:Nat->List (BitVec bw)),(∀i∈is,i<n)->
 Instr.fill (λi=>some (i*s,s)) ((RW s g n).map uf).toArray (is.map λi=>(i,.agg ((f i).map uf).toArray))=some ((RW s (yc f is g) n).map uf).toArray
 |[],_,_=>rfl
 |i::r,g,h=>by
  have hi:=h i sm;have hin:s*i+s<=s*n:=by rw[<-Nat.mul_succ];exact Nat.mul_le_mul_left s hi
  rw[List.map_cons,dv (off:=i*s) (size:=s) (vs:=(f i).map uf) O (by rw[List.length_map,hf i hi]) (by rw[List.length_map,List.length_map,cQ,hf i hi,Nat.mul_comm i];omega),EF g n i (f i) hi (hf i hi) (i*s) (Nat.mul_comm _ _)]
  exact Gx f n hf r _ λj hj=>h j (by simp[hj])
end
section
variable {s bw:Nat} {uf:BitVec bw->Value}
theorem runW{t e:TypeId}{n:Nat}{f z:Nat->List (BitVec bw)}(is:List Nat)(his: ∀i∈is,i<n)(hf: ∀i,i<n->(f i).length=s)(hu:P.underlying t=some (.array n e))(hs: ∀w,(sizeOf e).run P w=.ok s w)
 (hz: ∀w,(zeroValue t).run P w=.ok (.agg ((RW s z n).map uf).toArray) w) (w:World):(Instr.build t (is.map λi=>(i,.agg ((f i).map uf).toArray)).toArray).run P w=.ok (.agg ((RW s (yc f is z) n).map uf).toArray) w:=by
 have h:=Gx (s:=s) (uf:=uf) f n hf is z his;simp only[Instr.build,hz,run_underlying hu,hs,Sem.run_bind,Result.andThen_ok];rw[show (Value.agg (List.map uf (RW s z n)).toArray).cells=(List.map uf (RW s z n)).toArray from O,h];rfl
theorem qv(f h':Nat->List (BitVec bw))(is:List Nat){t e:TypeId}{n:Nat}{z:Nat->List (BitVec bw)}{ps:List (Nat×Operand)}(hx:evL F (ps.map (·.2))=some (is.map λi=>.agg ((f i).map uf).toArray))(hi:ps.map (·.1)=is)(his:is.all (Nat.blt · n)=true)
 (hf: ∀i,i<n->(f i).length=s) (hu:P.underlying t=some (.array n e)) (hs: ∀w,(sizeOf e).run P w=.ok s w) (hz: ∀w,(zeroValue t).run P w=.ok (.agg ((RW s z n).map uf).toArray) w) (hh: ∀i,i<n->yc f is z i=h' i)
 (hw:aT ops F ⟨some d,.build t ps.toArray,ty,pos,af,gd⟩=some true) (hd:Nat.blt d N=true)
 (h:Lx P G ro ops N ds (EE fs) Z rest ((d,.agg ((RW s h' n).map uf).toArray)::F) C):Lx P G ro ops N ds (EE fs) Z (⟨some d,.build t ps.toArray,ty,pos,af,gd⟩::rest) F C:=
 ek hx (λw=>by
  have hlt: ∀i∈is,i<n:=λi hi=>Nat.le_of_ble_eq_true (List.all_eq_true.1 his i hi);have e:=runW (s:=s) (f:=f) is hlt hf hu hs hz w;rw[kN hh]at e;rw[hi,show is.zip (is.map λi=>Value.agg ((f i).map uf).toArray)=is.map λi=>(i,.agg ((f i).map uf).toArray)from (by
   clear hx hi his hh e hlt
   induction is with
   |nil=>rfl
   |cons a r ih=>rw[List.map_cons,List.zip_cons_cons,ih];rfl)]
  exact e) hw hd h
theorem IN(f:Nat->List (BitVec bw))(k:Nat){t e:TypeId}{n:Nat}{x ix:Operand}{i:Int}(hx:evF F x=some (.agg ((RW s f n).map uf).toArray))(hi:evF F ix=some (I i))(hu:P.underlying t=some (.array n e))
 (hs: ∀w,(sizeOf e).run P w=.ok s w) (hag: ∀w,(isAgg e).run P w=.ok true w) (hk:i=(k:Int)) (hb:k<n) (hf:(f k).length=s) (hw:aT ops F ⟨some d,.index t x ix,ty,pos,af,gd⟩=some true) (hd:Nat.blt d N=true)
 (h:Lx P G ro ops N ds (EE fs) Z rest ((d,.agg ((f k).map uf).toArray)::F) C):Lx P G ro ops N ds (EE fs) Z (⟨some d,.index t x ix,ty,pos,af,gd⟩::rest) F C:=
 cq (v:=.agg ((f k).map uf).toArray) O hw hd (λ_ h=>by cases h) (λa w ha _=>by
  simp only[execOp,ha.ev hx,ha.ev hi];have hb':0<=i/\i<(n:Int):=om;have e:i.toNat=k:=om;have e2:=OX (uf:=uf) f n k hb hf;simp only[Instr.index,asIntOf,run_underlying hu,part,Sem.run_bind,Sem.run_pure,Result.andThen_ok];rw[if_pos hb'];simp only[Sem.run_bind,Sem.run_pure,Result.andThen_ok,hs,hag,if_true,e,e2]) h
end
/-! ### Rows within rows -/
theorem Ep{a b x:L6}{o:Nat}(h: ∀(j:Nat) v,(x.map U64)[j]? =some v->(a.map U64)[o+j]? =some v): ∀(j:Nat) v,(x.map U64)[j]? =some v->((a++b).map U64)[o+j]? =some v:=λj v hv=>by
 have h1:=ej (b:=b) (o+j) v (h j v hv);rw[Nat.zero_add]at h1;exact h1
theorem yb{a b x:L6}{m o k:Nat}(hm:a.length=m)(hk:m+o=k)(h: ∀(j:Nat) v,(x.map U64)[j]? =some v->(b.map U64)[o+j]? =some v): ∀(j:Nat) v,(x.map U64)[j]? =some v->((a++b).map U64)[k+j]? =some v:=λj v hv=>by
 rw[<-hk,Nat.add_assoc];exact jf hm (o+j) v (h j v hv)
end
section
open Go.RowKit
def OwnW(L:Hl)(n:Nat)(e:TypeId)(s:Nat)(a0:Option Addr)(cap nx:Nat)(xs:List Value):Prop:=
 (a0=none/\xs=[]/\nx=0/\cap=0)\/∃b c,a0=some ⟨b,0,none⟩/\lkB L n=some (b,c,e)/\c.length=cap*s/\nx<=cap/\xs.length=nx*s/\c.take xs.length=xs
theorem vP(L:Hl)(n:Nat)(e:TypeId)(s:Nat):OwnW L n e s none 0 0 []:=.inl ⟨rfl,rfl,rfl,rfl⟩
theorem OwnW.len{L:Hl}{n:Nat}{e:TypeId}{s:Nat}{a0:Option Addr}{cap nx:Nat}{xs:List Value}(h:OwnW L n e s a0 cap nx xs):xs.length=nx*s:=by
 rcases h with ⟨_,rfl,rfl,_⟩|⟨_,_,_,_,_,_,h,_⟩
 ·simp
 ·exact h
theorem qA(n:Nat){t tx e e':TypeId}{x y:Operand}{a0:Option Addr}{s cap nx ny sb so sc by_:Nat}{xs ys:List Value}{z:Value}(hB:BOk G B)(hx:evF F x=some (.slice a0 nx cap))(hy:evF F y=some (.slice (some ⟨sb,so,none⟩) ny sc))
 (hu:P.underlying t=some (.slice e)) (hux:P.underlying tx=some (.slice e')) (hi:TI P e z s by_) (hz1:z.cells.size=s) (hown:OwnW L n e s a0 cap nx xs) (hly:ys.length=ny*s) (hsrc: ∀w,Hp B L w->w.rangeAt sb so ys) (hone:ys.all (·.oneCell')=true) (hne:0<ny) (hlen:(nx+ny)*by_<=140737488355328) (h63:nx+ny<=4611686018427387904)
 (hw:aT ops F ⟨some d,.call {callee:=.builtin .append,args:= #[x,y],argTypes:= #[t,tx]},ty,pos,af,gd⟩=some true) (hd:Nat.blt d N=true)
 (h: ∀b c cap1,c.length=cap1*s->nx+ny<=cap1->c.take (xs++ys).length=xs++ys->Lx P G ro ops N ds (EE fs) Z rest ((d,.slice (spt b) (nx+ny) cap1)::F) (Hp B ((n,b,c,e)::L)))
 (hgr:fs.any (Nat.beq 2999997)=false:=by rfl):
 Lx P G ro ops N ds (EE fs) Z (⟨some d,.call {callee:=.builtin .append,args:= #[x,y],argTypes:= #[t,tx]},ty,pos,af,gd⟩::rest) F (Hp B L):=by
 have hlx:=hown.len;obtain ⟨i,hi,hz,hsz,hby⟩:=hi;refine eN (hgr:=hgr) O hw hd (λ_ h=>by cases h) λa w ha hC=> ?_
 have hs:Src P i.size tx (.slice (some ⟨sb,so,none⟩) ny sc) ny ys w:=by
  rw[hsz];exact Src.ofSlice w hux ⟨sb,so,none⟩ ny sc ys hly (λj u hu=>by rw[Addr.add_mid];exact hsrc w hC j u hu) (λu hu=>List.all_eq_true.1 hone u hu)
 have run: ∀{v:Value} {w':World},(Builtin.append_ #[t,tx] ty #[.slice a0 nx cap,.slice (some ⟨sb,so,none⟩) ny sc]).run P w=.ok v w'->
  (execOp a.eval ⟨some d,.call {callee:=.builtin .append,args:= #[x,y],argTypes:= #[t,tx]},ty,pos,af,gd⟩).run P w=.ok (.value v) w':=λ{v w'} hr=>by
  simp only[execOp,resolve,invoke,builtin,Sem.run_bind,Sem.run_pure,Result.andThen_ok,List.map_toArray,List.map_cons,List.map_nil,ha.ev hx,ha.ev hy,hr]
 have len1:(xs++ys).length=(nx+ny)*s:=by rw[List.length_append,hlx,hly,Nat.add_mul]
 rcases Nat.lt_or_ge cap (nx+ny)with hg|hroom
 ·have hold:(Builtin.firstCells i.size nx (.slice a0 nx cap)).run P w.drew=.ok xs.toArray w.drew:=by
   rcases hown with ⟨rfl,rfl,rfl,rfl⟩|⟨b,c,rfl,hl,hc,hle,_,ht⟩
   ·exact run_firstCells_none _ _ _ _ _
   ·refine run_firstCells_some _ _ _ _ _ _ _ (by rw[hsz];exact hlx) (λj v hv=> ?_)
    rw[Addr.add_mid,Nat.zero_add];have hcj:c[j]? =some v:=by
     have:(c.take xs.length)[j]? =some v:=by rw[ht];exact hv
     rw[List.getElem?_take]at this;split at this
     ·exact this
     ·cases this
    exact cM hl hcj w hC
  have hr:=run_append_grow_src (P:=P) w t tx ty e i z hu hi hz a0 nx cap xs hold (.slice (some ⟨sb,so,none⟩) ny sc) ny ys hs hg om (by rw[hby];exact growslice_fits hg hlen)
  have hge:=grownCap_ge w (nx+ny) cap e;obtain ⟨cc,hcc⟩: ∃cc,xs++ys++(Builtin.zeroCells z.cells (grownCap w (nx+ny) cap e-(nx+ny))).toList=cc:=⟨_,rfl⟩;have hcl:cc.length=grownCap w (nx+ny) cap e*s:=by
   rw[<-hcc,List.length_append,len1,Array.length_toList,size_zeroCells,hz1];obtain ⟨r,hr⟩:=Nat.exists_eq_add_of_le hge;rw[hr,Nat.add_sub_cancel_left,Nat.add_mul (nx+ny)]
  have hct:cc.take (xs++ys).length=xs++ys:=by rw[<-hcc,List.take_append_of_le_length sm,List.take_of_length_le sm]
  have harr:(xs++ys).toArray++Builtin.zeroCells z.cells (grownCap w (nx+ny) cap e-(nx+ny))=cc.toArray:=by
   rw[<-hcc];apply Array.ext';simp
  rw[harr]at hr;exact ⟨_,_,_,.inl (run hr),ay hB,(hC.grow hB.r ((Below.refl _ w).drew)).alloc hB.r n cc e,h w.heap.size cc _ hcl hge hct⟩
 ·rcases hown with ⟨rfl,rfl,rfl,rfl⟩|⟨b,c,rfl,hl,hc,hle,_,ht⟩
  ·exfalso;omega
  ·have hb:=(hC.own n b c e hl).1
   have hin:nx*s+ys.length<=c.length:=by rw[hly,hc,<-Nat.add_mul];exact Nat.mul_le_mul_right s hroom
   have hr:=run_append_room_src (P:=P) w t tx ty e i hu hi b 0 nx cap (.slice (some ⟨sb,so,none⟩) ny sc) ny ys hs hroom
    (λj hj=>by rw[cM hl (List.getElem?_eq_getElem (by rw[hsz];omega)) w hC];rfl) (λj hj=>hb.frozen (by rw[hsz];omega))
   rw[hsz,show 0+nx*s=xs.length from by rw[hlx,Nat.zero_add]]at hr
   refine ⟨_,_,_,.inl (run hr),ay hB,Hq.lays hB.r ys hC hl xs.length, ?_⟩;exact h b (lay xs.length ys c) cap (by rw[jz];exact hc) hroom (by rw[List.length_append];exact sf xs ys c (by rw[hlx];exact hin) ht)
theorem u5(n:Nat)(row:List Value){t e:TypeId}{s:Nat}{z:Value}{x:Operand}(hB:BOk G B)(hx:evF F x=some (.agg row.toArray))(hr:row.length=s)(h0:0<s)(hl:s<=16777216)(hu:P.underlying t=some (.slice e))
 (hs: ∀w,(sizeOf e).run P w=.ok s w) (hz: ∀w,(zeroValue e).run P w=.ok z w) (hw:aT ops F ⟨some d,.buildSlice t 1 #[(0,x)],ty,pos,af,gd⟩=some true) (hd:Nat.blt d N=true)
 (h: ∀b,Lx P G ro ops N ds (EE fs) Z rest ((d,.slice (spt b) 1 1)::F) (Hp B ((n,b,row,e)::L)))
 (hgr:fs.any (Nat.beq 2999998)=false:=by rfl):Lx P G ro ops N ds (EE fs) Z (⟨some d,.buildSlice t 1 #[(0,x)],ty,pos,af,gd⟩::rest) F (Hp B L):=by
 refine eN (hgr:=hgr) O hw hd (λ_ h=>by cases h) λa w ha hC=> ?_
 refine ⟨.slice (spt w.heap.size) 1 1,w.alloc (.cells row.toArray e),_,.inl ?_,ay hB,hC.alloc hB.r n row e,h w.heap.size⟩;have e1:((#[(0,x)]:Array (Nat×Operand)).map λ(i,x)=>(i,a.eval x))= #[(0,.agg row.toArray)]:=by simp[ha.ev hx]
 have hf:=dv (place:=λi=>some (i*s,s)) (i:=0) (off:=0) (size:=s) (vs:=row) (c:=((Array.range (1*s)).map (z.cells[· % z.cells.size]!)).toList) sm hr (by simp[hr]) []
 rw[jF _ _ (by simp[hr]),Array.toArray_toList]at hf
 have hlt: ¬(1*s>2^24):=om;have h00: ¬(1*s=0):=om;show ((do pure (.value (<-Instr.buildSlice t 1 ((#[(0,x)]:Array (Nat×Operand)).map λ(i,x)=>(i,a.eval x)))):Sem Next)).run P w=_
 rw[e1];have hb:(Instr.buildSlice t 1 #[(0,.agg row.toArray)]).run P w=.ok (.slice (spt w.heap.size) 1 1) (w.alloc (.cells row.toArray e)):=by
  simp only[Instr.buildSlice,Sem.run_bind,run_underlying hu,Result.andThen_ok,hs,if_neg hlt,if_neg h00,hz,Sem.run_pure,hf];simp[newRow,Instr.fill]
 simp only[Sem.run_bind,hb,Result.andThen_ok];rfl
end
section
open Go.RowKit
theorem tT{E:Oper->Bool}{o:Oper}(hE:E o=true)(hw:aT ops F o=some true)(hd:jx N o.dst=true)(hnd: ∀c,o.op≠ .defer c)
 (h: ∀a w,Has N ds F a->C w->∃v w' C',((execOp a.eval o).run P w=.ok (.value v) w'\/((execOp a.eval o).run P w=.ok .skip w'/\v=undef))/\dJ G C'/\C' w'/\(∀w,C' w->C w)/\Lx P G ro ops N ds E Z rest (putF o.dst v F) C'):
 Lx P G ro ops N ds E Z (o::rest) F C:=by
 unfold Lx;rw[hE];intro a w ha hC;obtain ⟨v,w',C',hr,hS,hw',hn,hk⟩:=h a w ha hC;refine ⟨ha.want hw,λf _=>dP ro f, ?_⟩;rw[show (FW ro).round=ro from O,Oper.semAt_eq _ _ _ hnd];rcases hr with hr|⟨hr,rfl⟩
 ·rw[hr];exact ⟨_,C',ha.putF hd v,hS,hw',λ_=>hn,hk⟩
 ·rw[hr];exact ⟨_,C',ha.putF hd _,hS,hw',λ_=>hn,hk⟩
theorem jS(n:Nat)(xs:L8){t e:TypeId}{len:Nat}{ps:List (Nat×Operand)}(hB:BOk G B)(hfr:lkB L n=none)(hx:evL F (ps.map (·.2))=some (xs.map U8))(hi:ps.map (·.1)=List.range len)(hn:xs.length=len)(hl:len<=16777216)(h0:len≠0)(hu:P.underlying t=some (.slice e))
 (hs: ∀w,(sizeOf e).run P w=.ok 1 w) (hz: ∀w,(zeroValue e).run P w=.ok (.int .u8 0) w) (hw:aT ops F ⟨some d,.buildSlice t len ps.toArray,ty,pos,af,gd⟩=some true) (hd:Nat.blt d N=true)
 (h: ∀b,Lx P G ro ops N ds (EE fs) Z rest ((d,.slice (spt b) xs.length xs.length)::F) (Hp B ((n,b,xs.map U8,e)::L))):Lx P G ro ops N ds (EE fs) Z (⟨some d,.buildSlice t len ps.toArray,ty,pos,af,gd⟩::rest) F (Hp B L):=by
 refine tT O hw hd (λ_ h=>by cases h) λa w ha hC=> ?_
 refine ⟨.slice (spt w.heap.size) xs.length xs.length,w.alloc (.cells (xs.map U8).toArray e),_,.inl ?_,ay hB,hC.alloc hB.r n (xs.map U8) e,bO hB.r hfr,h w.heap.size⟩;have e1:(ps.toArray.map λ(i,x)=>(i,a.eval x))=((List.range len).zip (xs.map U8)).toArray:=by
  rw[<-hi,<-ha.evL hx,List.map_toArray,List.map_map,List.zip_map'];rfl
 have hz1:(Value.int .u8 0).cells= #[Value.int .u8 0]:=rfl;have hf:=kE (xs.map U8) 0 ((Array.range (len*1)).map ((Value.int .u8 0).cells[· % (Value.int .u8 0).cells.size]!)).toList (by simp[hn]) (bY xs)
 rw[jF _ _ (by simp[hn]),<-List.range_eq_range',List.length_map,hn]at hf
 simp only[Array.toArray_toList]at hf;have hlt: ¬(len*1>2^24):=om;show ((do pure (.value (<-Instr.buildSlice t len (ps.toArray.map λ(i,x)=>(i,a.eval x)))):Sem Next)).run P w=_
 rw[e1];have hb:(Instr.buildSlice t len ((List.range len).zip (xs.map U8)).toArray).run P w=.ok (.slice (spt w.heap.size) len len) (w.alloc (.cells (xs.map U8).toArray e)):=by
  have h00: ¬(len*1=0):=om;simp only[Instr.buildSlice,Sem.run_bind,run_underlying hu,Result.andThen_ok,hs,if_neg hlt,if_neg h00,hz,Sem.run_pure,hf];simp[newRow]
 rw[hn];simp only[Sem.run_bind,hb,Result.andThen_ok];rfl
end
section
open Go.RowKit
section
variable {s bw:Nat} {uf:BitVec bw->Value}
theorem E0(zr:List (BitVec bw))(hz:zr.length=s)(n:Nat):((Array.range (n*s)).map ((Value.agg (zr.map uf).toArray).cells[· % (Value.agg (zr.map uf).toArray).cells.size]!))=((RW s (λ_=>zr) n).map uf).toArray:=by
 have e:(Value.agg (zr.map uf).toArray).cells=(zr.map uf).toArray:=rfl;rw[e];apply Array.ext
 ·simp[cQ,Nat.mul_comm]
 ·intro i h1 h2
  have hi:i<n*s:=by simpa using h1
  have hs:0<s:=by
   rcases Nat.eq_zero_or_pos s with h|h
   ·subst h;simp at hi
   ·exact h
  have hm:i % s<zr.length:=by rw[hz];exact Nat.mod_lt _ hs
  have hg:(RW s (λ_=>zr) n)[i]? =some (zr.getD (i % s) 0):=lI _ n i (by rw[Nat.mul_comm];exact hi)
  have hg2:((RW s (λ_=>zr) n).map uf)[i]? =some (uf (zr.getD (i % s) 0)):=by rw[List.getElem?_map,hg];rfl
  have hr:((RW s (λ_=>zr) n).map uf).toArray[i]=uf (zr.getD (i % s) 0):=by
   have:=List.getElem?_eq_some_iff.1 hg2;obtain ⟨hl,he⟩:=this;simpa using he
  rw[hr];have hl:((zr.map uf).toArray)[i % s]! =uf (zr.getD (i % s) 0):=by
   simp[hm]
  simp only[Array.getElem_map,Array.getElem_range];rw[show ((zr.map uf).toArray).size=s by simp[hz]]
  exact hl
theorem eX(n:Nat)(f:Nat->List (BitVec bw))(zr:List (BitVec bw)){t e:TypeId}{len:Nat}{ps:List (Nat×Operand)}(hB:BOk G B)(hfr:lkB L n=none)(hx:evL F (ps.map (·.2))=some ((List.range len).map λi=>.agg ((f i).map uf).toArray))(hi:ps.map (·.1)=List.range len)
 (hf: ∀i,i<len->(f i).length=s) (h0:0<len*s) (hl:len*s<=16777216) (hu:P.underlying t=some (.slice e)) (hs: ∀w,(sizeOf e).run P w=.ok s w) (hzl:zr.length=s) (hz: ∀w,(zeroValue e).run P w=.ok (.agg (zr.map uf).toArray) w)
 (hw:aT ops F ⟨some d,.buildSlice t len ps.toArray,ty,pos,af,gd⟩=some true) (hd:Nat.blt d N=true)
 (h: ∀b,Lx P G ro ops N ds (EE fs) Z rest ((d,.slice (spt b) len len)::F) (Hp B ((n,b,(RW s f len).map uf,e)::L))):Lx P G ro ops N ds (EE fs) Z (⟨some d,.buildSlice t len ps.toArray,ty,pos,af,gd⟩::rest) F (Hp B L):=by
 refine tT O hw hd (λ_ h=>by cases h) λa w ha hC=> ?_
 refine ⟨.slice (spt w.heap.size) len len,w.alloc (.cells ((RW s f len).map uf).toArray e),_,.inl ?_,ay hB,hC.alloc hB.r n _ e,bO hB.r hfr,h w.heap.size⟩;have e1:(ps.toArray.map λ(i,x)=>(i,a.eval x))=((List.range len).map λi=>(i,Value.agg ((f i).map uf).toArray)).toArray:=by
  have:ps.map (λ(p:Nat×Operand)=>(p.1,a.eval p.2))=(ps.map (·.1)).zip ((ps.map (·.2)).map a.eval):=by rw[List.map_map,List.zip_map'];rfl
  rw[List.map_toArray,this,hi,ha.evL hx];congr 1;rw[List.zip_eq_zipWith,List.zipWith_map_right,List.zipWith_self]
 have hfl:=Gx (s:=s) (uf:=uf) f len hf (List.range len) (λ_=>zr) (λi hi=>List.mem_range.1 hi);rw[kN (g:=f) (λi hi=>oN f (List.range len) _ i (.inl (List.mem_range.2 hi)))]at hfl;have hlt: ¬(len*s>2^24):=om;have h00: ¬(len*s=0):=om;show ((do pure (.value (<-Instr.buildSlice t len (ps.toArray.map λ(i,x)=>(i,a.eval x)))):Sem Next)).run P w=_
 rw[e1];have hb:(Instr.buildSlice t len ((List.range len).map λi=>(i,Value.agg ((f i).map uf).toArray)).toArray).run P w=.ok (.slice (spt w.heap.size) len len) (w.alloc (.cells ((RW s f len).map uf).toArray e)):=by
  simp only[Instr.buildSlice,Sem.run_bind,run_underlying hu,Result.andThen_ok,hs,if_neg hlt,if_neg h00,hz,Sem.run_pure,E0 zr hzl len,hfl];simp[newRow]
 simp only[Sem.run_bind,hb,Result.andThen_ok];rfl
theorem iG(k:Nat){t e:TypeId}{len cap:Nat}{x ix:Operand}{b o:Nat}{i:Int}(hx:evF F x=some (.slice (some ⟨b,o,none⟩) len cap))(hi:evF F ix=some (I i))(hu:P.underlying t=some (.slice e))
 (hs: ∀w,(sizeOf e).run P w=.ok s w) (hk:i=(k:Int)) (hb:k<len) (hw:aT ops F ⟨some d,.indexAddr t x ix,ty,pos,af,gd⟩=some true) (hd:Nat.blt d N=true)
 (h:Lx P G ro ops N ds (EE fs) Z rest ((d,.pointer (some ⟨b,o+s*k,none⟩))::F) C):Lx P G ro ops N ds (EE fs) Z (⟨some d,.indexAddr t x ix,ty,pos,af,gd⟩::rest) F C:=
 Nd hx hi hu hs om hw hd (by
  rw[show o+i.toNat*s=o+s*k from by rw[Nat.mul_comm s k,hk];rfl];exact h)
theorem gD{w:World}{b n k:Nat}{f:Nat->List (BitVec bw)}(h:w.rangeAt b 0 ((RW s f n).map uf))(hk:k<n)(hf:(f k).length=s):w.rangeAt b (0+s*k) ((f k).map uf):=λj v hv=>by
 have:=h (s*k+j) v (zW f n k hk hf (s*k) O j v hv);rw[Nat.zero_add]at this;rw[Nat.zero_add];exact this
end
end
section
open Go.RowKit
theorem fg(n:Nat){t e:TypeId}{x:Operand}{b len cap:Nat}{c:List Value}(hf:fs.any (Nat.beq (1000000+t))=true)(hB:BOk G B)(hx:evF F x=some (.slice (spt b) len cap))(hl:lkB L n=some (b,c,e))(hu:P.underlying t=some (.slice e))(hue:P.underlying e=some (.int .u8))
 (hw:aT ops F ⟨some d,.convert t t x,ty,pos,af,gd⟩=some true) (hd:Nat.blt d N=true)
 (h:Lx P G ro ops N ds (EE fs) Z rest ((d,.slice (spt b) len cap)::F) (Hp B L)):Lx P G ro ops N ds (EE fs) Z (⟨some d,.convert t t x,ty,pos,af,gd⟩::rest) F (Hp B L):=by
 refine tT hf hw hd (λ_ h=>by cases h) λa w ha hC=> ?_
 obtain ⟨fz,h1,h2⟩:=(hC.own n b c e hl).1;have ht:TurnAt b w (w.freeze ⟨b,c.length,none⟩ 1):=⟨rfl,rfl,rfl,by simp[World.freeze],λk hk=>by simp[World.freeze,Array.getElem?_modify,Ne.symm hk]⟩
 have ho:OwnB (w.freeze ⟨b,c.length,none⟩ 1) b c e:=⟨if fz.1==fz.2 then (c.length,c.length+1)else (min fz.1 c.length,max fz.2 (c.length+1)),by
  rw[World.freeze,if_neg dc];show (Array.modify w.heap b _)[b]? =_;rw[Array.getElem?_modify,if_pos O,h1];simp,by
  right;rcases h2 with rfl|h2
  ·simp
  ·split
   ·exact Nat.le_refl _
   ·show c.length<=min fz.1 c.length
    omega⟩
 have hw2:=hC.turn hB.r hl c ht ho;refine ⟨_,_,_,.inl ?_,ay hB,hw2.less hB.r ?_,λ_ h=>h,h⟩
 ·have hsh:w.shape? b=some (e,c.length):=by simp only[World.shape?,h1];simp
  simp only[execOp,ha.ev hx,convert,Sem.run_bind,run_underlying hu,run_underlying hue,Result.andThen_ok];simp[markStringish,hsh]
 ·intro m y hy
  by_cases hm:m=n
  ·subst hm
   rw[hl]at hy
   cases hy
   simp[lkB]
  ·have hb:Nat.beq n m=false:=by
    cases hb:Nat.beq n m with
    |false=>rfl
    |true=>exact absurd (Nat.eq_of_beq_eq_true hb).symm hm
   simp[lkB,hb,hy]
end
section
open Go.RowKit
theorem im(n1 n2:Nat){fn:Func}{R:Ending->World->Prop}{t1 t2:Nat}{T et1 et2:TypeId}{b1 b2 m:Nat}{c1 c2:List Value}(hr:fn.results= #[.cell t1 T,.cell t2 T])
 (hv1:lk F t1=some (pnt b1)) (hv2:lk F t2=some (pnt b2))
 (hl1:lkB L n1=some (b1,c1,et1)) (hl2:lkB L n2=some (b2,c2,et2)) (hag: ∀w,(isAgg T).run P w=.ok true w) (hs: ∀w,(sizeOf T).run P w=.ok m w) (hm1:c1.length=m) (hm2:c2.length=m)
 (h: ∀w,Hp B L w->R (.returned (.tuple #[.agg c1.toArray,.agg c2.toArray])) w):lW P fn R .ret [] F (Hp B L):=
 ⟨rfl,λa w ha hC=>⟨.tuple #[.agg c1.toArray,.agg c2.toArray],by
  have e1:=run_loadCells_list (P:=P) w ⟨b1,0,none⟩ c1 (λj v hv=>by rw[Addr.add_mid];exact aG (n:=n1) hl1 w hC j v hv)
  have e2:=run_loadCells_list (P:=P) w ⟨b2,0,none⟩ c2 (λj v hv=>by rw[Addr.add_mid];exact aG (n:=n2) hl2 w hC j v hv)
  rw[hm1]at e1;rw[hm2]at e2;simp[results,hr,ha.get t1 _ hv1,ha.get t2 _ hv2,asAddr,loadVar,hag,hs,e1,e2],h w hC⟩⟩
end
section
open Go.RowKit
theorem iu{t:TypeId}{x:Operand}{v:Value}{fl:Array Field}(hx:evF F x=some v)(hu:P.underlying t=some (.struct fl))
 (hw:aT ops F ⟨some d,.makeInterface t x,ty,pos,af,gd⟩=some true) (hd:Nat.blt d N=true)
 (h:Lx P G ro ops N ds (EE fs) Z rest ((d,.iface t v)::F) C):Lx P G ro ops N ds (EE fs) Z (⟨some d,.makeInterface t x,ty,pos,af,gd⟩::rest) F C:=
 cq (v:=.iface t v) O hw hd (λ_ h=>by cases h) (λa w ha _=>by
  simp only[execOp,ha.ev hx];simp[Instr.makeInterface,run_underlying hu]) h
def mp(P:Program)(t:TypeId)(name:String)(f:FuncId):Prop:= ∀v w,(method (P.types.size+Made.depth) t v name).run P w=.ok (f,v) w
theorem ul{f:Nat}{t:TypeId}{name:String}{x:Operand}{rv:Value}{al:List Operand}{at':Array TypeId}{vs:List Value}{v:Value}(hf:fs.any (Nat.beq 3000001)=false)(hx:evF F x=some (.iface t rv))(hm:mp P t name f)(ha:evL F al=some vs)(he:ai P f)(hp:lZ P G f (rv::vs) v)
 (hw:aT ops F ⟨some d,.call {callee:=.invoke x name,args:=al.toArray,argTypes:=at'},ty,pos,af,gd⟩=some true) (hd:Nat.blt d N=true)
 (h:Lx P G ro ops N ds (EE fs) Z rest ((d,v)::F) C):Lx P G ro ops N ds (EE fs) Z (⟨some d,.call {callee:=.invoke x name,args:=al.toArray,argTypes:=at'},ty,pos,af,gd⟩::rest) F C:=
 vl (v:=v) (by simpa [EE]using hf) hw hd (λ_ h=>by cases h) (λa w hA hC=>⟨f,(rv::vs).toArray,by
  have e:=hA.evL ha;have e2:=hA.ev hx;simp only[execOp,resolve,invoke,Sem.run_bind,Sem.run_pure,Result.andThen_ok,List.map_toArray,e,e2];simp[callMethod,hm rv w,he _ w],fS (hp w hC)⟩) h
theorem fJ{f:Nat}{t:TypeId}{name:String}{x:Operand}{rv:Value}{al:List Operand}{at':Array TypeId}{vs:List Value}{q:Bool}(b:Bool)(hf:fs.any (Nat.beq 3000001)=false)(hx:evF F x=some (.iface t rv))(hm:mp P t name f)(ha:evL F al=some vs)(he:ai P f)(hp:lZ P G f (rv::vs) (.bool q))(hq:q=b)
 (hw:aT ops F ⟨some d,.call {callee:=.invoke x name,args:=al.toArray,argTypes:=at'},ty,pos,af,gd⟩=some true) (hd:Nat.blt d N=true)
 (h:Lx P G ro ops N ds (EE fs) Z rest ((d,.bool b)::F) C):Lx P G ro ops N ds (EE fs) Z (⟨some d,.call {callee:=.invoke x name,args:=al.toArray,argTypes:=at'},ty,pos,af,gd⟩::rest) F C:=by
 subst hq;exact ul hf hx hm ha he hp hw hd h
theorem f8{t e:TypeId}{sz:Nat}{x y z:Operand}{lo:Option Operand}{a0:Option Addr}{len cap l h' m:Nat}(hx:evF F x=some (.slice a0 len cap))(hu:P.underlying t=some (.slice e))(hs: ∀w,(sizeOf e).run P w=.ok sz w)
 (hl:(lo.map (evF F)).getD (some (I 0))=some (I l)) (hh:evF F y=some (I h')) (hm:evF F z=some (I m)) (hb:l<=h'/\h'<=m/\m<=cap)
 (hw:aT ops F ⟨some d,.slice t x lo (some y) (some z),ty,pos,af,gd⟩=some true) (hd:Nat.blt d N=true)
 (h:Lx P G ro ops N ds (EE fs) Z rest ((d,.slice (if m=l then a0 else a0.map (·.add (l*sz))) (h'-l) (m-l))::F) C):Lx P G ro ops N ds (EE fs) Z (⟨some d,.slice t x lo (some y) (some z),ty,pos,af,gd⟩::rest) F C:=
 cq (v:=.slice (if m=l then a0 else a0.map (·.add (l*sz))) (h'-l) (m-l)) O hw hd (λ_ h=>by cases h) (λa w ha _=>by
  have hy:=ha.ev hh;have hz:=ha.ev hm;have hb1:=hb.1;have hb2:=hb.2.1;have hb3:=hb.2.2;simp only[execOp,ha.ev hx]
  cases lo with
  |none=>
   simp at hl;have hl0:l=0:=om;subst hl0;simp[Instr.sliceAt,Instr.slice,run_underlying hu,Instr.sliceBounds,Instr.sliceBound,asIntOf,hy,hz,hs,hb2,hb3]
  |some q=>
   have hq:=ha.ev (x:=q) (v:=I l) (by simpa using hl)
   simp[Instr.sliceAt,Instr.slice,run_underlying hu,Instr.sliceBounds,Instr.sliceBound,asIntOf,hy,hz,hq,hs,hb1,hb2,hb3]) h
theorem rP{t e:TypeId}{n:Nat}{x y z:Operand}{lo:Option Operand}{b l h' m:Nat}(hx:evF F x=some (pnt b))(hu:P.underlying t=some (.array n e))(hs: ∀w,(sizeOf e).run P w=.ok 1 w)
 (hl:(lo.map (evF F)).getD (some (I 0))=some (I l)) (hh:evF F y=some (I h')) (hm:evF F z=some (I m)) (hb:l<=h'/\h'<=m/\m<=n) (hne:l≠m)
 (hw:aT ops F ⟨some d,.slice t x lo (some y) (some z),ty,pos,af,gd⟩=some true) (hd:Nat.blt d N=true)
 (h:Lx P G ro ops N ds (EE fs) Z rest ((d,.slice (some ⟨b,l,none⟩) (h'-l) (m-l))::F) C):Lx P G ro ops N ds (EE fs) Z (⟨some d,.slice t x lo (some y) (some z),ty,pos,af,gd⟩::rest) F C:=
 cq (v:=.slice (some ⟨b,l,none⟩) (h'-l) (m-l)) O hw hd (λ_ h=>by cases h) (λa w ha _=>by
  have hy:=ha.ev hh;have hz:=ha.ev hm;have hb1:=hb.1;have hb2:=hb.2.1;have hb3:=hb.2.2;have hne': ¬m=l:=λe=>hne e.symm;simp only[execOp,ha.ev hx]
  cases lo with
  |none=>
   simp at hl;have hl0:l=0:=om;subst hl0;simp[Instr.sliceAt,run_underlying hu,Instr.sureAddr,Instr.sliceBounds,Instr.sliceBound,asIntOf,hy,hz,hs,hb2,hb3,Addr.add_mid]
  |some q=>
   have hq:=ha.ev (x:=q) (v:=I l) (by simpa using hl)
   simp[Instr.sliceAt,run_underlying hu,Instr.sureAddr,Instr.sliceBounds,Instr.sliceBound,asIntOf,hy,hz,hq,hs,hb1,hb2,hb3,Addr.add_mid,hne']) h
end
section
open Go.RowKit
theorem uq{t:TypeId}{x ix:Operand}{s:ByteArray}{k:IntKind}{i:Int}{n:BitVec 8}(hx:evF F x=some (.string s))(hi:evF F ix=some (.int k i))(hu:P.underlying t=some .string)(h0:0<=i)(hv:s.data[i.toNat]? =some (UInt8.ofBitVec n))
 (hw:aT ops F ⟨some d,.index t x ix,ty,pos,af,gd⟩=some true) (hd:Nat.blt d N=true) (h:Lx P G ro ops N ds (EE fs) Z rest ((d,U8 n)::F) C):Lx P G ro ops N ds (EE fs) Z (⟨some d,.index t x ix,ty,pos,af,gd⟩::rest) F C:=
 cq (v:=U8 n) O hw hd (λ_ h=>by cases h) (λa w ha _=>by
  have hlt:i.toNat<s.size:=(Array.getElem?_eq_some_iff.1 hv).1;have hg:s[i.toNat]=UInt8.ofBitVec n:=(Array.getElem?_eq_some_iff.1 hv).2;have hr:=run_index_string (P:=P) w t s k i hu;rw[dif_pos ⟨h0,om⟩]at hr;simp only[execOp,ha.ev hx,ha.ev hi,Sem.run_bind,hr,Result.andThen_ok,hg];rfl) h
end
section
open Go.RowKit
theorem wt{P:Program}{w:World}(t:TypeId)(n:Nat):(binOp .shr t (I (n:Int)) (U64 8#64)).run P w=.ok (I ((n / 256:Nat):Int)) w:=by
 have e:(n:Int).fdiv (2^(min 8 64))=((n / 256:Nat):Int):=by
  rw[Int.fdiv_eq_ediv_of_nonneg _ dc];rfl
 show (Op.shift .shr .i64 (n:Int) .u64 ((8:Nat):Int)).run P w=_;unfold Op.shift;rw[if_neg om];show Result.ok (Value.int .i64 ((n:Int).fdiv (2^(min ((8:Nat):Int).toNat 64)))) w=_;rw[Int.toNat_natCast,e]
theorem OwnSl.of{own L:Hl}{n:Nat}{e:TypeId}{a0:Option Addr}{cap:Nat}{xs:L8}(h:OwnSl own n e a0 cap xs)(hl:lkB L n=lkB own n):OwnSl L n e a0 cap xs:=by
 unfold OwnSl at*;rw[hl];exact h
end
section
open Go.RowKit
theorem jt{f:Nat}{al:List Operand}{at':Array TypeId}{vs:List Value}{dst:Option Nat}{low:Nat}{Q:World->Value->Prop}(hf:fs.any (Nat.beq f)=true)(ha:evL F al=some vs)(he:ai P f)
 (hw:aT ops F ⟨dst,.call {callee:=.value (.func f),args:=al.toArray,argTypes:=at'},ty,pos,af,gd⟩=some true) (hd:jx N dst=true) (hl:GLow G low) (hS:dJ G C)
 (hp: ∀w,C w->G w->Calls P f vs.toArray w (λe w'=> ∃v,e=.returned v/\Grow w w'/\Q w' v))
 (h: ∀w0 w1 v,C w0->Grow w0 w1->G w1->Q w1 v->Lx P G ro ops N ds (EE fs) Z rest (putF dst v F) (Hp (pl w1) []))
 (hgr:fs.any (Nat.beq (f+2000000))=false:=by rfl):
 Lx P G ro ops N ds (EE fs) Z (⟨dst,.call {callee:=.value (.func f),args:=al.toArray,argTypes:=at'},ty,pos,af,gd⟩::rest) F C:=
 dy hf ha he hw hd (λw hC=>(hp w hC (hS.2 w hC)).mono λe w' ⟨v,he',hg,hq⟩=>by
  have hG1:G w':=hl.grow (hS.2 w hC) hg;exact ⟨v,Hp (pl w') [],he',ay (hl.plain hG1),ci (pl w') trivial am,h w w' v hC hg hG1 hq⟩) hgr
end
section
open Go.RowKit
theorem WX(m:Nat):(madeCells (Value.int .u8 0).cells m).toList=(List.replicate m 0#8).map U8:=by
 have hz:(Value.int .u8 0).cells= #[Value.int .u8 0]:=rfl;rw[hz,madeCells,List.map_replicate];refine List.ext_getElem sm λi h1 h2=> ?_;simp[Nat.mod_one];rfl
theorem Ty{s:Nat}(zr:L6)(hz:zr.length=s)(n:Nat):(madeCells (Value.agg (zr.map U64).toArray).cells (n*s)).toList=(RW s (λ_=>zr) n).map U64:=by
 rw[madeCells,E0 zr hz n]
theorem wc(n:Nat){t e:TypeId}{x y:Operand}{l m:Nat}{z:Value}{sz by_:Nat}{c:List Value}(hB:BOk G B)(hx:evF F x=some (I (l:Int)))(hy:evF F y=some (I (m:Int)))(hlm:l<=m)(hu:P.underlying t=some (.slice e))(hi:TI P e z sz by_)
 (hm:m*sz<=16777216/\by_*m<=281474976710656/\m<=1000000) (hc:(madeCells z.cells (m*sz)).toList=c) (hw:aT ops F ⟨some d,.makeSlice t x y,ty,pos,af,gd⟩=some true) (hd:Nat.blt d N=true)
 (h: ∀b,Lx P G ro ops N ds (EE fs) Z rest ((d,.slice (spt b) l m)::F) (Hp B ((n,b,c,e)::L))) (hgr:fs.any (Nat.beq 2999995)=false:=by rfl):Lx P G ro ops N ds (EE fs) Z (⟨some d,.makeSlice t x y,ty,pos,af,gd⟩::rest) F (Hp B L):=
 eN (hgr:=hgr) O hw hd (λ_ h=>by cases h) λa w ha hC=>by
  obtain ⟨i,hi,hz,rfl,rfl⟩:=hi;have hr:=run_makeSlice (P:=P) (w:=w) t e i z hu hi hz .i64 .i64 (l:Int) (m:Int) om om (by rw[Int.toNat_natCast];exact hm.1) (by have:=Int.ofNat_le.2 hm.2.1;rw[Int.natCast_mul]at this;exact this) om
  simp only[Int.toNat_natCast]at hr;refine ⟨.slice (spt w.heap.size) l m,w.alloc (.cells c.toArray e),_,.inl ?_,ay hB,hC.alloc hB.r n c e,h w.heap.size⟩;subst hc;simp only[execOp,ha.ev hx,ha.ev hy,I,Sem.run_bind,hr,Result.andThen_ok];simp
end
section
open Go.RowKit
section
variable {Y:Nat->Prop} {w w':World} {b:Nat} {cs:List Value}
theorem me{o:Nat}(h:w.rangeAt b o cs)(hg:Grow w w'):w'.rangeAt b o cs:=λj v hv=>(hg.cell (block_lt_of_cell (h j v hv))).trans (h j v hv)
def pj(B:Bs)(b:Nat)(cs:List Value):Bs:=⟨B.w0,B.M,λY w=>B.J Y w/\¬Y b/\b<w.heap.size/\w.rangeAt b 0 cs⟩
theorem GU(hr:Rides B.J):Rides (pj B b cs).J where
 grow:=λY w w' h hg=>⟨hr.grow _ _ _ h.1 hg,h.2.1,Nat.lt_of_lt_of_le h.2.2.1 hg.size,me h.2.2.2 hg⟩
 new:=λY w w' S h hg hS=>⟨hr.new _ _ _ S h.1 hg hS,λe=>e.elim (λe=>by have:=(hS b e).1;have:=h.2.2.1;omega) h.2.1,Nat.lt_of_lt_of_le h.2.2.1 hg.size,me h.2.2.2 hg⟩
 turn:=λY w w' k hk h ht=>⟨hr.turn _ _ _ k hk h.1 ht,h.2.1,by rw[ht.size];exact h.2.2.1,λj v hv=>by
  have e:=World.cell?_of_block (w:=w) (w':=w') (a:=⟨b,0+j,none⟩) (ht.other b (λe=>h.2.1 (e▸hk)));exact e.trans (h.2.2.2 j v hv)⟩
 less:=λY Y' w hs h=>⟨hr.less _ _ _ hs h.1,λe=>h.2.1 (hs _ e),h.2.2⟩
theorem ji(h:Hq (pj B b cs) L Y w):Hq B L Y w:=⟨h.os,h.tape,h.output,h.size,h.keep,h.own,h.inj,h.apart,h.high,h.lt,h.rid.1⟩
theorem mi(h:BOk G B):BOk G (pj B b cs):=⟨λ_ _ _ hq=>h.g _ _ _ (ji hq),GU h.r⟩
theorem DJ(h:Hq B L Y w)(hr:Rides B.J)(hg:Grow w w')(hb:w.heap.size<=b)(hb':b<w'.heap.size)(hc:w'.rangeAt b 0 cs):Hq (pj B b cs) L Y w':=by
 have k:=h.grow hr hg;refine ⟨k.os,k.tape,k.output,k.size,k.keep,k.own,k.inj,k.apart,k.high,k.lt,k.rid,λe=> ?_,hb',hc⟩;rcases e with e|e
 ·have:=h.ownlt e;omega
 ·have:=h.lt _ e;omega
theorem wF(h:Hq (pj B b cs) L Y w):w.rangeAt b 0 cs:=h.rid.2.2.2
theorem hbl(h:Hp B L w)(hM: ∀k,¬B.M k:=by exact λ_ h=>h):Grow B.w0 w:=h.below hM
end
end
section
open Go.RowKit
theorem Wu{P:Program}{G:Cls}{ro:Option Nat}{N:Nat}{ds:List Deferred}{F:Fr}{C C':Cls}{K:KK}{c:Code}(hC: ∀w,C w->C' w)(hG:dJ G C')(h:X P G ro N ds c F C' K):X P G ro N ds c F C K:=
 λ_ a w ha hw=>h hG a w ha (hC w hw)
theorem E2{f:Nat}{x:Operand}{al:List Operand}{at':Array TypeId}{vs:List Value}{v:Value}(hx:evF F x=some (.func (.func f) #[] #[]))(ha:evL F al=some vs)(he:ai P f)(hp:lZ P G f vs v)(hB:BOk G B)
 (hw:aT ops F ⟨some d,.call {callee:=.value x,args:=al.toArray,argTypes:=at'},ty,pos,af,gd⟩=some true) (hd:jx N (some d)=true) (hE:EE fs ⟨some d,.call {callee:=.value x,args:=al.toArray,argTypes:=at'},ty,pos,af,gd⟩=true)
 (h:Lx P G ro ops N ds (EE fs) Z rest ((d,v)::F) (Hp B L))
 (hgr:EE fs (ig ⟨some d,.call {callee:=.value x,args:=al.toArray,argTypes:=at'},ty,pos,af,gd⟩)=false:=by rfl):
 Lx P G ro ops N ds (EE fs) Z (⟨some d,.call {callee:=.value x,args:=al.toArray,argTypes:=at'},ty,pos,af,gd⟩::rest) F (Hp B L):=by
 unfold Lx;rw[hE];intro a w hA hC;refine ⟨hA.want hw,λf _=>dP ro f, ?_⟩;rw[show (FW ro).round=ro from O,Oper.semAt_eq _ _ _ (λ_ h=>by cases h)]
 have e:(execOp a.eval ⟨some d,.call {callee:=.value x,args:=al.toArray,argTypes:=at'},ty,pos,af,gd⟩).run P w=.ok (.enter f vs.toArray) w:=by
  have e:=hA.evL ha;simp only[execOp,resolve,invoke,Sem.run_bind,Sem.run_pure,Result.andThen_ok,List.map_toArray,e,hA.ev hx,Deferred.ofValue];simp[he _ w]
 rw[e];refine ⟨λh=>(by cases h),CallsIn.mono (fS (hp w (hB.g _ _ _ hC))) λe w' ⟨he',hg⟩=> ?_⟩
 subst he';exact ⟨_,Hp B L,hA.putF hd v,ay hB,hC.grow hB.r hg,λh=>(by rw[hgr]at h;cases h),h⟩
end
end Go.Proofs.YtjookodjbjabbaaGreatDoor
