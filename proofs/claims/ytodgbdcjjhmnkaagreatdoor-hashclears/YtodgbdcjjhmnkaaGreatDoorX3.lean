/-
 A struct whose one field fills it; an array of which only the first element is named. Nothing here names a program.
 Structs whose one field fills them, compared. Nothing here names a program.
 The engine, part 27: rows inside blocks; calls whose answer is known. Nothing here names a program.
 The engine, part 28: arrays of bytes compared; bools compared. Nothing here names a program.
 The engine, part 29: parts laid into what is built; rows of rows. Nothing here names a program.
 The engine, part 30: a plain region walked in two parts, the second as it suits. Nothing here names a program.
 The engine, part 31: a region that draws its order, by the tree of its orders where memory grows in several ways at once. Nothing here names a program.
 The engine, part 32: a slice of bytes made; a choice behind what was passed by. Nothing here names a program.
 The engine, part 33: reads of what no step of a region can turn; the base moved. Nothing here names a program.
 The engine, part 34: slices from a place on; slices as arrays. Nothing here names a program.
 The engine, part 35: structs of two rows: built, read, compared. Nothing here names a program.
 The engine, part 36: rows of rows of twelve. Nothing here names a program.
 The engine, part 37: two ways that meet again. Nothing here names a program.
 The engine, part 38: a large region that draws its order and makes nothing: its check by a table. Nothing here names a program.
 The engine, part 39: structs of three rows: built, read, written; arrays of rows compared. Nothing here names a program.
 The engine, part 40: arrays of rows of twelve, built of some; three results. Nothing here names a program.
 The engine, part 41: arrays of rows of twelve, made and read; rounds that carry a fact; a single value handed back. Nothing here names a program.
 The engine, part 42: rows of rows of any width; parts of rows within rows. Nothing here names a program.
 The engine, part 43: slices of values of several cells: a literal of one, append. Nothing here names a program.
 The engine, part 44: slices made, and bytes appended, where the class is only narrowed (marks 2999998 and 2999997).
 The engine, part 45: slice literals of values of several cells; the class is only narrowed.
 The engine, part 46: bytes made bytes again, beside other steps. Nothing here names a program.
 The engine, part 47: two variables handed back.
 Values held in interfaces, their methods called; parts of slices with three indices.
 The engine, part 49: a byte of a string. Nothing here names a program.
 The engine, part 50: numbers moved by eight; slices of bytes of our own wherever they are kept. Nothing here names a program.
 The engine, part 51: a call behind which all that lies in memory is old. Nothing here names a program.
 The engine, part 52: slices made with room, of any size. Nothing here names a program.
 The engine, part 53: what a callee has made is carried along. Nothing here names a program.
-/
import Derived.Test.YtodgbdcjjhmnkaaGreatDoorX2
import Derived.Laws.MakeOwn
import Derived.Deep.AppendSrc
import Derived.Laws.Strings
set_option maxRecDepth 100000
set_option maxHeartbeats 1000000
namespace Go.Proofs.YtodgbdcjjhmnkaaGreatDoor
section
open Go.RowKit
section
variable {P:Program} {G:Cls} {ro:Option Nat} {ops:Array Oper} {N:Nat} {ds:List Deferred} {fs:List Nat} {Z:Fr→Cls→Prop} {rest:List Oper} {F:Fr} {C:Cls} {d:Nat} {ty:TypeId} {pos:String} {af:Array Edge} {gd:Option (Nat×Bool)}
theorem qH{t:TypeId}{f:Field}{l:List (BitVec 64)}(hl:l.length=6)(hu:P.underlying t=some (.struct #[f]))(h0:f.offset=0)(hs: ∀w,(sizeOf f.type).run P w=.ok 6 w)
 (hz: ∀w,(zeroValue t).run P w=.ok (.agg ((List.replicate 6 0#64).map U64).toArray) w) (w:World):(Instr.build t #[(0,.agg (l.map U64).toArray)]).run P w=.ok (.agg (l.map U64).toArray) w:=by
 match l,hl with
 |[_,_,_,_,_,_],_=>simp[Instr.build,hz,run_underlying hu,hs,h0,Value.cells,Instr.fill,List.replicate]
theorem bH{t:TypeId}{f:Field}{x:Operand}{l:List (BitVec 64)}(hx:evF F x=some (.agg (l.map U64).toArray))(hl:l.length=6)(hu:P.underlying t=some (.struct #[f]))(h0:f.offset=0)(hs: ∀w,(sizeOf f.type).run P w=.ok 6 w)
 (hz: ∀w,(zeroValue t).run P w=.ok (.agg ((List.replicate 6 0#64).map U64).toArray) w) (hw:aB ops F ⟨some d,.build t #[(0,x)],ty,pos,af,gd⟩=some true) (hd:Nat.blt d N=true)
 (h:Lx P G ro ops N ds (EE fs) Z rest ((d,.agg (l.map U64).toArray)::F) C):Lx P G ro ops N ds (EE fs) Z (⟨some d,.build t #[(0,x)],ty,pos,af,gd⟩::rest) F C:=
 df (ps:=[(0,x)]) (vs:=[.agg (l.map U64).toArray]) (by simp[evL,hx]) (fun w=>qH hl hu h0 hs hz w) hw hd h
theorem qD{t e:TypeId}{n:BitVec 64}(hu:P.underlying t=some (.array 6 e))(hs: ∀w,(sizeOf e).run P w=.ok 1 w)
 (hz: ∀w,(zeroValue t).run P w=.ok (.agg ((List.replicate 6 0#64).map U64).toArray) w) (w:World):(Instr.build t #[(0,U64 n)]).run P w=.ok (.agg ((n::List.replicate 5 0).map U64).toArray) w:=by
 simp[Instr.build,hz,run_underlying hu,hs,Value.cells,Instr.fill,List.replicate,U64]
theorem dO{t e:TypeId}{x:Operand}(n:BitVec 64)(hx:evF F x=some (U64 n))(hu:P.underlying t=some (.array 6 e))(hs: ∀w,(sizeOf e).run P w=.ok 1 w)
 (hz: ∀w,(zeroValue t).run P w=.ok (.agg ((List.replicate 6 0#64).map U64).toArray) w) (hw:aB ops F ⟨some d,.build t #[(0,x)],ty,pos,af,gd⟩=some true) (hd:Nat.blt d N=true)
 (h:Lx P G ro ops N ds (EE fs) Z rest ((d,.agg ((n::List.replicate 5 0).map U64).toArray)::F) C):Lx P G ro ops N ds (EE fs) Z (⟨some d,.build t #[(0,x)],ty,pos,af,gd⟩::rest) F C:=
 df (ps:=[(0,x)]) (vs:=[U64 n]) (by simp[evL,hx]) (fun w=>qD hu hs hz w) hw hd h
end
end
section
open Go.RowKit
section
variable {P:Program}
theorem OwnB.range{w:World}{b:Nat}{c:List Value}{t:TypeId}(h:OwnB w b c t):w.rangeAt b 0 c:=by
 obtain ⟨fz,h,_⟩:=h
 intro j v hj
 simp[World.cell?,h,hj]
theorem oS{t:TypeId}(hag: ∀w,(isAgg t).run P w=.ok true w)(hs: ∀w,(sizeOf t).run P w=.ok 6 w)(xs:List (BitVec 64))(hl:xs.length=6)(w:World):(part t (xs.map U64).toArray 0).run P w=.ok (.agg (xs.map U64).toArray) w:=by
 simp only[part,Sem.run_bind,hag,hs,Result.andThen_ok,if_true,Sem.run_pure,Nat.zero_add]
 congr 2
 have:(xs.map U64).length=6:=by rw[List.length_map,hl]
 simp[List.extract_toArray,this,List.take_of_length_le]
theorem eqS{t e:TypeId}{f:Field}(hu:P.underlying t=some (.struct #[f]))(h0:f.offset=0)(hn:f.name≠ "_")(hsi:P.stoodInHeld t=false)(hag: ∀w,(isAgg f.type).run P w=.ok true w)(hs: ∀w,(sizeOf f.type).run P w=.ok 6 w)
 (hua:P.underlying f.type=some (.array 6 e)) (he:P.underlying e=some (.int .u64)) (hse: ∀w,(sizeOf e).run P w=.ok 1 w) (hae: ∀w,(isAgg e).run P w=.ok false w) (xs ys:List (BitVec 64)) (hl:xs.length=6) (hl':ys.length=6) (d:Nat) (w:World):
 (Op.equalIn (d+3) t (.agg (xs.map U64).toArray) (.agg (ys.map U64).toArray)).run P w=.ok (decide (xs=ys)) w:=by
 rw[show d+3=(d+2)+1 from rfl,Op.equalIn]
 simp only[Sem.run_bind,run_underlying hu,Result.andThen_ok]
 simp[hsi,hn,h0,oS hag hs xs hl,oS hag hs ys hl',Fo hua he hse hae xs ys hl hl' d]
 by_cases h:xs=ys<;>simp[h]
theorem Am{t e:TypeId}{f:Field}(hu:P.underlying t=some (.struct #[f]))(h0:f.offset=0)(hn:f.name≠ "_")(hsi:P.stoodInHeld t=false)(hag: ∀w,(isAgg f.type).run P w=.ok true w)(hs: ∀w,(sizeOf f.type).run P w=.ok 6 w)
 (hua:P.underlying f.type=some (.array 6 e)) (he:P.underlying e=some (.int .u64)) (hse: ∀w,(sizeOf e).run P w=.ok 1 w) (hae: ∀w,(isAgg e).run P w=.ok false w) (xs ys:List (BitVec 64)) (hl:xs.length=6) (hl':ys.length=6) (w:World):
 (binOp .neq t (.agg (xs.map U64).toArray) (.agg (ys.map U64).toArray)).run P w=.ok (.bool (!decide (xs=ys))) w:=by
 rw[run_neq_struct,eqS hu h0 hn hsi hag hs hua he hse hae xs ys hl hl' 9997 w];rfl
end
end
section
open Go.RowKit
section
variable {P:Program} {G:Cls} {ro:Option Nat} {ops:Array Oper} {N:Nat} {ds:List Deferred} {fs:List Nat} {Z:Fr→Cls→Prop} {F:Fr} {C:Cls} {rest:List Oper}
variable {d:Nat} {ty:TypeId} {pos:String} {af:Array Edge} {gd:Option (Nat×Bool)}
variable {B:Bs} {L:Hl}
theorem yu{f:Nat}{al:List Operand}{at':Array TypeId}{vs:List Value}{b:Bool}(b':Bool)(hf:fs.any (Nat.beq f)=false)(ha:evL F al=some vs)(he:ah P f)(hp:Pure P G f vs (.bool b))(hb:b=b')
 (hw:aB ops F ⟨some d,.call {callee:=.value (.func f),args:=al.toArray,argTypes:=at'},ty,pos,af,gd⟩=some true) (hd:Nat.blt d N=true)
 (h:Lx P G ro ops N ds (EE fs) Z rest ((d,.bool b')::F) C):Lx P G ro ops N ds (EE fs) Z (⟨some d,.call {callee:=.value (.func f),args:=al.toArray,argTypes:=at'},ty,pos,af,gd⟩::rest) F C:=
 iX hf ha he (hb▸hp) hw hd h
theorem CF{op:BinOp}{t yt:TypeId}{x y:Operand}{vx vy:Value}{b:Bool}(b':Bool)(hx:evF F x=some vx)(hy:evF F y=some vy)(hg: ∀w,(eqGuard op t x y vx vy).run P w=.ok () w)
 (hr: ∀w,(binOp op t vx vy).run P w=.ok (.bool b) w) (hb:b=b') (hw:aB ops F ⟨some d,.binOp op t x y yt,ty,pos,af,gd⟩=some true) (hd:Nat.blt d N=true)
 (h:Lx P G ro ops N ds (EE fs) Z rest ((d,.bool b')::F) C):Lx P G ro ops N ds (EE fs) Z (⟨some d,.binOp op t x y yt,ty,pos,af,gd⟩::rest) F C:=
 bW hx hy hg (hb▸hr) hw hd h
theorem gU{t:TypeId}{g m:Nat}{cs:List Value}(hG:BOk G B)(hag: ∀w,(isAgg t).run P w=.ok true w)(hs: ∀w,(sizeOf t).run P w=.ok m w)(hm:cs.length=m)(hc: ∀w,G w→w.rangeAt g 0 cs)
 (hw:aB ops F ⟨some d,.load t (.global g),ty,pos,af,gd⟩=some true) (hd:Nat.blt d N=true)
 (h:Lx P G ro ops N ds (EE fs) Z rest ((d,.agg cs.toArray)::F) (Hp B L)):Lx P G ro ops N ds (EE fs) Z (⟨some d,.load t (.global g),ty,pos,af,gd⟩::rest) F (Hp B L):=
 eX rfl hag hs hm (fun w hw=>hc w (hG.g _ _ w hw)) hw hd h
theorem cG(n:Nat){t et:TypeId}{x:Operand}{b o m:Nat}{c:List Value}(cs:List Value)(hx:evF F x=some (.pointer (some ⟨b,o,none⟩)))(hl:lkB L n=some (b,c,et))(hag: ∀w,(isAgg t).run P w=.ok true w)(hs: ∀w,(sizeOf t).run P w=.ok m w)
 (hm:cs.length=m) (hv: ∀j v,cs[j]? =some v→c[o+j]? =some v) (hw:aB ops F ⟨some d,.load t x,ty,pos,af,gd⟩=some true) (hd:Nat.blt d N=true)
 (h:Lx P G ro ops N ds (EE fs) Z rest ((d,.agg cs.toArray)::F) (Hp B L)):Lx P G ro ops N ds (EE fs) Z (⟨some d,.load t x,ty,pos,af,gd⟩::rest) F (Hp B L):=
 eX hx hag hs hm (ll (n:=n) hl hv) hw hd h
theorem vp(n:Nat){t et:TypeId}{x y:Operand}{b o m:Nat}{c:List Value}{vs:List Value}(c':List Value)(hG:BOk G B)(hx:evF F x=some (.pointer (some ⟨b,o,none⟩)))(hy:evF F y=some (.agg vs.toArray))(hl:lkB L n=some (b,c,et))
 (hs: ∀w,(sizeOf t).run P w=.ok m w) (hm:vs.length=m) (hv:vs.all (·.oneCell')=true) (ho:o+vs.length≤c.length) (he:lay o vs c=c') (hw:aB ops F ⟨none,.store t x y,ty,pos,af,gd⟩=some true)
 (h:Lx P G ro ops N ds (EE fs) Z rest F (Hp B ((n,b,c',et)::L))):Lx P G ro ops N ds (EE fs) Z (⟨none,.store t x y,ty,pos,af,gd⟩::rest) F (Hp B L):=
 eN n hG hx hy hl hs hm hv ho hw (he▸h)
theorem rz{t e:TypeId}{len sz:Nat}(k o':Nat){x ix:Operand}{b o:Nat}{i:Int}(hx:evF F x=some (.pointer (some ⟨b,o,none⟩)))(hi:evF F ix=some (I i))(hu:P.underlying t=some (.array len e))
 (hs: ∀w,(sizeOf e).run P w=.ok sz w) (hk:i=(k:Int)) (hb:k<len) (ho:o+k*sz=o') (hw:aB ops F ⟨some d,.indexAddr t x ix,ty,pos,af,gd⟩=some true) (hd:Nat.blt d N=true)
 (h:Lx P G ro ops N ds (EE fs) Z rest ((d,.pointer (some ⟨b,o',none⟩))::F) C):Lx P G ro ops N ds (EE fs) Z (⟨some d,.indexAddr t x ix,ty,pos,af,gd⟩::rest) F C:=
 CU hx hi hu hs (by omega) hw hd (by rw[show i.toNat=k by omega,ho];exact h)
end
end
section
open Go.RowKit
section
variable {P:Program}
theorem jv{f:Field}{n:Nat}(hs: ∀w,(sizeOf f.type).run P w=.ok n w)(w:World): ∃a,(Array.mapM (fun f:Field=>Prod.mk f.offset<$>sizeOf f.type) #[f]:Sem _).run P w=.ok a w:=⟨#[(f.offset,n)],by simp[hs]⟩
theorem nF(t:TypeId)(hu:P.underlying t=some .bool)(a b:Bool)(w:World):(binOp .eql t (.bool a) (.bool b)).run P w=.ok (.bool (a==b)) w:=by
 have h: ∀d:Nat,(Op.equalIn (d+1) t (.bool a) (.bool b)).run P w=.ok (a==b) w:=fun d=>by simp[Op.equalIn,run_underlying hu]
 simp only[binOp]
 simp[Op.equal,Op.maxDepth,h 9999]
theorem nV(t:TypeId)(hu:P.underlying t=some .bool)(a b:Bool)(w:World):(binOp .neq t (.bool a) (.bool b)).run P w=.ok (.bool (a !=b)) w:=by
 have h: ∀d:Nat,(Op.equalIn (d+1) t (.bool a) (.bool b)).run P w=.ok (a==b) w:=fun d=>by simp[Op.equalIn,run_underlying hu]
 simp only[binOp]
 simp[Op.equal,Op.maxDepth,h 9999,bne]
end
end
section
open Go.RowKit
theorem qu(o:Nat): ∀(vs:List Value) (k:Nat) (c:List Value),(vs.zipIdx k).foldl (fun (cs:Array Value) (p:Value×Nat)=>cs.setIfInBounds (o+p.2) p.1) c.toArray=(lay (o+k) vs c).toArray
 |[],_,_=>rfl
 |v::r,k,c=>by
  have ih:=qu o r (k+1) (c.set (o+k) v)
  rw[List.zipIdx_cons,List.foldl_cons,lay]
  simp only[List.setIfInBounds_toArray]
  rw[ih,Nat.add_assoc]
theorem cV{place:Nat→Option (Nat×Nat)}{i off size:Nat}{vs c:List Value}(hp:place i=some (off,size))(hs:vs.length=size)(ho:off+vs.length≤c.length)(rest:List (Nat×Value)):
 Instr.fill place c.toArray ((i,.agg vs.toArray)::rest)=Instr.fill place (lay off vs c).toArray rest:=by
 have h:=qu off vs 0 c
 have hn: ¬((decide ((Value.agg vs.toArray).cells.size≠size)||decide (off+(Value.agg vs.toArray).cells.size>c.toArray.size))=true):=by
  simp[Value.cells,hs];omega
 have e:(Value.agg vs.toArray).cells.zipIdx.foldl (fun (cs:Array Value) (p:Value×Nat)=>cs.setIfInBounds (off+p.2) p.1) c.toArray=(lay off vs c).toArray:=by
  rw[←Array.foldl_toList,Array.toList_zipIdx]
  exact h
 rw[Instr.fill,hp]
 show (if (decide ((Value.agg vs.toArray).cells.size≠size)||decide (off+(Value.agg vs.toArray).cells.size>c.toArray.size))=true then none else _)=_
 rw[if_neg hn,←e]
/-! ### Rows of six -/
def FL(f:Nat→List (BitVec 64))(n:Nat):List (BitVec 64):=(List.range (6*n)).map fun m=>(f (m / 6)).getD (m % 6) 0
theorem bC(f:Nat→List (BitVec 64))(n:Nat):(FL f n).length=6*n:=by rw[FL,List.length_map,List.length_range]
theorem rT(f:Nat→List (BitVec 64))(n m:Nat)(h:m<6*n):(FL f n)[m]? =some ((f (m / 6)).getD (m % 6) 0):=by
 rw[FL,List.getElem?_map,List.getElem?_range h];rfl
theorem AC(f:Nat→List (BitVec 64))(n k:Nat)(hk:k<n)(hf:(f k).length=6)(o:Nat)(ho:o=6*k): ∀j v,((f k).map U64)[j]? =some v→((FL f n).map U64)[o+j]? =some v:=fun j v hv=>by
 have hj:j<6:=by
  rcases Nat.lt_or_ge j 6 with h|h
  ·exact h
  ·rw[List.getElem?_eq_none (by rw[List.length_map,hf];exact h)]at hv;cases hv
 rw[List.getElem?_map]at hv⊢
 rw[rT f n (o+j) (by omega),show (o+j) / 6=k by omega,show (o+j) % 6=j by omega]
 rw[List.getElem?_eq_getElem (by omega)]at hv
 rw[←hv,List.getD_eq_getElem?_getD,List.getElem?_eq_getElem (by omega)]
 rfl
theorem qe{f g:Nat→List (BitVec 64)}{n:Nat}(h: ∀i,i<n→f i=g i):FL f n=FL g n:=by
 unfold FL
 refine List.map_congr_left fun m hm=> ?_
 rw[List.mem_range]at hm
 rw[h (m / 6) (by omega)]
theorem xw(f:Nat→List (BitVec 64))(n k:Nat)(g:List (BitVec 64))(hk:k<n)(hg:g.length=6)(o:Nat)(ho:o=6*k):lay o (g.map U64) ((FL f n).map U64)=(FL (fun i=>if i=k then g else f i) n).map U64:=by
 apply List.ext_getElem?
 intro m
 rw[fA _ _ _ _ (by rw[List.length_map,List.length_map,bC,hg];omega)]
 rw[List.length_map,hg,List.getElem?_map (l:=FL (fun i=>if i=k then g else f i) n)]
 by_cases hm:m<6*n
 ·rw[rT _ n m hm]
  by_cases h:o≤m∧m<o+6
  ·rw[if_pos h,if_pos (by omega),List.getElem?_map,List.getElem?_eq_getElem (by omega),List.getD_eq_getElem?_getD,show m % 6=m-o by omega,List.getElem?_eq_getElem (by omega)]
   rfl
  ·rw[if_neg h,if_neg (by omega),List.getElem?_map,rT f n m hm]
 ·rw[if_neg (by omega),List.getElem?_map,List.getElem?_eq_none (by rw[bC];omega),List.getElem?_eq_none (by rw[bC];omega)]
section
variable {P:Program} {G:Cls} {ro:Option Nat} {ops:Array Oper} {N:Nat} {ds:List Deferred} {fs:List Nat} {Z:Fr→Cls→Prop} {F:Fr} {C:Cls} {rest:List Oper}
variable {d:Nat} {ty:TypeId} {pos:String} {af:Array Edge} {gd:Option (Nat×Bool)}
theorem rR{t e:TypeId}{n:Nat}{l:List (BitVec 64)}{z:Nat→List (BitVec 64)}(hl:l.length=6)(hn:0<n)(hu:P.underlying t=some (.array n e))(hs: ∀w,(sizeOf e).run P w=.ok 6 w)
 (hz: ∀w,(zeroValue t).run P w=.ok (.agg ((FL z n).map U64).toArray) w) (w:World):(Instr.build t #[(0,.agg (l.map U64).toArray)]).run P w=.ok (.agg ((FL (fun i=>if i=0 then l else z i) n).map U64).toArray) w:=by
 have h:=cV (place:=fun i=>some (i*6,6)) (i:=0) (off:=0) (vs:=l.map U64) (c:=(FL z n).map U64) rfl (by rw[List.length_map,hl]) (by rw[List.length_map,List.length_map,bC,hl];omega) []
 rw[xw z n 0 l hn hl 0 rfl]at h
 simp only[Instr.build,hz,run_underlying hu,hs,Sem.run_bind,Result.andThen_ok]
 rw[show (Value.agg (List.map U64 (FL z n)).toArray).cells=(List.map U64 (FL z n)).toArray from rfl,h]
 rfl
theorem u2{t e:TypeId}{n:Nat}{x:Operand}{l:List (BitVec 64)}{z:Nat→List (BitVec 64)}(hx:evF F x=some (.agg (l.map U64).toArray))(hl:l.length=6)(hn:0<n)(hu:P.underlying t=some (.array n e))(hs: ∀w,(sizeOf e).run P w=.ok 6 w)
 (hz: ∀w,(zeroValue t).run P w=.ok (.agg ((FL z n).map U64).toArray) w) (hw:aB ops F ⟨some d,.build t #[(0,x)],ty,pos,af,gd⟩=some true) (hd:Nat.blt d N=true)
 (h:Lx P G ro ops N ds (EE fs) Z rest ((d,.agg ((FL (fun i=>if i=0 then l else z i) n).map U64).toArray)::F) C):Lx P G ro ops N ds (EE fs) Z (⟨some d,.build t #[(0,x)],ty,pos,af,gd⟩::rest) F C:=
 df (ps:=[(0,x)]) (vs:=[.agg (l.map U64).toArray]) (by simp[evL,hx]) (fun w=>rR hl hn hu hs hz w) hw hd h
end
end
section
open Go.RowKit
section
variable {P:Program} {G:Cls} {ro:Option Nat} {ops:Array Oper} {N:Nat} {ds:List Deferred} {E:Oper→Bool} {Q:Exit→Act→World→Prop}
theorem eG{Z:Fr→Cls→Prop}(hZ: ∀F C,cj G C→Z F C→m8 N ds Q .normal F C)(l2:List Oper): ∀(l:List Oper) (F:Fr) (C:Cls),cj G C→
 Lx P G ro ops N ds E (fun F' C'=> ∃E',Lx P G ro ops N ds E' Z l2 F' C') l F C→∀a w,Has N ds F a→C w→wpListIn (FW ro) 0 P ops Q (l++l2) a w
 |[],F,C,hS,h,a,w,ha,hw=>by
  obtain ⟨E',h⟩:=h
  exact cQ hZ l2 F C hS h a w ha hw
 |o::rest,F,C,hS,h,a,w,ha,hw=>by
  rw[List.cons_append]
  unfold wpListIn
  unfold Lx at h
  cases hE:E o with
  |true=>
   rw[hE]at h
   obtain ⟨hwant,hwp⟩:=h a w ha hw
   rw[if_pos hwant]
   refine Oper.wpIn_exits (Oper.wpIn_mono (fun a' w' hk=> ?_) hwp)
   obtain ⟨F',C',ha',hS',hw',_,hk⟩:=hk
   exact eG hZ l2 rest F' C' hS' hk a' w' ha' hw'
  |false=>
   rw[hE]at h
   obtain ⟨v,⟨hd,hy⟩,hk⟩:=h
   have hcls:eD G o C w:=lz hS hw
   rcases hy a ha with ⟨hwant,hy⟩|⟨hwant,rfl⟩
   ·rw[if_pos hwant]
    exact hy.wpIn hcls fun w' hg=>eG hZ l2 rest _ C hS hk _ w' (ha.putF hd v) (hS.1 _ _ hw hg)
   ·rw[if_neg (by simp[hwant])]
    exact ⟨fun f _=>cy ro f,eG hZ l2 rest _ C hS hk _ w (ha.putF hd _) hw⟩
end
section
variable {P:Program} {G:Cls} {ro:Option Nat} {ops:Array Oper} {N:Nat} {ds:List Deferred} {fs:List Nat} {Z:Fr→Cls→Prop} {F:Fr} {C:Cls} {rest:List Oper}
variable {d:Nat} {ty:TypeId} {pos:String} {af:Array Edge} {gd:Option (Nat×Bool)}
theorem Cy{t e:TypeId}{len sz:Nat}(o':Nat){x ix:Operand}{b o:Nat}{i:BitVec 8}(hx:evF F x=some (.pointer (some ⟨b,o,none⟩)))(hi:evF F ix=some (U8 i))(hu:P.underlying t=some (.array len e))
 (hs: ∀w,(sizeOf e).run P w=.ok sz w) (hb:i.toNat<len) (ho:o+i.toNat*sz=o') (hw:aB ops F ⟨some d,.indexAddr t x ix,ty,pos,af,gd⟩=some true) (hd:Nat.blt d N=true)
 (h:Lx P G ro ops N ds (EE fs) Z rest ((d,.pointer (some ⟨b,o',none⟩))::F) C):Lx P G ro ops N ds (EE fs) Z (⟨some d,.indexAddr t x ix,ty,pos,af,gd⟩::rest) F C:=
 bE (v:=.pointer (some ⟨b,o',none⟩)) rfl hw hd (fun _ h=>by cases h) (fun a w ha _=>by
  have h1: ¬len≤i.toNat:=by omega
  simp only[execOp,ha.ev hx,ha.ev hi,U8]
  simp[Instr.indexAt,asIntOf,run_underlying hu,Instr.sureAddr,h1,hs,Addr.add_mid,ho]) h
end
section
variable {P:Program} {G:Cls} {ro:Option Nat} {N:Nat} {ds:List Deferred} {F:Fr} {C:Cls} {K:KK}
theorem xA{id:Nat}{l:List Oper}{E:Oper→Bool}(n:Nat)(h:Lx P G ro l.toArray N ds E (fun F' C'=> ∃E',Lx P G ro l.toArray N ds E' (K .normal ds) (l.drop n) F' C') (l.take n) F C):X P G ro N ds (.region id l.toArray false) F C K:=fun hS a w ha hw=>by
 have key:=eG (Q:=fun e a' w'=> ∃ds' F' C',cj G C'∧Has N ds' F' a'∧C' w'∧K e ds' F' C') (fun F' C' hS' hk a' w' ha' hw'=>⟨ds,F',C',hS',ha',hw',hk⟩) (l.drop n) (l.take n) F C hS h a w ha hw
 rw[List.take_append_drop]at key
 exact wpIn_region_lit key
theorem vr{id:Nat}{l:List Oper}{E:Oper→Bool}{y:Code}(n:Nat)(h:Lx P G ro l.toArray N ds E (fun F' C'=> ∃E',Lx P G ro l.toArray N ds E' (fun F' C'=>X P G ro N ds y F' C' K) (l.drop n) F' C') (l.take n) F C):X P G ro N ds (.seq (.region id l.toArray false) y) F C K:=ae (xA n h)
end
end
section
open Go.RowKit
section
variable {P:Program} {G:Cls} {ro:Option Nat} {N:Nat} {ds:List Deferred} {l:List Oper} {E:Oper→Bool} {K:KK} {F:Fr} {C:Cls}
def jy(l:List Oper)(σ:List Nat):Array Bool:=dj σ (Array.replicate l.toArray.size false)
def TR(P:Program)(G:Cls)(ro:Option Nat)(N:Nat)(ds:List Deferred)(l:List Oper)(E:Oper→Bool)(K:KK)(m:Nat)(σ:List Nat)(F:Fr)(C:Cls):Prop:=
 Region.noSelect l.toArray=true→bS l.toArray=true→Closed .any l.toArray (jy l σ)→cj G C→∀a,Has N ds F a→
  gz P G ro .any l.toArray (fun e a' w'=> ∃ds' F' C',cj G C'∧Has N ds' F' a'∧C' w'∧K e ds' F' C') E m (jy l σ) a C
theorem oM(σ τ:List Nat):jy l (σ++τ)=dj τ (jy l σ):=by unfold jy dj;rw[List.foldl_append]
theorem aO{m:Nat}{σ:List Nat}(τ:List Nat)(hok:kl .any l.toArray E τ (jy l σ)=true)(h:Lx P G ro l.toArray N ds E (fun F' C'=>TR P G ro N ds l E K m (σ++τ) F' C') (dJ τ l) F C):
 TR P G ro N ds l E K (τ.length+m) σ F C:=fun hsel hdef hc hS a ha=>by
 rw[←fg]at h
 refine jj (Z:=fun F' C'=>TR P G ro N ds l E K m (σ++τ) F' C') hsel hdef τ _ F C a hc hok ha hS (fun F' C' a' hc' ha' hS' hZ=> ?_) h
 have hZ:TR P G ro N ds l E K m (σ++τ) F' C':=hZ
 rw[←oM]at hc'⊢
 exact hZ hsel hdef hc' hS' a' ha'
theorem gj{m:Nat}{σ:List Nat}(R:List Nat)(hR:Region.ready .any l.toArray (jy l σ)=R)(hE:R.all (fun i=>(l.toArray[i]?).any E)=true)(hne:R≠[])
 (h: ∀i∈R,Lx P G ro l.toArray N ds E (fun F' C'=>TR P G ro N ds l E K m (σ++[i]) F' C') (dJ [i] l) F C):TR P G ro N ds l E K (m+1) σ F C:=fun hsel hdef hc hS a ha=>by
 refine ⟨fun h0=>absurd (hR.symm.trans h0) hne,fun i hi oi hoi=> ?_⟩
 have hiR:i∈R:=by rw[←hR];exact hi
 have hEi:E oi=true:=by have:=List.all_eq_true.1 hE i hiR;rw[hoi]at this;exact this
 have hx:=h i hiR
 rw[←fg]at hx
 have hl:[i].filterMap (l.toArray[·]?)=[oi]:=by simp only[List.filterMap_cons,hoi,List.filterMap_nil]
 rw[hl]at hx
 unfold Lx at hx
 rw[hEi]at hx⊢
 intro w hw
 obtain ⟨hwant,hwp⟩:=hx a w ha hw
 refine ⟨hwant,Oper.wpIn_mono (fun a' w' hk=> ?_) hwp⟩
 obtain ⟨F',C',ha',hS',hw',hgr,hk⟩:=hk
 refine ⟨C',hS',hw',hgr, ?_⟩
 have hk:TR P G ro N ds l E K m (σ++[i]) F' C':=hk
 have hc':=hc.set hi
 have e:jy l (σ++[i])=(jy l σ).setIfInBounds i true:=oM σ [i]
 rw[←e]at hc'⊢
 exact hk hsel hdef hc' hS' a' ha'
theorem da{σ:List Nat}(hR:Region.ready .any l.toArray (jy l σ)=[])(h:K .normal ds F C):TR P G ro N ds l E K 0 σ F C:=fun _ _ _ hS _ ha=>⟨hR,fun _ hw=>⟨ds,F,C,hS,ha,hw,h⟩⟩
theorem qT{id:Nat}(E:Oper→Bool)(hm:P.follows .mixedOrders=true)(hsel:Region.noSelect l.toArray=true)(hdef:bS l.toArray=true)(h:TR P G ro N ds l E K l.length [] F C):X P G ro N ds (.region id l.toArray true) F C K:=fun hS a w ha hw=>by
 refine wpIn_region_any hm ?_
 have hc:Closed .any l.toArray (jy l []):=fun j i _ hj=>by
  rcases Nat.lt_or_ge j l.toArray.size with h'|h'
  ·simp at h';simp[jy,dj,h']at hj
  ·simp at h';simp[jy,dj,h']at hj
 exact ch _ _ _ C _ hS (hS.1 w _ hw ((Below.refl _ w).drew)) (h hsel hdef hc hS a ha)
theorem nC{id:Nat}{y:Code}(E:Oper→Bool)(hm:P.follows .mixedOrders=true)(hsel:Region.noSelect l.toArray=true)(hdef:bS l.toArray=true)(h:TR P G ro N ds l E (mm (fun ds' F' C'=>X P G ro N ds' y F' C' K) K) l.length [] F C):X P G ro N ds (.seq (.region id l.toArray true) y) F C K:=
 ae (qT E hm hsel hdef h)
end
section
variable {P:Program} {G:Cls} {ro:Option Nat} {ops:Array Oper} {N:Nat} {ds:List Deferred} {fs:List Nat} {Z:Fr→Cls→Prop} {F:Fr} {rest:List Oper}
variable {d:Nat} {ty:TypeId} {pos:String} {af:Array Edge} {gd:Option (Nat×Bool)}
variable {B:Bs} {L:Hl}
theorem bf(n:Nat){t:TypeId}{l:List Value}(hG:BOk G B)(hz: ∀w,(zeroValue t).run P w=.ok (.agg l.toArray) w)(hn:lkB L n=none)(hw:aB ops F ⟨some d,.alloc t,ty,pos,af,gd⟩=some true)(hd:Nat.blt d N=true)
 (h: ∀b,Lx P G ro ops N ds (EE fs) Z rest ((d,.pointer (some ⟨b,0,none⟩))::F) (Hp B ((n,b,l,t)::L))):Lx P G ro ops N ds (EE fs) Z (⟨some d,.alloc t,ty,pos,af,gd⟩::rest) F (Hp B L):=by
 unfold Lx
 rw[show EE fs ⟨some d,.alloc t,ty,pos,af,gd⟩=true from rfl]
 intro a w ha hC
 refine ⟨ha.want hw,fun f _=>cy ro f, ?_⟩
 rw[show (FW ro).round=ro from rfl,Oper.semAt_eq _ _ _ (fun _ h=>by cases h)]
 have e:(execOp a.eval ⟨some d,.alloc t,ty,pos,af,gd⟩).run P w=.ok (.value (.pointer (some ⟨w.heap.size,0,none⟩))) (w.alloc (.cells l.toArray t)):=by
  simp only[execOp,Instr.alloc,Sem.run_bind,hz,Result.andThen_ok]
  rfl
 rw[e]
 exact ⟨_,Hp B ((n,w.heap.size,l,t)::L),ha.putF (d:=some d) hd _,ay hG,hC.alloc hG.r n l t,fun _=>bx hG.r hn,h w.heap.size⟩
end
end
section
open Go.RowKit
section
variable {P:Program} {G:Cls} {ro:Option Nat} {ops:Array Oper} {N:Nat} {ds:List Deferred} {fs:List Nat} {Z:Fr→Cls→Prop} {F:Fr} {C:Cls} {rest:List Oper}
variable {d:Nat} {ty:TypeId} {pos:String} {af:Array Edge} {gd:Option (Nat×Bool)}
variable {B:Bs} {L:Hl}
theorem Ci(n:Nat){t e:TypeId}{x y:Operand}{m:Nat}{i:TypeInfo}{z:Value}{c:List Value}(hB:BOk G B)(hx:evF F x=some (I (m:Int)))(hy:evF F y=some (I (m:Int)))(hu:P.underlying t=some (.slice e))(hi:P.info? e=some i)(hz:i.zero=some z)
 (hm:m*i.size≤16777216∧i.bytes*m≤281474976710656∧m≤1000000) (hc:(madeCells z.cells (m*i.size)).toList=c) (hw:aB ops F ⟨some d,.makeSlice t x y,ty,pos,af,gd⟩=some true) (hd:Nat.blt d N=true)
 (h: ∀b,Lx P G ro ops N ds (EE fs) Z rest ((d,.slice (some ⟨b,0,none⟩) m m)::F) (Hp B ((n,b,c,e)::L))):Lx P G ro ops N ds (EE fs) Z (⟨some d,.makeSlice t x y,ty,pos,af,gd⟩::rest) F (Hp B L):=
 di rfl hw hd (fun _ h=>by cases h) fun a w ha hC=>by
  have hr:=run_makeSlice (P:=P) (w:=w) t e i z hu hi hz .i64 .i64 (m:Int) (m:Int) (by omega) (Int.le_refl _) (by rw[Int.toNat_natCast];exact hm.1) (by have:=Int.ofNat_le.2 hm.2.1;rw[Int.natCast_mul]at this;exact this) (by omega)
  simp only[Int.toNat_natCast]at hr
  refine ⟨.slice (some ⟨w.heap.size,0,none⟩) m m,w.alloc (.cells c.toArray e),_,.inl ?_,ay hB,hC.alloc hB.r n c e,h w.heap.size⟩
  subst hc
  simp only[execOp,ha.ev hx,ha.ev hy,I,Sem.run_bind,hr,Result.andThen_ok]
  simp
end
end
section
open Go.RowKit
section
variable {P:Program} {G:Cls} {ro:Option Nat} {md:Region.Mode} {ops:Array Oper} {N:Nat} {ds:List Deferred} {E:Oper→Bool} {Q:Exit→Act→World→Prop}
end
section
variable {P:Program} {G:Cls} {ro:Option Nat} {N:Nat} {ds:List Deferred} {l:List Oper} {E:Oper→Bool} {K:KK} {F:Fr} {C:Cls}
theorem Pure.sub{G':Cls}{f:FuncId}{vs:List Value}{v:Value}(h:Pure P G f vs v)(hle: ∀w,G' w→G w):Pure P G' f vs v:=fun w hw=>h w (hle w hw)
end
end
section
open Go.RowKit
section
variable {P:Program} {G:Cls} {ro:Option Nat} {ops:Array Oper} {N:Nat} {ds:List Deferred} {fs:List Nat} {Z:Fr→Cls→Prop} {F:Fr} {C:Cls} {rest:List Oper}
variable {d:Nat} {ty:TypeId} {pos:String} {af:Array Edge} {gd:Option (Nat×Bool)}
end
end
section
open Go.RowKit
section
variable {P:Program}
/-! ### Compared -/
def EqF(P:Program)(t:TypeId)(n d0:Nat):Prop:= ∀xs ys:List (BitVec 64),xs.length=n→ys.length=n→∀(d:Nat) (w:World),(Op.equalIn (d+d0) t (.agg (xs.map U64).toArray) (.agg (ys.map U64).toArray)).run P w=.ok (decide (xs=ys)) w
theorem cb{t e:TypeId}{n:Nat}(hu:P.underlying t=some (.array n e))(he:P.underlying e=some (.int .u64))(hs: ∀w,(sizeOf e).run P w=.ok 1 w)(hag: ∀w,(isAgg e).run P w=.ok false w):EqF P t n 2:=
 fun xs ys hl hl' d w=>Fo hu he hs hag xs ys hl hl' d w
theorem ep{t:TypeId}{m o:Nat}(hag: ∀w,(isAgg t).run P w=.ok true w)(hs: ∀w,(sizeOf t).run P w=.ok m w)(xs:List (BitVec 64))(w:World):(part t (xs.map U64).toArray o).run P w=.ok (.agg (((xs.drop o).take m).map U64).toArray) w:=by
 simp only[part,Sem.run_bind,hag,hs,Result.andThen_ok,if_true,Sem.run_pure]
 congr 2
 simp[List.extract_toArray,List.map_take,List.map_drop]
theorem B7{xs ys:List (BitVec 64)}{m n:Nat}(hx:xs.length=m+n)(hy:ys.length=m+n):xs=ys↔((xs.drop 0).take m=(ys.drop 0).take m∧(xs.drop m).take n=(ys.drop m).take n):=by
 constructor
 ·intro h;rw[h];exact ⟨rfl,rfl⟩
 ·rintro ⟨h1,h2⟩
  rw[List.drop_zero,List.drop_zero]at h1
  rw[List.take_of_length_le (by rw[List.length_drop];omega),List.take_of_length_le (by rw[List.length_drop];omega)]at h2
  rw[←List.take_append_drop m xs,←List.take_append_drop m ys,h1,h2]
theorem cD{t:TypeId}{f:Field}{n d0:Nat}(hu:P.underlying t=some (.struct #[f]))(h0:f.offset=0)(hn:f.name≠ "_")(hsi:P.stoodInHeld t=false)(hag: ∀w,(isAgg f.type).run P w=.ok true w)(hs: ∀w,(sizeOf f.type).run P w=.ok n w)(he:EqF P f.type n d0):EqF P t n (d0+1):=by
 intro xs ys hx hy d w
 rw[show d+(d0+1)=(d+d0)+1 from rfl,Op.equalIn]
 simp only[Sem.run_bind,run_underlying hu,Result.andThen_ok]
 have p1:=ep (o:=0) hag hs xs w
 have p2:=ep (o:=0) hag hs ys w
 rw[List.drop_zero,List.take_of_length_le (by omega)]at p1 p2
 have e:=he xs ys hx hy d w
 simp[hsi,hn,h0,p1,p2,e]
 by_cases h:xs=ys<;>simp[h]
theorem fr{t:TypeId}{f g:Field}{m n d0:Nat}(hu:P.underlying t=some (.struct #[f,g]))(h0:f.offset=0)(h1:g.offset=m)(hn:f.name≠ "_")(hn':g.name≠ "_")(hsi:P.stoodInHeld t=false)
 (hag: ∀w,(isAgg f.type).run P w=.ok true w) (hs: ∀w,(sizeOf f.type).run P w=.ok m w) (he:EqF P f.type m d0) (hag': ∀w,(isAgg g.type).run P w=.ok true w) (hs': ∀w,(sizeOf g.type).run P w=.ok n w) (he':EqF P g.type n d0):EqF P t (m+n) (d0+1):=by
 intro xs ys hx hy d w
 rw[show d+(d0+1)=(d+d0)+1 from rfl,Op.equalIn]
 simp only[Sem.run_bind,run_underlying hu,Result.andThen_ok]
 have p1:=ep (o:=0) hag hs xs w
 have p2:=ep (o:=0) hag hs ys w
 have p3:=ep (o:=m) hag' hs' xs w
 have p4:=ep (o:=m) hag' hs' ys w
 have e1:=he ((xs.drop 0).take m) ((ys.drop 0).take m) (by rw[List.drop_zero,List.length_take];omega) (by rw[List.drop_zero,List.length_take];omega) d w
 have e2:=he' ((xs.drop m).take n) ((ys.drop m).take n) (by rw[List.length_take,List.length_drop];omega) (by rw[List.length_take,List.length_drop];omega) d w
 have i:=B7 hx hy
 generalize (xs.drop 0).take m=a1 at*
 generalize (ys.drop 0).take m=a2 at*
 generalize (xs.drop m).take n=b1 at*
 generalize (ys.drop m).take n=b2 at*
 simp[hsi,hn,hn',h0,h1,p1,p2,p3,p4,e1,e2]
 by_cases ha:a1=a2
 ·by_cases hb:b1=b2
  ·simp[ha,hb,i.2 ⟨ha,hb⟩]
  ·simp[ha,hb,show¬xs=ys from fun h=>hb (i.1 h).2]
 ·simp[ha,show¬xs=ys from fun h=>ha (i.1 h).1]
theorem A2{t:TypeId}{n d0:Nat}(he:EqF P t n d0)(hd:d0≤100)(xs ys:List (BitVec 64))(hl:xs.length=n)(hl':ys.length=n)(w:World):(binOp .eql t (.agg (xs.map U64).toArray) (.agg (ys.map U64).toArray)).run P w=.ok (.bool (decide (xs=ys))) w:=by
 rw[run_eql_struct,show (10000:Nat)=(10000-d0)+d0 by omega,he xs ys hl hl' (10000-d0) w];rfl
theorem AK{t:TypeId}{n d0:Nat}(he:EqF P t n d0)(hd:d0≤100)(xs ys:List (BitVec 64))(hl:xs.length=n)(hl':ys.length=n)(w:World):(binOp .neq t (.agg (xs.map U64).toArray) (.agg (ys.map U64).toArray)).run P w=.ok (.bool (!decide (xs=ys))) w:=by
 rw[run_neq_struct,show (10000:Nat)=(10000-d0)+d0 by omega,he xs ys hl hl' (10000-d0) w];rfl
/-! ### Read -/
theorem yy{a b:List (BitVec 64)}: ∀j v,(a.map U64)[j]? =some v→((a++b).map U64)[0+j]? =some v:=fun j v h=>by
 have hj:j<(a.map U64).length:=by
  rcases Nat.lt_or_ge j (a.map U64).length with h'|h'
  ·exact h'
  ·rw[List.getElem?_eq_none h']at h;cases h
 rw[Nat.zero_add,List.map_append,List.getElem?_append_left hj];exact h
theorem wp{a b:List (BitVec 64)}{m:Nat}(hm:a.length=m): ∀j v,(b.map U64)[j]? =some v→((a++b).map U64)[m+j]? =some v:=fun j v h=>by
 rw[List.map_append,List.getElem?_append_right (by rw[List.length_map];omega),List.length_map,hm,Nat.add_sub_cancel_left];exact h
theorem xj{a b c:List (BitVec 64)}(h:c.length=a.length):lay 0 (c.map U64) ((a++b).map U64)=(c++b).map U64:=by
 apply List.ext_getElem?
 intro m
 rw[fA _ _ _ _ (by simp;omega)]
 simp only[List.map_append,List.getElem?_append,List.length_map,Nat.zero_le,true_and,Nat.zero_add,Nat.sub_zero,h]
 by_cases hm:m<a.length
 ·simp[hm]
 ·simp[hm]
theorem y2{a b c:List (BitVec 64)}{m:Nat}(hm:a.length=m)(h:c.length=b.length):lay m (c.map U64) ((a++b).map U64)=(a++c).map U64:=by
 apply List.ext_getElem?
 intro k
 rw[fA _ _ _ _ (by simp;omega)]
 simp only[List.map_append,List.getElem?_append,List.length_map,h,hm]
 by_cases hk:k<m
 ·simp[hk,show¬m≤k by omega]
 ·by_cases hk2:k<m+b.length
  ·simp[hk,hk2,show m≤k by omega]
  ·rw[if_neg (by omega),if_neg hk,if_neg hk,List.getElem?_eq_none (by simp;omega),List.getElem?_eq_none (by simp;omega)]
/-! ### Built -/
theorem eZ{t:TypeId}{fields:Array Field}{ps:Array (Nat×Nat)}{c out:List Value}(hz: ∀w,(zeroValue t).run P w=.ok (.agg c.toArray) w)(hu:P.underlying t=some (.struct fields))
 (hm: ∀w,(Array.mapM (fun f=>Prod.mk f.offset<$>sizeOf f.type) fields:Sem _).run P w=.ok ps w) (parts:List (Nat×Value)) (hf:Instr.fill (fun i=>ps[i]?) c.toArray parts=some out.toArray) (w:World):
 (Instr.build t parts.toArray).run P w=.ok (.agg out.toArray) w:=by
 have hm':(Array.mapM (fun f=>do let x←sizeOf f.type;pure (f.offset,x)) fields:Sem _).run P w=.ok ps w:=hm w
 simp only[Instr.build,hz,run_underlying hu,Sem.run_bind,Result.andThen_ok]
 rw[hm',Result.andThen_ok]
 rw[show (Value.agg c.toArray).cells=c.toArray from rfl,hf]
 rfl
theorem iP{f g:Field}{m n:Nat}(h0:f.offset=0)(h1:g.offset=m)(hs: ∀w,(sizeOf f.type).run P w=.ok m w)(hs': ∀w,(sizeOf g.type).run P w=.ok n w)(w:World):
 (Array.mapM (fun f=>Prod.mk f.offset<$>sizeOf f.type) #[f,g]:Sem _).run P w=.ok #[(0,m),(m,n)] w:=by
 simp[hs,hs',h0,h1]
section
variable {t:TypeId} {f g:Field} {m n:Nat} {za zb:List (BitVec 64)}
theorem BT(h0:f.offset=0)(h1:g.offset=m)(hs: ∀w,(sizeOf f.type).run P w=.ok m w)(hs': ∀w,(sizeOf g.type).run P w=.ok n w)(hu:P.underlying t=some (.struct #[f,g]))
 (hz: ∀w,(zeroValue t).run P w=.ok (.agg ((za++zb).map U64).toArray) w) (hza:za.length=m) (hzb:zb.length=n) {a b:List (BitVec 64)} (ha:a.length=m) (hb:b.length=n) (w:World):
 (Instr.build t #[(0,.agg (a.map U64).toArray),(1,.agg (b.map U64).toArray)]).run P w=.ok (.agg ((a++b).map U64).toArray) w:=
 eZ (c:=(za++zb).map U64) hz hu (iP h0 h1 hs hs') [(0,.agg (a.map U64).toArray),(1,.agg (b.map U64).toArray)] (by
  rw[cV (off:=0) (size:=m) (vs:=a.map U64) rfl (by simp[ha]) (by simp;omega),xj (by omega),cV (off:=m) (size:=n) (vs:=b.map U64) rfl (by simp[hb]) (by simp;omega),y2 ha (by omega)]
  rfl) w
theorem zA(h0:f.offset=0)(h1:g.offset=m)(hs: ∀w,(sizeOf f.type).run P w=.ok m w)(hs': ∀w,(sizeOf g.type).run P w=.ok n w)(hu:P.underlying t=some (.struct #[f,g]))
 (hz: ∀w,(zeroValue t).run P w=.ok (.agg ((za++zb).map U64).toArray) w) (hza:za.length=m) (hzb:zb.length=n) {a:List (BitVec 64)} (ha:a.length=m) (w:World):
 (Instr.build t #[(0,.agg (a.map U64).toArray)]).run P w=.ok (.agg ((a++zb).map U64).toArray) w:=
 eZ (c:=(za++zb).map U64) hz hu (iP h0 h1 hs hs') [(0,.agg (a.map U64).toArray)] (by
  rw[cV (off:=0) (size:=m) (vs:=a.map U64) rfl (by simp[ha]) (by simp;omega),xj (by omega)]
  rfl) w
theorem w6(h0:f.offset=0)(h1:g.offset=m)(hs: ∀w,(sizeOf f.type).run P w=.ok m w)(hs': ∀w,(sizeOf g.type).run P w=.ok n w)(hu:P.underlying t=some (.struct #[f,g]))
 (hz: ∀w,(zeroValue t).run P w=.ok (.agg ((za++zb).map U64).toArray) w) (hza:za.length=m) (hzb:zb.length=n) {b:List (BitVec 64)} (hb:b.length=n) (w:World):
 (Instr.build t #[(1,.agg (b.map U64).toArray)]).run P w=.ok (.agg ((za++b).map U64).toArray) w:=
 eZ (c:=(za++zb).map U64) hz hu (iP h0 h1 hs hs') [(1,.agg (b.map U64).toArray)] (by
  rw[cV (off:=m) (size:=n) (vs:=b.map U64) rfl (by simp[hb]) (by simp;omega),y2 hza (by omega)]
  rfl) w
variable {G:Cls} {ro:Option Nat} {ops:Array Oper} {N:Nat} {ds:List Deferred} {fs:List Nat} {Z:Fr→Cls→Prop} {rest:List Oper} {F:Fr} {C:Cls} {d:Nat} {ty:TypeId} {pos:String} {af:Array Edge} {gd:Option (Nat×Bool)}
structure Two(P:Program)(t:TypeId)(f g:Field)(m n:Nat)(za zb:List (BitVec 64)):Prop where
 u:P.underlying t=some (.struct #[f,g])
 h0:f.offset=0
 h1:g.offset=m
 s0: ∀w,(sizeOf f.type).run P w=.ok m w
 s1: ∀w,(sizeOf g.type).run P w=.ok n w
 z: ∀w,(zeroValue t).run P w=.ok (.agg ((za++zb).map U64).toArray) w
 la:za.length=m
 lb:zb.length=n
theorem bP(q:Two P t f g m n za zb){x y:Operand}{a b:List (BitVec 64)}(hx:evF F x=some (.agg (a.map U64).toArray))(hy:evF F y=some (.agg (b.map U64).toArray))(ha:a.length=m)(hb:b.length=n)
 (hw:aB ops F ⟨some d,.build t #[(0,x),(1,y)],ty,pos,af,gd⟩=some true) (hd:Nat.blt d N=true)
 (h:Lx P G ro ops N ds (EE fs) Z rest ((d,.agg ((a++b).map U64).toArray)::F) C):Lx P G ro ops N ds (EE fs) Z (⟨some d,.build t #[(0,x),(1,y)],ty,pos,af,gd⟩::rest) F C:=
 df (ps:=[(0,x),(1,y)]) (vs:=[.agg (a.map U64).toArray,.agg (b.map U64).toArray]) (by simp[evL,hx,hy]) (fun w=>BT q.h0 q.h1 q.s0 q.s1 q.u q.z q.la q.lb ha hb w) hw hd h
theorem un(q:Two P t f g m n za zb){x:Operand}{a:List (BitVec 64)}(hx:evF F x=some (.agg (a.map U64).toArray))(ha:a.length=m)
 (hw:aB ops F ⟨some d,.build t #[(0,x)],ty,pos,af,gd⟩=some true) (hd:Nat.blt d N=true)
 (h:Lx P G ro ops N ds (EE fs) Z rest ((d,.agg ((a++zb).map U64).toArray)::F) C):Lx P G ro ops N ds (EE fs) Z (⟨some d,.build t #[(0,x)],ty,pos,af,gd⟩::rest) F C:=
 df (ps:=[(0,x)]) (vs:=[.agg (a.map U64).toArray]) (by simp[evL,hx]) (fun w=>zA q.h0 q.h1 q.s0 q.s1 q.u q.z q.la q.lb ha w) hw hd h
theorem i2(q:Two P t f g m n za zb){y:Operand}{b:List (BitVec 64)}(hy:evF F y=some (.agg (b.map U64).toArray))(hb:b.length=n)
 (hw:aB ops F ⟨some d,.build t #[(1,y)],ty,pos,af,gd⟩=some true) (hd:Nat.blt d N=true)
 (h:Lx P G ro ops N ds (EE fs) Z rest ((d,.agg ((za++b).map U64).toArray)::F) C):Lx P G ro ops N ds (EE fs) Z (⟨some d,.build t #[(1,y)],ty,pos,af,gd⟩::rest) F C:=
 df (ps:=[(1,y)]) (vs:=[.agg (b.map U64).toArray]) (by simp[evL,hy]) (fun w=>w6 q.h0 q.h1 q.s0 q.s1 q.u q.z q.la q.lb hb w) hw hd h
theorem CD(q:Two P t f g m n za zb)(hw:aB ops F ⟨some d,.build t #[],ty,pos,af,gd⟩=some true)(hd:Nat.blt d N=true)
 (h:Lx P G ro ops N ds (EE fs) Z rest ((d,.agg ((za++zb).map U64).toArray)::F) C):Lx P G ro ops N ds (EE fs) Z (⟨some d,.build t #[],ty,pos,af,gd⟩::rest) F C:=
 dv q.z q.u (fun w=>⟨_,iP q.h0 q.h1 q.s0 q.s1 w⟩) hw hd h
end
end
end
section
open Go.RowKit
/-! ### Rows of twelve -/
def FM(f:Nat→List (BitVec 64))(n:Nat):List (BitVec 64):=(List.range (12*n)).map fun m=>(f (m / 12)).getD (m % 12) 0
theorem ce(f:Nat→List (BitVec 64))(n:Nat):(FM f n).length=12*n:=by rw[FM,List.length_map,List.length_range]
section
variable {P:Program} {G:Cls} {ro:Option Nat} {ops:Array Oper} {N:Nat} {ds:List Deferred} {fs:List Nat} {Z:Fr→Cls→Prop} {F:Fr} {C:Cls} {rest:List Oper}
variable {d:Nat} {ty:TypeId} {pos:String} {af:Array Edge} {gd:Option (Nat×Bool)}
end
end
section
open Go.RowKit
section
variable {P:Program} {G:Cls} {ro:Option Nat} {N:Nat} {ds:List Deferred} {F:Fr} {C:Cls} {K:KK} {B:Bs}
theorem vU{x y:Code}{ι:Type}(Fm:ι→Fr)(Lm:ι→Hl)(hG:BOk G B)
 (h1:X P G ro N ds x F C (mm (fun ds' F' C'=>ds'=ds∧∃j L',C'=Hp B L'∧ot F' (Fm j)∧mg L' (Lm j)) K))
 (h2: ∀j,X P G ro N ds y (Fm j) (Hp B (Lm j)) K):X P G ro N ds (.seq x y) F C K:=
 ae (h1.mono fun e ds' F' C' hk=>by
  cases e with
  |normal=>
   obtain ⟨rfl,j,L',rfl,a,b⟩:=hk
   exact Lz (Fm j) (Lm j) hG a b (h2 j)
  |_=>exact hk)
end
end
section
open Go.RowKit
abbrev Trow:=Nat×List Nat×List Nat
section
variable {l:List Oper} {E:Oper→Bool} {T:List Trow}
end
section
variable {P:Program} {G:Cls} {ro:Option Nat} {N:Nat} {ds:List Deferred} {F:Fr} {C:Cls} {K:KK}
end
end
section
open Go.RowKit
section
variable {P:Program}
/-! ### Read, written -/
theorem ld_m{a b c:List (BitVec 64)}{m:Nat}(hm:a.length=m): ∀j v,(b.map U64)[j]? =some v→((a++(b++c)).map U64)[m+j]? =some v:=fun j v h=>wp hm j v (by have:=yy (b:=c) j v h;rw[Nat.zero_add]at this;exact this)
theorem I7{a b c:List (BitVec 64)}{m n k:Nat}(hm:a.length=m)(hn:b.length=n)(hk:m+n=k): ∀j v,(c.map U64)[j]? =some v→((a++(b++c)).map U64)[k+j]? =some v:=fun j v h=>by
 rw[←hk,Nat.add_assoc]
 exact wp hm (n+j) v (wp hn j v h)
theorem J4{a b c d:List (BitVec 64)}{m:Nat}(hm:a.length=m)(h:d.length=b.length):lay m (d.map U64) ((a++(b++c)).map U64)=(a++(d++c)).map U64:=by
 apply List.ext_getElem?
 intro k
 rw[fA _ _ _ _ (by simp;omega)]
 simp only[List.map_append,List.getElem?_append,List.length_map,h,hm]
 by_cases hk:k<m
 ·simp[hk,show¬m≤k by omega]
 ·by_cases hk2:k<m+b.length
  ·simp[hk,hk2,show m≤k by omega,show k-m<b.length by omega]
  ·rw[if_neg (by omega),if_neg hk,if_neg hk,if_neg (by omega),if_neg (by omega)]
theorem HP{a b c d:List (BitVec 64)}{m n k:Nat}(hm:a.length=m)(hn:b.length=n)(hk:m+n=k)(h:d.length=c.length):lay k (d.map U64) ((a++(b++c)).map U64)=(a++(b++d)).map U64:=by
 have e:=y2 (a:=a++b) (b:=c) (c:=d) (m:=k) (by rw[List.length_append,hm,hn,hk]) h
 rw[List.append_assoc,List.append_assoc]at e
 exact e
/-! ### Built -/
theorem kV{f g h:Field}{m:Nat}(h0:f.offset=0)(h1:g.offset=m)(h2:h.offset=m+m)(hs: ∀w,(sizeOf f.type).run P w=.ok m w)(hs': ∀w,(sizeOf g.type).run P w=.ok m w)(hs'': ∀w,(sizeOf h.type).run P w=.ok m w)(w:World):
 (Array.mapM (fun f=>Prod.mk f.offset<$>sizeOf f.type) #[f,g,h]:Sem _).run P w=.ok #[(0,m),(m,m),(m+m,m)] w:=by
 simp[hs,hs',hs'',h0,h1,h2]
structure Three(P:Program)(t:TypeId)(f g h:Field)(m:Nat)(za zb zc:List (BitVec 64)):Prop where
 u:P.underlying t=some (.struct #[f,g,h])
 h0:f.offset=0
 h1:g.offset=m
 h2:h.offset=m+m
 s0: ∀w,(sizeOf f.type).run P w=.ok m w
 s1: ∀w,(sizeOf g.type).run P w=.ok m w
 s2: ∀w,(sizeOf h.type).run P w=.ok m w
 z: ∀w,(zeroValue t).run P w=.ok (.agg ((za++(zb++zc)).map U64).toArray) w
 la:za.length=m
 lb:zb.length=m
 lc:zc.length=m
section
variable {t:TypeId} {f g h:Field} {m:Nat} {za zb zc:List (BitVec 64)}
variable {G:Cls} {ro:Option Nat} {ops:Array Oper} {N:Nat} {ds:List Deferred} {fs:List Nat} {Z:Fr→Cls→Prop} {rest:List Oper} {F:Fr} {C:Cls} {d:Nat} {ty:TypeId} {pos:String} {af:Array Edge} {gd:Option (Nat×Bool)}
theorem ig(q:Three P t f g h m za zb zc)(hw:aB ops F ⟨some d,.build t #[],ty,pos,af,gd⟩=some true)(hd:Nat.blt d N=true)
 (k:Lx P G ro ops N ds (EE fs) Z rest ((d,.agg ((za++(zb++zc)).map U64).toArray)::F) C):Lx P G ro ops N ds (EE fs) Z (⟨some d,.build t #[],ty,pos,af,gd⟩::rest) F C:=
 dv q.z q.u (fun w=>⟨_,kV q.h0 q.h1 q.h2 q.s0 q.s1 q.s2 w⟩) hw hd k
theorem nL(q:Three P t f g h m za zb zc){a:List (BitVec 64)}(ha:a.length=m){b:List (BitVec 64)}(hb:b.length=m){c:List (BitVec 64)}(hc:c.length=m)(w:World):(Instr.build t [(0,.agg (a.map U64).toArray),(1,.agg (b.map U64).toArray),(2,.agg (c.map U64).toArray)].toArray).run P w=.ok (.agg ((a++(b++c)).map U64).toArray) w:=
 eZ (c:=(za++(zb++zc)).map U64) q.z q.u (kV q.h0 q.h1 q.h2 q.s0 q.s1 q.s2) [(0,.agg (a.map U64).toArray),(1,.agg (b.map U64).toArray),(2,.agg (c.map U64).toArray)] (by
  rw[cV (off:=0) (size:=m) (vs:=a.map U64) rfl (by simp[ha]) (by simp[q.la,q.lb,q.lc,ha];try omega),xj (by rw[q.la,ha]),cV (off:=m) (size:=m) (vs:=b.map U64) rfl (by simp[hb]) (by simp[ha,q.lb,q.lc,hb];try omega),J4 ha (by rw[q.lb,hb]),cV (off:=m+m) (size:=m) (vs:=c.map U64) rfl (by simp[hc]) (by simp[ha,hb,q.lc,hc];try omega),HP ha hb rfl (by rw[q.lc,hc])]
  rfl) w
theorem po(q:Three P t f g h m za zb zc){x0 x1 x2:Operand}{a b c:List (BitVec 64)}(hx0:evF F x0=some (.agg (a.map U64).toArray))(hx1:evF F x1=some (.agg (b.map U64).toArray))(hx2:evF F x2=some (.agg (c.map U64).toArray))(ha:a.length=m)(hb:b.length=m)(hc:c.length=m)
 (hw:aB ops F ⟨some d,.build t #[(0,x0),(1,x1),(2,x2)],ty,pos,af,gd⟩=some true) (hd:Nat.blt d N=true)
 (k:Lx P G ro ops N ds (EE fs) Z rest ((d,.agg ((a++(b++c)).map U64).toArray)::F) C):Lx P G ro ops N ds (EE fs) Z (⟨some d,.build t #[(0,x0),(1,x1),(2,x2)],ty,pos,af,gd⟩::rest) F C:=
 df (ps:=[(0,x0),(1,x1),(2,x2)]) (vs:=[.agg (a.map U64).toArray,.agg (b.map U64).toArray,.agg (c.map U64).toArray]) (by simp[evL,hx0,hx1,hx2]) (fun w=>nL q ha hb hc w) hw hd k
end
/-! ### Arrays of rows, compared -/
theorem Ak{xs ys:List (BitVec 64)}{n:Nat}(hn:0<n): ∀(k:Nat),xs.length=k*n→ys.length=k*n→((List.range' 0 k).all (fun i=>decide ((xs.drop (i*n)).take n=(ys.drop (i*n)).take n))=decide (xs=ys)):=by
 intro k hx hy
 by_cases h:xs=ys
 ·subst h;simp
 ·rw[decide_eq_false h]
  cases hb:(List.range' 0 k).all (fun i=>decide ((xs.drop (i*n)).take n=(ys.drop (i*n)).take n))with
  |false=>rfl
  |true=>
   exfalso
   apply h
   apply List.ext_getElem?
   intro j
   rcases Nat.lt_or_ge j (k*n)with hj|hj
   ·have hi:j / n<k:=Nat.div_lt_of_lt_mul (by rw[Nat.mul_comm];exact hj)
    have:=of_decide_eq_true (List.all_eq_true.1 hb (j / n) (by simp[List.mem_range'_1];exact hi))
    have e:=congrArg (fun l=>l[j % n]?) this
    have hm:=Nat.mod_lt j hn
    simp only[List.getElem?_take,hm,if_true,List.getElem?_drop]at e
    rw[Nat.mul_comm,Nat.div_add_mod]at e
    exact e
   ·rw[List.getElem?_eq_none (by omega),List.getElem?_eq_none (by omega)]
theorem pH{t e:TypeId}{k n d0:Nat}(hn:0<n)(hu:P.underlying t=some (.array k e))(hag: ∀w,(isAgg e).run P w=.ok true w)(hs: ∀w,(sizeOf e).run P w=.ok n w)(he:EqF P e n d0):EqF P t (k*n) (d0+1):=by
 intro xs ys hl hl' d w
 rw[show d+(d0+1)=(d+d0)+1 from rfl,Op.equalIn]
 simp only[Sem.run_bind,run_underlying hu,Result.andThen_ok,hs]
 rw[Std.Legacy.Range.forIn_eq_forIn_range']
 have key: ∀is:List Nat,(∀i∈is,i<k)→∀{β:Type} (f:Nat→β→Sem (ForInStep β)) (b b1:β),(∀i,i<k→(f i b).run P w=.ok (if decide ((xs.drop (i*n)).take n=(ys.drop (i*n)).take n)then .yield b else .done b1) w)→(forIn is b f).run P w=.ok (if is.all (fun i=>decide ((xs.drop (i*n)).take n=(ys.drop (i*n)).take n))then b else b1) w:=by
  intro is
  induction is with
  |nil=>intro _ β f b b1 _;simp
  |cons i r ih=>
   intro hi β f b b1 hf
   rw[List.forIn_cons,Sem.run_bind,hf i (hi i (by simp)),Result.andThen_ok,List.all_cons]
   cases hb:decide ((xs.drop (i*n)).take n=(ys.drop (i*n)).take n)with
   |true=>simpa using ih (fun j hj=>hi j (by simp[hj])) f b b1 hf
   |false=>simp
 rw[key _ (by intro i hi;simp at hi;omega) _ _ ⟨some false,()⟩ ?_]
 ·have:=Ak hn k hl hl'
  simp only[Std.Legacy.Range.size,Nat.sub_zero,Nat.add_sub_cancel,Nat.div_one]at*
  rw[this]
  cases decide (xs=ys)<;>simp
 ·intro i hi
  have hle:i*n+n≤k*n:=by have:=Nat.mul_le_mul_right n hi;rw[Nat.succ_mul]at this;exact this
  have p1:=ep (o:=i*n) hag hs xs w
  have p2:=ep (o:=i*n) hag hs ys w
  have e1:=he ((xs.drop (i*n)).take n) ((ys.drop (i*n)).take n) (by rw[List.length_take,List.length_drop];omega) (by rw[List.length_take,List.length_drop];omega) d w
  simp only[Sem.run_bind,p1,p2,e1,Result.andThen_ok]
  cases decide ((xs.drop (i*n)).take n=(ys.drop (i*n)).take n)<;>simp
end
end
section
open Go.RowKit
section
variable {P:Program} {G:Cls} {ro:Option Nat} {ops:Array Oper} {N:Nat} {ds:List Deferred} {fs:List Nat} {Z:Fr→Cls→Prop} {F:Fr} {C:Cls} {rest:List Oper}
variable {d:Nat} {ty:TypeId} {pos:String} {af:Array Edge} {gd:Option (Nat×Bool)} {B:Bs} {L:Hl}
end
end
section
open Go.RowKit
section
variable {P:Program} {G:Cls} {ro:Option Nat} {ops:Array Oper} {N:Nat} {ds:List Deferred} {fs:List Nat} {Z:Fr→Cls→Prop} {F:Fr} {C:Cls} {rest:List Oper}
variable {d:Nat} {ty:TypeId} {pos:String} {af:Array Edge} {gd:Option (Nat×Bool)}
end
section
variable {P:Program} {G:Cls} {N:Nat} {ds:List Deferred} {F:Fr} {B:Bs} {L:Hl} {K:KK}
end
end
section
open Go.RowKit
/-! ### Rows of any width -/
def RW(s:Nat)(f:Nat→List (BitVec 64))(n:Nat):List (BitVec 64):=(List.range (s*n)).map fun m=>(f (m / s)).getD (m % s) 0
section
variable {s:Nat}
theorem cF(f:Nat→List (BitVec 64))(n:Nat):(RW s f n).length=s*n:=by rw[RW,List.length_map,List.length_range]
theorem n4(f:Nat→List (BitVec 64))(n m:Nat)(h:m<s*n):(RW s f n)[m]? =some ((f (m / s)).getD (m % s) 0):=by
 rw[RW,List.getElem?_map,List.getElem?_range h];rfl
theorem Er{k n j:Nat}(hk:k<n)(hj:j<s):s*k+j<s*n:=by
 have h1:s*(k+1)≤s*n:=Nat.mul_le_mul_left s hk
 rw[Nat.mul_succ]at h1
 omega
theorem tJ{k j:Nat}(hj:j<s):(s*k+j) / s=k:=by
 rw[Nat.mul_add_div (by omega),Nat.div_eq_of_lt hj,Nat.add_zero]
theorem sE{k j:Nat}(hj:j<s):(s*k+j) % s=j:=by rw[Nat.mul_add_mod,Nat.mod_eq_of_lt hj]
theorem tp(f:Nat→List (BitVec 64))(n k:Nat)(hk:k<n)(hf:(f k).length=s)(o:Nat)(ho:o=s*k): ∀j v,((f k).map U64)[j]? =some v→((RW s f n).map U64)[o+j]? =some v:=fun j v hv=>by
 have hj:j<s:=by
  rcases Nat.lt_or_ge j s with h|h
  ·exact h
  ·rw[List.getElem?_eq_none (by rw[List.length_map,hf];exact h)]at hv;cases hv
 rw[List.getElem?_map]at hv⊢
 rw[ho,n4 f n (s*k+j) (Er hk hj),tJ hj,sE hj]
 rw[List.getElem?_eq_getElem (by omega)]at hv
 rw[←hv,List.getD_eq_getElem?_getD,List.getElem?_eq_getElem (by omega)]
 rfl
theorem iU{f g:Nat→List (BitVec 64)}{n:Nat}(h: ∀i,i<n→f i=g i):RW s f n=RW s g n:=by
 unfold RW
 refine List.map_congr_left fun m hm=> ?_
 rw[List.mem_range]at hm
 rw[h (m / s) (Nat.div_lt_of_lt_mul hm)]
theorem xI(f:Nat→List (BitVec 64))(n k:Nat)(g:List (BitVec 64))(hk:k<n)(hg:g.length=s)(o:Nat)(ho:o=s*k):lay o (g.map U64) ((RW s f n).map U64)=(RW s (fun i=>if i=k then g else f i) n).map U64:=by
 have hin:s*k+s≤s*n:=by rw[←Nat.mul_succ];exact Nat.mul_le_mul_left s hk
 apply List.ext_getElem?
 intro m
 rw[fA _ _ _ _ (by rw[List.length_map,List.length_map,cF,hg];omega)]
 rw[List.length_map,hg,List.getElem?_map (l:=RW s (fun i=>if i=k then g else f i) n)]
 by_cases hm:m<s*n
 ·rw[n4 _ n m hm]
  by_cases h:o≤m∧m<o+s
  ·have e:m=s*k+(m-o):=by omega
   have hj:m-o<s:=by omega
   have e1:m / s=k:=by rw[e];exact tJ hj
   have e2:m % s=m-o:=by
    have:=sE (k:=k) hj
    rw[←e]at this;exact this
   rw[if_pos h,e1,if_pos rfl,e2,List.getElem?_map,List.getElem?_eq_getElem (by omega),List.getD_eq_getElem?_getD,List.getElem?_eq_getElem (by omega)]
   rfl
  ·have e1: ¬m / s=k:=fun e=>by
    have h0:0<s:=by
     rcases Nat.eq_zero_or_pos s with h0|h0
     ·subst h0;omega
     ·exact h0
    have h1:=Nat.div_add_mod m s
    have h2:=Nat.mod_lt m h0
    rw[e]at h1
    omega
   rw[if_neg h,if_neg e1,List.getElem?_map,n4 f n m hm]
 ·rw[if_neg (by omega),List.getElem?_map,List.getElem?_eq_none (by rw[cF];omega),List.getElem?_eq_none (by rw[cF];omega)]
theorem Es(f:Nat→List (BitVec 64))(n k:Nat)(hk:k<n)(hf:(f k).length=s):((RW s f n).map U64).toArray.extract (k*s) (k*s+s)=((f k).map U64).toArray:=by
 have hin:k*s+s≤s*n:=by rw[Nat.mul_comm k,←Nat.mul_succ];exact Nat.mul_le_mul_left s hk
 apply Array.ext_getElem?
 intro j
 rw[Array.getElem?_extract,List.size_toArray,List.length_map,cF]
 rcases Nat.lt_or_ge j s with hj|hj
 ·rw[if_pos (by omega),List.getElem?_toArray,List.getElem?_toArray]
  have h:=tp f n k hk hf (k*s) (Nat.mul_comm _ _) j (U64 (f k)[j]) (by rw[List.getElem?_map,List.getElem?_eq_getElem (by omega)];rfl)
  rw[h,List.getElem?_map,List.getElem?_eq_getElem (by omega)];rfl
 ·rw[if_neg (by omega),List.getElem?_toArray,List.getElem?_eq_none (by rw[List.length_map];omega)]
/-! ### Made -/
def uR(f:Nat→List (BitVec 64)):List Nat→(Nat→List (BitVec 64))→Nat→List (BitVec 64)
 |[],g=>g
 |i::r,g=>uR f r (fun j=>if j=i then f i else g j)
theorem sZ(f:Nat→List (BitVec 64)): ∀(is:List Nat) (g:Nat→List (BitVec 64)) (j:Nat),j∈is∨g j=f j→uR f is g j=f j
 |[],_,_,h=>h.elim (fun h=>by cases h) id
 |i::r,g,j,h=>by
  refine sZ f r _ j ?_
  by_cases hj:j=i
  ·right;rw[if_pos hj,hj]
  ·rcases h with h|h
   ·left
    rcases List.mem_cons.1 h with h|h
    ·exact absurd h hj
    ·exact h
   ·right;rw[if_neg hj,h]
theorem Dl(f:Nat→List (BitVec 64))(n:Nat)(hf: ∀i,i<n→(f i).length=s): ∀(is:List Nat) (g:Nat→List (BitVec 64)),(∀i∈is,i<n)→
 Instr.fill (fun i=>some (i*s,s)) ((RW s g n).map U64).toArray (is.map fun i=>(i,.agg ((f i).map U64).toArray))=some ((RW s (uR f is g) n).map U64).toArray
 |[],_,_=>rfl
 |i::r,g,h=>by
  have hi:=h i (by simp)
  have hin:s*i+s≤s*n:=by rw[←Nat.mul_succ];exact Nat.mul_le_mul_left s hi
  rw[List.map_cons,cV (off:=i*s) (size:=s) (vs:=(f i).map U64) rfl (by rw[List.length_map,hf i hi]) (by rw[List.length_map,List.length_map,cF,hf i hi,Nat.mul_comm i];omega),xI g n i (f i) hi (hf i hi) (i*s) (Nat.mul_comm _ _)]
  exact Dl f n hf r _ fun j hj=>h j (by simp[hj])
end
section
variable {P:Program} {G:Cls} {ro:Option Nat} {ops:Array Oper} {N:Nat} {ds:List Deferred} {fs:List Nat} {Z:Fr→Cls→Prop} {F:Fr} {C:Cls} {rest:List Oper}
variable {d:Nat} {ty:TypeId} {pos:String} {af:Array Edge} {gd:Option (Nat×Bool)} {s:Nat}
theorem runW{t e:TypeId}{n:Nat}{f z:Nat→List (BitVec 64)}(is:List Nat)(his: ∀i∈is,i<n)(hf: ∀i,i<n→(f i).length=s)(hu:P.underlying t=some (.array n e))(hs: ∀w,(sizeOf e).run P w=.ok s w)
 (hz: ∀w,(zeroValue t).run P w=.ok (.agg ((RW s z n).map U64).toArray) w) (w:World):(Instr.build t (is.map fun i=>(i,.agg ((f i).map U64).toArray)).toArray).run P w=.ok (.agg ((RW s (uR f is z) n).map U64).toArray) w:=by
 have h:=Dl (s:=s) f n hf is z his
 simp only[Instr.build,hz,run_underlying hu,hs,Sem.run_bind,Result.andThen_ok]
 rw[show (Value.agg (List.map U64 (RW s z n)).toArray).cells=(List.map U64 (RW s z n)).toArray from rfl,h]
 rfl
theorem qd(f h':Nat→List (BitVec 64))(is:List Nat){t e:TypeId}{n:Nat}{z:Nat→List (BitVec 64)}{ps:List (Nat×Operand)}(hx:evL F (ps.map (·.2))=some (is.map fun i=>.agg ((f i).map U64).toArray))(hi:ps.map (·.1)=is)(his:is.all (Nat.blt · n)=true)
 (hf: ∀i,i<n→(f i).length=s) (hu:P.underlying t=some (.array n e)) (hs: ∀w,(sizeOf e).run P w=.ok s w) (hz: ∀w,(zeroValue t).run P w=.ok (.agg ((RW s z n).map U64).toArray) w) (hh: ∀i,i<n→uR f is z i=h' i)
 (hw:aB ops F ⟨some d,.build t ps.toArray,ty,pos,af,gd⟩=some true) (hd:Nat.blt d N=true)
 (h:Lx P G ro ops N ds (EE fs) Z rest ((d,.agg ((RW s h' n).map U64).toArray)::F) C):Lx P G ro ops N ds (EE fs) Z (⟨some d,.build t ps.toArray,ty,pos,af,gd⟩::rest) F C:=
 df hx (fun w=>by
  have hlt: ∀i∈is,i<n:=fun i hi=>Nat.le_of_ble_eq_true (List.all_eq_true.1 his i hi)
  have e:=runW (s:=s) (f:=f) is hlt hf hu hs hz w
  rw[iU hh]at e
  rw[hi,show is.zip (is.map fun i=>Value.agg ((f i).map U64).toArray)=is.map fun i=>(i,.agg ((f i).map U64).toArray)from (by
   clear hx hi his hh e hlt
   induction is with
   |nil=>rfl
   |cons a r ih=>rw[List.map_cons,List.zip_cons_cons,ih];rfl)]
  exact e) hw hd h
theorem Ai(f:Nat→List (BitVec 64))(k:Nat){t e:TypeId}{n:Nat}{x ix:Operand}{i:Int}(hx:evF F x=some (.agg ((RW s f n).map U64).toArray))(hi:evF F ix=some (I i))(hu:P.underlying t=some (.array n e))
 (hs: ∀w,(sizeOf e).run P w=.ok s w) (hag: ∀w,(isAgg e).run P w=.ok true w) (hk:i=(k:Int)) (hb:k<n) (hf:(f k).length=s) (hw:aB ops F ⟨some d,.index t x ix,ty,pos,af,gd⟩=some true) (hd:Nat.blt d N=true)
 (h:Lx P G ro ops N ds (EE fs) Z rest ((d,.agg ((f k).map U64).toArray)::F) C):Lx P G ro ops N ds (EE fs) Z (⟨some d,.index t x ix,ty,pos,af,gd⟩::rest) F C:=
 bE (v:=.agg ((f k).map U64).toArray) rfl hw hd (fun _ h=>by cases h) (fun a w ha _=>by
  simp only[execOp,ha.ev hx,ha.ev hi]
  have hb':0≤i∧i<(n:Int):=by omega
  have e:i.toNat=k:=by omega
  have e2:=Es f n k hb hf
  simp only[Instr.index,asIntOf,run_underlying hu,part,Sem.run_bind,Sem.run_pure,Result.andThen_ok]
  rw[if_pos hb']
  simp only[Sem.run_bind,Sem.run_pure,Result.andThen_ok,hs,hag,if_true,e,e2]) h
end
/-! ### Rows within rows -/
end
section
open Go.RowKit
def OwnW(L:Hl)(n:Nat)(e:TypeId)(s:Nat)(a0:Option Addr)(cap nx:Nat)(xs:List Value):Prop:=
 (a0=none∧xs=[]∧nx=0∧cap=0)∨∃b c,a0=some ⟨b,0,none⟩∧lkB L n=some (b,c,e)∧c.length=cap*s∧nx≤cap∧xs.length=nx*s∧c.take xs.length=xs
theorem OwnW.len{L:Hl}{n:Nat}{e:TypeId}{s:Nat}{a0:Option Addr}{cap nx:Nat}{xs:List Value}(h:OwnW L n e s a0 cap nx xs):xs.length=nx*s:=by
 rcases h with ⟨_,rfl,rfl,_⟩|⟨_,_,_,_,_,_,h,_⟩
 ·simp
 ·exact h
section
variable {P:Program} {G:Cls} {ro:Option Nat} {ops:Array Oper} {N:Nat} {ds:List Deferred} {fs:List Nat} {Z:Fr→Cls→Prop} {F:Fr} {C:Cls} {rest:List Oper}
variable {d:Nat} {ty:TypeId} {pos:String} {af:Array Edge} {gd:Option (Nat×Bool)} {B:Bs} {L:Hl}
end
end
section
open Go.RowKit
section
variable {P:Program} {G:Cls} {ro:Option Nat} {ops:Array Oper} {N:Nat} {ds:List Deferred} {fs:List Nat} {Z:Fr→Cls→Prop} {F:Fr} {C:Cls} {rest:List Oper}
variable {d:Nat} {ty:TypeId} {pos:String} {af:Array Edge} {gd:Option (Nat×Bool)}
variable {B:Bs} {L:Hl}
theorem uq{E:Oper→Bool}{o:Oper}(hE:E o=true)(hw:aB ops F o=some true)(hd:gw N o.dst=true)(hnd: ∀c,o.op≠ .defer c)
 (h: ∀a w,Has N ds F a→C w→∃v w' C',((execOp a.eval o).run P w=.ok (.value v) w'∨((execOp a.eval o).run P w=.ok .skip w'∧v=undef))∧cj G C'∧C' w'∧(∀w,C' w→C w)∧Lx P G ro ops N ds E Z rest (putF o.dst v F) C'):
 Lx P G ro ops N ds E Z (o::rest) F C:=by
 unfold Lx
 rw[hE]
 intro a w ha hC
 obtain ⟨v,w',C',hr,hS,hw',hn,hk⟩:=h a w ha hC
 refine ⟨ha.want hw,fun f _=>cy ro f, ?_⟩
 rw[show (FW ro).round=ro from rfl,Oper.semAt_eq _ _ _ hnd]
 rcases hr with hr|⟨hr,rfl⟩
 ·rw[hr];exact ⟨_,C',ha.putF hd v,hS,hw',fun _=>hn,hk⟩
 ·rw[hr];exact ⟨_,C',ha.putF hd _,hS,hw',fun _=>hn,hk⟩
theorem BP(n:Nat)(xs:List (BitVec 8)){t e:TypeId}{len:Nat}{ps:List (Nat×Operand)}(hB:BOk G B)(hfr:lkB L n=none)(hx:evL F (ps.map (·.2))=some (xs.map U8))(hi:ps.map (·.1)=List.range len)(hn:xs.length=len)(hl:len≤16777216)(h0:len≠0)(hu:P.underlying t=some (.slice e))
 (hs: ∀w,(sizeOf e).run P w=.ok 1 w) (hz: ∀w,(zeroValue e).run P w=.ok (.int .u8 0) w) (hw:aB ops F ⟨some d,.buildSlice t len ps.toArray,ty,pos,af,gd⟩=some true) (hd:Nat.blt d N=true)
 (h: ∀b,Lx P G ro ops N ds (EE fs) Z rest ((d,.slice (some ⟨b,0,none⟩) xs.length xs.length)::F) (Hp B ((n,b,xs.map U8,e)::L))):Lx P G ro ops N ds (EE fs) Z (⟨some d,.buildSlice t len ps.toArray,ty,pos,af,gd⟩::rest) F (Hp B L):=by
 refine uq rfl hw hd (fun _ h=>by cases h) fun a w ha hC=> ?_
 refine ⟨.slice (some ⟨w.heap.size,0,none⟩) xs.length xs.length,w.alloc (.cells (xs.map U8).toArray e),_,.inl ?_,ay hB,hC.alloc hB.r n (xs.map U8) e,bx hB.r hfr,h w.heap.size⟩
 have e1:(ps.toArray.map fun (i,x)=>(i,a.eval x))=((List.range len).zip (xs.map U8)).toArray:=by
  rw[←hi,←ha.evL hx,List.map_toArray,List.map_map,List.zip_map']
  rfl
 have hz1:(Value.int .u8 0).cells= #[Value.int .u8 0]:=rfl
 have hf:=gR (xs.map U8) 0 ((Array.range (len*1)).map ((Value.int .u8 0).cells[· % (Value.int .u8 0).cells.size]!)).toList (by simp[hn]) (cf xs)
 rw[iV _ _ (by simp[hn]),←List.range_eq_range',List.length_map,hn]at hf
 simp only[Array.toArray_toList]at hf
 have hlt: ¬(len*1>2^24):=by omega
 show ((do pure (.value (←Instr.buildSlice t len (ps.toArray.map fun (i,x)=>(i,a.eval x)))):Sem Next)).run P w=_
 rw[e1]
 have hb:(Instr.buildSlice t len ((List.range len).zip (xs.map U8)).toArray).run P w=.ok (.slice (some ⟨w.heap.size,0,none⟩) len len) (w.alloc (.cells (xs.map U8).toArray e)):=by
  have h00: ¬(len*1=0):=by omega
  simp only[Instr.buildSlice,Sem.run_bind,run_underlying hu,Result.andThen_ok,hs,if_neg hlt,if_neg h00,hz,Sem.run_pure,hf]
  simp[newRow]
 rw[hn]
 simp only[Sem.run_bind,hb,Result.andThen_ok];rfl
end
end
section
open Go.RowKit
section
variable {P:Program} {G:Cls} {ro:Option Nat} {ops:Array Oper} {N:Nat} {ds:List Deferred} {fs:List Nat} {Z:Fr→Cls→Prop} {F:Fr} {C:Cls} {rest:List Oper}
variable {d:Nat} {ty:TypeId} {pos:String} {af:Array Edge} {gd:Option (Nat×Bool)} {s:Nat}
variable {B:Bs} {L:Hl}
theorem Gp(zr:List (BitVec 64))(hz:zr.length=s)(n:Nat):((Array.range (n*s)).map ((Value.agg (zr.map U64).toArray).cells[· % (Value.agg (zr.map U64).toArray).cells.size]!))=((RW s (fun _=>zr) n).map U64).toArray:=by
 have e:(Value.agg (zr.map U64).toArray).cells=(zr.map U64).toArray:=rfl
 rw[e]
 apply Array.ext
 ·simp[cF,Nat.mul_comm]
 ·intro i h1 h2
  have hi:i<n*s:=by simpa using h1
  have hs:0<s:=by
   rcases Nat.eq_zero_or_pos s with h|h
   ·subst h;simp at hi
   ·exact h
  have hm:i % s<zr.length:=by rw[hz];exact Nat.mod_lt _ hs
  have hg:(RW s (fun _=>zr) n)[i]? =some (zr.getD (i % s) 0):=n4 _ n i (by rw[Nat.mul_comm];exact hi)
  have hg2:((RW s (fun _=>zr) n).map U64)[i]? =some (U64 (zr.getD (i % s) 0)):=by rw[List.getElem?_map,hg];rfl
  have hr:((RW s (fun _=>zr) n).map U64).toArray[i]=U64 (zr.getD (i % s) 0):=by
   have:=List.getElem?_eq_some_iff.1 hg2
   obtain ⟨hl,he⟩:=this
   simpa using he
  rw[hr]
  have hl:((zr.map U64).toArray)[i % s]! =U64 (zr.getD (i % s) 0):=by
   simp[hm]
  simp only[Array.getElem_map,Array.getElem_range]
  rw[show ((zr.map U64).toArray).size=s by simp[hz]]
  exact hl
theorem w7(k:Nat){t e:TypeId}{len cap:Nat}{x ix:Operand}{b o:Nat}{i:Int}(hx:evF F x=some (.slice (some ⟨b,o,none⟩) len cap))(hi:evF F ix=some (I i))(hu:P.underlying t=some (.slice e))
 (hs: ∀w,(sizeOf e).run P w=.ok s w) (hk:i=(k:Int)) (hb:k<len) (hw:aB ops F ⟨some d,.indexAddr t x ix,ty,pos,af,gd⟩=some true) (hd:Nat.blt d N=true)
 (h:Lx P G ro ops N ds (EE fs) Z rest ((d,.pointer (some ⟨b,o+s*k,none⟩))::F) C):Lx P G ro ops N ds (EE fs) Z (⟨some d,.indexAddr t x ix,ty,pos,af,gd⟩::rest) F C:=
 CY hx hi hu hs (by omega) hw hd (by
  rw[show o+i.toNat*s=o+s*k from by rw[Nat.mul_comm s k,hk];rfl];exact h)
theorem uy{w:World}{b n k:Nat}{f:Nat→List (BitVec 64)}(h:w.rangeAt b 0 ((RW s f n).map U64))(hk:k<n)(hf:(f k).length=s):w.rangeAt b (0+s*k) ((f k).map U64):=fun j v hv=>by
 have:=h (s*k+j) v (tp f n k hk hf (s*k) rfl j v hv)
 rw[Nat.zero_add]at this
 rw[Nat.zero_add]
 exact this
end
end
section
open Go.RowKit
section
variable {P:Program} {G:Cls} {ro:Option Nat} {ops:Array Oper} {N:Nat} {ds:List Deferred} {fs:List Nat} {Z:Fr→Cls→Prop} {F:Fr} {C:Cls} {rest:List Oper}
variable {d:Nat} {ty:TypeId} {pos:String} {af:Array Edge} {gd:Option (Nat×Bool)}
variable {B:Bs} {L:Hl}
theorem BW(n:Nat){t e:TypeId}{x:Operand}{b len cap:Nat}{c:List Value}(hf:fs.any (Nat.beq (1000000+t))=true)(hB:BOk G B)(hx:evF F x=some (.slice (some ⟨b,0,none⟩) len cap))(hl:lkB L n=some (b,c,e))(hu:P.underlying t=some (.slice e))(hue:P.underlying e=some (.int .u8))
 (hw:aB ops F ⟨some d,.convert t t x,ty,pos,af,gd⟩=some true) (hd:Nat.blt d N=true)
 (h:Lx P G ro ops N ds (EE fs) Z rest ((d,.slice (some ⟨b,0,none⟩) len cap)::F) (Hp B L)):Lx P G ro ops N ds (EE fs) Z (⟨some d,.convert t t x,ty,pos,af,gd⟩::rest) F (Hp B L):=by
 refine uq hf hw hd (fun _ h=>by cases h) fun a w ha hC=> ?_
 obtain ⟨fz,h1,h2⟩:=(hC.own n b c e hl).1
 have ht:TurnAt b w (w.freeze ⟨b,c.length,none⟩ 1):=⟨rfl,rfl,rfl,by simp[World.freeze],fun k hk=>by simp[World.freeze,Array.getElem?_modify,Ne.symm hk]⟩
 have ho:OwnB (w.freeze ⟨b,c.length,none⟩ 1) b c e:=⟨if fz.1==fz.2 then (c.length,c.length+1)else (min fz.1 c.length,max fz.2 (c.length+1)),by
  rw[World.freeze,if_neg (by decide)]
  show (Array.modify w.heap b _)[b]? =_
  rw[Array.getElem?_modify,if_pos rfl,h1]
  simp,by
  right
  rcases h2 with rfl|h2
  ·simp
  ·split
   ·exact Nat.le_refl _
   ·show c.length≤min fz.1 c.length
    omega⟩
 have hw2:=hC.turn hB.r hl c ht ho
 refine ⟨_,_,_,.inl ?_,ay hB,hw2.less hB.r ?_,fun _ h=>h,h⟩
 ·have hsh:w.shape? b=some (e,c.length):=by simp only[World.shape?,h1];simp
  simp only[execOp,ha.ev hx,convert,Sem.run_bind,run_underlying hu,run_underlying hue,Result.andThen_ok]
  simp[markStringish,hsh]
 ·intro m y hy
  by_cases hm:m=n
  ·subst hm
   rw[hl]at hy
   cases hy
   simp[lkB]
  ·have hb:Nat.beq n m=false:=by
    cases hb:Nat.beq n m with
    |false=>rfl
    |true=>exact absurd (Nat.eq_of_beq_eq_true hb).symm hm
   simp[lkB,hb,hy]
end
end
section
open Go.RowKit
section
variable {P:Program} {F:Fr} {B:Bs} {L:Hl}
theorem og(n1 n2:Nat){fn:Func}{R:Ending→World→Prop}{t1 t2:Nat}{T et1 et2:TypeId}{b1 b2 m:Nat}{c1 c2:List Value}(hr:fn.results= #[.cell t1 T,.cell t2 T])
 (hv1:lk F t1=some (.pointer (some ⟨b1,0,none⟩))) (hv2:lk F t2=some (.pointer (some ⟨b2,0,none⟩)))
 (hl1:lkB L n1=some (b1,c1,et1)) (hl2:lkB L n2=some (b2,c2,et2)) (hag: ∀w,(isAgg T).run P w=.ok true w) (hs: ∀w,(sizeOf T).run P w=.ok m w) (hm1:c1.length=m) (hm2:c2.length=m)
 (h: ∀w,Hp B L w→R (.returned (.tuple #[.agg c1.toArray,.agg c2.toArray])) w):jO P fn R .ret [] F (Hp B L):=
 ⟨rfl,fun a w ha hC=>⟨.tuple #[.agg c1.toArray,.agg c2.toArray],by
  have e1:=run_loadCells_list (P:=P) w ⟨b1,0,none⟩ c1 (fun j v hv=>by rw[Addr.add_mid];exact bv (n:=n1) hl1 w hC j v hv)
  have e2:=run_loadCells_list (P:=P) w ⟨b2,0,none⟩ c2 (fun j v hv=>by rw[Addr.add_mid];exact bv (n:=n2) hl2 w hC j v hv)
  rw[hm1]at e1
  rw[hm2]at e2
  simp[results,hr,ha.get t1 _ hv1,ha.get t2 _ hv2,asAddr,loadVar,hag,hs,e1,e2],h w hC⟩⟩
end
end
section
open Go.RowKit
section
variable {P:Program} {G:Cls} {ro:Option Nat} {ops:Array Oper} {N:Nat} {ds:List Deferred} {fs:List Nat} {Z:Fr→Cls→Prop} {F:Fr} {C:Cls} {rest:List Oper}
variable {d:Nat} {ty:TypeId} {pos:String} {af:Array Edge} {gd:Option (Nat×Bool)}
theorem lr{t e:TypeId}{sz:Nat}{x y z:Operand}{lo:Option Operand}{a0:Option Addr}{len cap l h' m:Nat}(hx:evF F x=some (.slice a0 len cap))(hu:P.underlying t=some (.slice e))(hs: ∀w,(sizeOf e).run P w=.ok sz w)
 (hl:(lo.map (evF F)).getD (some (I 0))=some (I l)) (hh:evF F y=some (I h')) (hm:evF F z=some (I m)) (hb:l≤h'∧h'≤m∧m≤cap)
 (hw:aB ops F ⟨some d,.slice t x lo (some y) (some z),ty,pos,af,gd⟩=some true) (hd:Nat.blt d N=true)
 (h:Lx P G ro ops N ds (EE fs) Z rest ((d,.slice (if m=l then a0 else a0.map (·.add (l*sz))) (h'-l) (m-l))::F) C):Lx P G ro ops N ds (EE fs) Z (⟨some d,.slice t x lo (some y) (some z),ty,pos,af,gd⟩::rest) F C:=
 bE (v:=.slice (if m=l then a0 else a0.map (·.add (l*sz))) (h'-l) (m-l)) rfl hw hd (fun _ h=>by cases h) (fun a w ha _=>by
  have hy:=ha.ev hh
  have hz:=ha.ev hm
  have hb1:=hb.1
  have hb2:=hb.2.1
  have hb3:=hb.2.2
  simp only[execOp,ha.ev hx]
  cases lo with
  |none=>
   simp at hl
   have hl0:l=0:=by omega
   subst hl0
   simp[Instr.sliceAt,Instr.slice,run_underlying hu,Instr.sliceBounds,Instr.sliceBound,asIntOf,hy,hz,hs,hb2,hb3]
  |some q=>
   have hq:=ha.ev (x:=q) (v:=I l) (by simpa using hl)
   simp[Instr.sliceAt,Instr.slice,run_underlying hu,Instr.sliceBounds,Instr.sliceBound,asIntOf,hy,hz,hq,hs,hb1,hb2,hb3]) h
end
end
section
open Go.RowKit
section
variable {P:Program} {G:Cls} {ro:Option Nat} {ops:Array Oper} {N:Nat} {ds:List Deferred} {fs:List Nat} {Z:Fr→Cls→Prop} {F:Fr} {C:Cls} {rest:List Oper}
variable {d:Nat} {ty:TypeId} {pos:String} {af:Array Edge} {gd:Option (Nat×Bool)}
theorem tk{t:TypeId}{x ix:Operand}{s:ByteArray}{k:IntKind}{i:Int}{n:BitVec 8}(hx:evF F x=some (.string s))(hi:evF F ix=some (.int k i))(hu:P.underlying t=some .string)(h0:0≤i)(hv:s.data[i.toNat]? =some (UInt8.ofBitVec n))
 (hw:aB ops F ⟨some d,.index t x ix,ty,pos,af,gd⟩=some true) (hd:Nat.blt d N=true) (h:Lx P G ro ops N ds (EE fs) Z rest ((d,U8 n)::F) C):Lx P G ro ops N ds (EE fs) Z (⟨some d,.index t x ix,ty,pos,af,gd⟩::rest) F C:=
 bE (v:=U8 n) rfl hw hd (fun _ h=>by cases h) (fun a w ha _=>by
  have hlt:i.toNat<s.size:=(Array.getElem?_eq_some_iff.1 hv).1
  have hg:s[i.toNat]=UInt8.ofBitVec n:=(Array.getElem?_eq_some_iff.1 hv).2
  have hr:=run_index_string (P:=P) w t s k i hu
  rw[dif_pos ⟨h0,by omega⟩]at hr
  simp only[execOp,ha.ev hx,ha.ev hi,Sem.run_bind,hr,Result.andThen_ok,hg]
  rfl) h
end
end
section
open Go.RowKit
theorem yG{P:Program}{w:World}(t:TypeId)(n:Nat):(binOp .shr t (I (n:Int)) (U64 8#64)).run P w=.ok (I ((n / 256:Nat):Int)) w:=by
 have e:(n:Int).fdiv (2^(min 8 64))=((n / 256:Nat):Int):=by
  rw[Int.fdiv_eq_ediv_of_nonneg _ (by decide)]
  rfl
 show (Op.shift .shr .i64 (n:Int) .u64 ((8:Nat):Int)).run P w=_
 unfold Op.shift
 rw[if_neg (by omega)]
 show Result.ok (Value.int .i64 ((n:Int).fdiv (2^(min ((8:Nat):Int).toNat 64)))) w=_
 rw[Int.toNat_natCast,e]
theorem OwnSl.of{own L:Hl}{n:Nat}{e:TypeId}{a0:Option Addr}{cap:Nat}{xs:List (BitVec 8)}(h:OwnSl own n e a0 cap xs)(hl:lkB L n=lkB own n):OwnSl L n e a0 cap xs:=by
 unfold OwnSl at*
 rw[hl]
 exact h
end
section
open Go.RowKit
section
variable {P:Program} {G:Cls} {ro:Option Nat} {ops:Array Oper} {N:Nat} {ds:List Deferred} {fs:List Nat} {Z:Fr→Cls→Prop} {F:Fr} {C:Cls} {rest:List Oper}
variable {ty:TypeId} {pos:String} {af:Array Edge} {gd:Option (Nat×Bool)}
theorem iW{f:Nat}{al:List Operand}{at':Array TypeId}{vs:List Value}{dst:Option Nat}{low:Nat}{Q:World→Value→Prop}(hf:fs.any (Nat.beq f)=true)(ha:evL F al=some vs)(he:ah P f)
 (hw:aB ops F ⟨dst,.call {callee:=.value (.func f),args:=al.toArray,argTypes:=at'},ty,pos,af,gd⟩=some true) (hd:gw N dst=true) (hl:GLow G low) (hS:cj G C)
 (hp: ∀w,C w→G w→Calls P f vs.toArray w (fun e w'=> ∃v,e=.returned v∧Grow w w'∧Q w' v))
 (h: ∀w0 w1 v,C w0→Grow w0 w1→G w1→Q w1 v→Lx P G ro ops N ds (EE fs) Z rest (putF dst v F) (Hp (pl w1) []))
 (hgr:fs.any (Nat.beq (f+2000000))=false:=by rfl):
 Lx P G ro ops N ds (EE fs) Z (⟨dst,.call {callee:=.value (.func f),args:=al.toArray,argTypes:=at'},ty,pos,af,gd⟩::rest) F C:=
 gG hf ha he hw hd (fun w hC=>(hp w hC (hS.2 w hC)).mono fun e w' ⟨v,he',hg,hq⟩=>by
  have hG1:G w':=hl.grow (hS.2 w hC) hg
  exact ⟨v,Hp (pl w') [],he',ay (hl.plain hG1),cu (pl w') trivial ao,h w w' v hC hg hG1 hq⟩) hgr
end
end
section
open Go.RowKit
theorem Kf(m:Nat):(madeCells (Value.int .u8 0).cells m).toList=(List.replicate m 0#8).map U8:=by
 have hz:(Value.int .u8 0).cells= #[Value.int .u8 0]:=rfl
 rw[hz,madeCells,List.map_replicate]
 refine List.ext_getElem (by simp) fun i h1 h2=> ?_
 simp[Nat.mod_one]
 rfl
theorem IX{s:Nat}(zr:List (BitVec 64))(hz:zr.length=s)(n:Nat):(madeCells (Value.agg (zr.map U64).toArray).cells (n*s)).toList=(RW s (fun _=>zr) n).map U64:=by
 rw[madeCells,Gp zr hz n]
section
variable {P:Program} {G:Cls} {ro:Option Nat} {ops:Array Oper} {N:Nat} {ds:List Deferred} {fs:List Nat} {Z:Fr→Cls→Prop} {F:Fr} {C:Cls} {rest:List Oper}
variable {d:Nat} {ty:TypeId} {pos:String} {af:Array Edge} {gd:Option (Nat×Bool)} {B:Bs} {L:Hl}
theorem qq(n:Nat){t e:TypeId}{x y:Operand}{l m:Nat}{z:Value}{sz by_:Nat}{c:List Value}(hB:BOk G B)(hx:evF F x=some (I (l:Int)))(hy:evF F y=some (I (m:Int)))(hlm:l≤m)(hu:P.underlying t=some (.slice e))(hi:TI P e z sz by_)
 (hm:m*sz≤16777216∧by_*m≤281474976710656∧m≤1000000) (hc:(madeCells z.cells (m*sz)).toList=c) (hw:aB ops F ⟨some d,.makeSlice t x y,ty,pos,af,gd⟩=some true) (hd:Nat.blt d N=true)
 (h: ∀b,Lx P G ro ops N ds (EE fs) Z rest ((d,.slice (some ⟨b,0,none⟩) l m)::F) (Hp B ((n,b,c,e)::L))):Lx P G ro ops N ds (EE fs) Z (⟨some d,.makeSlice t x y,ty,pos,af,gd⟩::rest) F (Hp B L):=
 di rfl hw hd (fun _ h=>by cases h) fun a w ha hC=>by
  obtain ⟨i,hi,hz,rfl,rfl⟩:=hi
  have hr:=run_makeSlice (P:=P) (w:=w) t e i z hu hi hz .i64 .i64 (l:Int) (m:Int) (by omega) (by omega) (by rw[Int.toNat_natCast];exact hm.1) (by have:=Int.ofNat_le.2 hm.2.1;rw[Int.natCast_mul]at this;exact this) (by omega)
  simp only[Int.toNat_natCast]at hr
  refine ⟨.slice (some ⟨w.heap.size,0,none⟩) l m,w.alloc (.cells c.toArray e),_,.inl ?_,ay hB,hC.alloc hB.r n c e,h w.heap.size⟩
  subst hc
  simp only[execOp,ha.ev hx,ha.ev hy,I,Sem.run_bind,hr,Result.andThen_ok]
  simp
end
end
section
open Go.RowKit
section
variable {P:Program} {G:Cls} {B:Bs} {L:Hl} {Y:Nat→Prop} {w w':World} {b:Nat} {cs:List Value}
theorem jo{o:Nat}(h:w.rangeAt b o cs)(hg:Grow w w'):w'.rangeAt b o cs:=fun j v hv=>(hg.cell (block_lt_of_cell (h j v hv))).trans (h j v hv)
def pj(B:Bs)(b:Nat)(cs:List Value):Bs:=⟨B.w0,B.M,fun Y w=>B.J Y w∧¬Y b∧b<w.heap.size∧w.rangeAt b 0 cs⟩
theorem yS(hr:Rides B.J):Rides (pj B b cs).J where
 grow:=fun Y w w' h hg=>⟨hr.grow _ _ _ h.1 hg,h.2.1,Nat.lt_of_lt_of_le h.2.2.1 hg.size,jo h.2.2.2 hg⟩
 new:=fun Y w w' S h hg hS=>⟨hr.new _ _ _ S h.1 hg hS,fun e=>e.elim (fun e=>by have:=(hS b e).1;have:=h.2.2.1;omega) h.2.1,Nat.lt_of_lt_of_le h.2.2.1 hg.size,jo h.2.2.2 hg⟩
 turn:=fun Y w w' k hk h ht=>⟨hr.turn _ _ _ k hk h.1 ht,h.2.1,by rw[ht.size];exact h.2.2.1,fun j v hv=>by
  have e:=World.cell?_of_block (w:=w) (w':=w') (a:=⟨b,0+j,none⟩) (ht.other b (fun e=>h.2.1 (e▸hk)))
  exact e.trans (h.2.2.2 j v hv)⟩
 less:=fun Y Y' w hs h=>⟨hr.less _ _ _ hs h.1,fun e=>h.2.1 (hs _ e),h.2.2⟩
theorem gE(h:Hq (pj B b cs) L Y w):Hq B L Y w:=⟨h.os,h.tape,h.output,h.size,h.keep,h.own,h.inj,h.apart,h.high,h.lt,h.rid.1⟩
theorem k8(h:BOk G B):BOk G (pj B b cs):=⟨fun _ _ _ hq=>h.g _ _ _ (gE hq),yS h.r⟩
theorem C9(h:Hq B L Y w)(hr:Rides B.J)(hg:Grow w w')(hb:w.heap.size≤b)(hb':b<w'.heap.size)(hc:w'.rangeAt b 0 cs):Hq (pj B b cs) L Y w':=by
 have k:=h.grow hr hg
 refine ⟨k.os,k.tape,k.output,k.size,k.keep,k.own,k.inj,k.apart,k.high,k.lt,k.rid,fun e=> ?_,hb',hc⟩
 rcases e with e|e
 ·have:=h.ownlt e;omega
 ·have:=h.lt _ e;omega
theorem yw(h:Hq (pj B b cs) L Y w):w.rangeAt b 0 cs:=h.rid.2.2.2
theorem hbl(h:Hp B L w)(hM: ∀k,¬B.M k:=by exact fun _ h=>h):Grow B.w0 w:=h.below hM
end
end
end Go.Proofs.YtodgbdcjjhmnkaaGreatDoor
