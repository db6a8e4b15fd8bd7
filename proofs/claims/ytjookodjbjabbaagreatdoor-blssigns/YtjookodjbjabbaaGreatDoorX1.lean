/- X1 -/
import Derived.KernelRfl
import Derived.OrdersIn
import Derived.TacticsIn
import Derived.Below
import Derived.Carry
import Derived.Laws.Rows
import Derived.Deep.MidRow
import Derived.RangeFuncRecord
import Derived.RangeFuncLeaves
set_option maxRecDepth 100000
set_option maxHeartbeats 1000000
namespace Go.Proofs.YtjookodjbjabbaaGreatDoor
section
open Go.RowKit
theorem om{P:Prop}(h:P:=by omega):P:=h
theorem sm{P:Prop}(h:P:=by simp):P:=h
theorem dc{P:Prop}(h:P:=by decide):P:=h
theorem kr{P:Prop}(h:P:=by kernel_rfl):P:=h
theorem O.{u}{α:Sort u}{a:α}:a=a:=rfl
theorem rr{P:Prop}(h:P:=by rfl):P:=h
theorem trv{P:Prop}(h:P:=by repeat (first|exact True.intro|refine ⟨rfl, ?_⟩)):P:=h
abbrev L8:=List (BitVec 8)
abbrev L3:=List (BitVec 32)
abbrev L6:=List (BitVec 64)
abbrev spt(b:Nat):Option Addr:=some ⟨b,0,none⟩
abbrev pnt(b:Nat):Value:=.pointer (some ⟨b,0,none⟩)
def FW(ro:Option Nat):Fence:={Fence.wide with round:=ro}
/-! ### Frames: what is known of some slots -/
abbrev Fr:=List (Nat×Value)
def lk:Fr->Nat->Option Value
 |[],_=>none
 |(d,v)::r,t=>bif Nat.beq d t then some v else lk r t
structure Has(N:Nat)(ds:List Deferred)(F:Fr)(a:Act):Prop where
 size:a.tmps.size=N
 defers:a.defers=ds
 get: ∀t v,lk F t=some v->a.tmps[t]? =some v
theorem Has.put{N:Nat}{ds:List Deferred}{F:Fr}{a:Act}(h:Has N ds F a){d:Nat}(hd:d<N)(v:Value):Has N ds ((d,v)::F) (a.put (some d) v):=by
 refine ⟨by simp[Act.put,h.size],by simp[Act.put,h.defers],λt u hu=> ?_⟩
 simp only[lk]at hu;by_cases e:d=t
 ·subst e
  simp at hu;subst hu;simp[Act.put,h.size,hd]
 ·have:Nat.beq d t=false:=by
   cases hb:Nat.beq d t with
   |false=>rfl
   |true=>exact absurd (Nat.eq_of_beq_eq_true hb) e
  rw[this]at hu;simp only[cond_false]at hu;simp only[Act.put,Array.getElem?_setIfInBounds_ne e];exact h.get t u hu
theorem Has.less{N:Nat}{ds:List Deferred}{F F':Fr}{a:Act}(h:Has N ds F a)(hs: ∀t v,lk F' t=some v->lk F t=some v):Has N ds F' a:=
 ⟨h.size,h.defers,λt v hv=>h.get t v (hs t v hv)⟩
def putF:Option Nat->Value->Fr->Fr
 |some d,v,F=>(d,v)::F
 |none,_,F=>F
def jx(N:Nat):Option Nat->Bool
 |some d=>Nat.blt d N
 |none=>true
theorem Has.putF{N:Nat}{ds:List Deferred}{F:Fr}{a:Act}(h:Has N ds F a){d:Option Nat}(hd:jx N d=true)(v:Value):Has N ds (putF d v F) (a.put d v):=by
 cases d with
 |none=>exact h
 |some d=>exact h.put (by simpa [jx]using hd) v
/-! ### Operands -/
def U8(x:BitVec 8):Value:=.int .u8 (x.toNat:Int)
def U32(x:BitVec 32):Value:=.int .u32 (x.toNat:Int)
def U64(x:BitVec 64):Value:=.int .u64 (x.toNat:Int)
abbrev I(n:Int):Value:=.int .i64 n
abbrev aJ(l:List (BitVec 64)):Value:=.agg (l.map U64).toArray
def nrm:Value->Value
 | .int .u8 (.ofNat n)=>bif Nat.blt n 256 then U8 (BitVec.ofNat 8 n)else .int .u8 (.ofNat n)
 | .int .u32 (.ofNat n)=>bif Nat.blt n 4294967296 then U32 (BitVec.ofNat 32 n)else .int .u32 (.ofNat n)
 | .int .u64 (.ofNat n)=>bif Nat.blt n 18446744073709551616 then U64 (BitVec.ofNat 64 n)else .int .u64 (.ofNat n)
 |v=>v
theorem Ow(v:Value):nrm v=v:=by
 unfold nrm;split
 ·rename_i n
  cases h:Nat.blt n 256 with
  |false=>rfl
  |true=>simp at h;simp[U8,BitVec.toNat_ofNat];omega
 ·rename_i n
  cases h:Nat.blt n 4294967296 with
  |false=>rfl
  |true=>simp at h;simp[U32,BitVec.toNat_ofNat];omega
 ·rename_i n
  cases h:Nat.blt n 18446744073709551616 with
  |false=>rfl
  |true=>simp at h;simp[U64,BitVec.toNat_ofNat];omega
 ·rfl
def evF(F:Fr):Operand->Option Value
 | .tmp t=>lk F t
 | .const v=>some (nrm v)
 | .global g=>some (pnt g)
 | .func f=>some (.func (.func f) #[] #[])
theorem Has.ev{N:Nat}{ds:List Deferred}{F:Fr}{a:Act}(h:Has N ds F a){x:Operand}{v:Value}(hv:evF F x=some v):a.eval x=v:=by
 cases x with
 |tmp t=>simp[Act.eval,h.get t v hv]
 |const u=>simp[evF,Ow]at hv;simp[Act.eval,hv]
 |global g=>simp[evF]at hv;simp[Act.eval,hv]
 |func f=>simp[evF]at hv;simp[Act.eval,hv]
/-! ### Classes of worlds -/
abbrev Cls:=World->Prop
abbrev Grow(w w':World):Prop:=Below w.heap.size w w'
theorem Grow.refl(w:World):Grow w w:=Below.refl _ _
theorem Grow.trans{a b c:World}(h:Grow a b)(k:Grow b c):Grow a c:=Below.trans h (k.mono h.size)
def dJ(G C:Cls):Prop:=(∀w w',C w->Grow w w'->C w')/\∀w,C w->G w
/-! ### One operation -/
def aT(ops:Array Oper)(F:Fr)(o:Oper):Option Bool:=
 match o.guard with
 |none=>some true
 |some (j,want)=>
  match (ops[j]?).bind (·.dst)with
  |none=>some false
  |some d=>
   match lk F d with
   |some (.bool b)=>some (b==want)
   |some (.tuple _)=>some false
   |_=>none
theorem Has.want{N:Nat}{ds:List Deferred}{F:Fr}{a:Act}(h:Has N ds F a){ops:Array Oper}{o:Oper}{b:Bool}(hb:aT ops F o=some b):
 Region.wanted o (yielded ops a.tmps)=b:=by
 unfold aT at hb;unfold Region.wanted
 cases hg:o.guard with
 |none=>simp[hg]at hb;simp[<-hb]
 |some p=>
  obtain ⟨j,want⟩:=p;simp only[hg]at hb⊢;unfold yielded
  cases hd:(ops[j]?).bind (·.dst)with
  |none=>simp[hd]at hb;simp[<-hb]
  |some d=>
   simp only[hd]at hb⊢;simp only[Option.bind_some]
   cases hl:lk F d with
   |none=>simp[hl]at hb
   |some v=>
    rw[h.get d v hl];simp only[hl]at hb
    cases v<;>simp at hb<;>simp[<-hb]
def YieldsC(P:Program)(ro:Option Nat)(C:Cls)(o:Oper)(v:Value)(a:Act):Prop:=
 ∀w,C w->(o.semAt ro a.eval).run P w=.ok (.value v) w\/
  ∃f args,(o.semAt ro a.eval).run P w=.ok (.enter f args) w/\CallsIn (FW ro) 0 P f args w (λe w'=>e=.returned v/\Grow w w')
def YieldsW(P:Program)(ro:Option Nat)(ops:Array Oper)(C:Cls)(o:Oper)(v:Value)(a:Act):Prop:=
 (Region.wanted o (yielded ops a.tmps)=true/\YieldsC P ro C o v a)\/(Region.wanted o (yielded ops a.tmps)=false/\v=undef)
def eT(o:Oper):Bool:=
 match o.op with
 | .load .. | .convert .. | .range .. | .next .. | .entry .. | .lookup .. | .waits _| .call {callee:=.value _, .. }=>true
 |_=>false
def ii(G:Cls)(o:Oper)(C:Cls):Cls:=if eT o then (λw=>C w/\G w)else G
theorem pg{G:Cls}{o:Oper}{C:Cls}{w:World}(hS:dJ G C)(h:C w):ii G o C w:=by unfold ii;split<;>first|exact ⟨h,hS.2 w h⟩|exact hS.2 w h
def Mb(P:Program)(G:Cls)(ro:Option Nat)(ops:Array Oper)(N:Nat)(ds:List Deferred)(o:Oper)(F:Fr)(C:Cls)(v:Value):Prop:=
 jx N o.dst=true/\∀a,Has N ds F a->YieldsW P ro ops (ii G o C) o v a
def L9(P:Program)(G:Cls)(ro:Option Nat)(ops:Array Oper)(N:Nat)(ds:List Deferred)(o:Oper)(F:Fr)(C:Cls)(K:Fr->Cls->Prop):Prop:=
 ∀a w,Has N ds F a->C w->Region.wanted o (yielded ops a.tmps)=true/\
  o.wpIn (FW ro) 0 P a w (λa' w'=> ∃F' C',Has N ds F' a'/\dJ G C'/\C' w'/\K F' C') (λ_ _ _=>False)
def ig(o:Oper):Oper:=
 match o.op with
 | .call {callee:=.value (.func f), .. }=>{o with op:=.call {callee:=.value (.func (f+2000000)),args:= #[],argTypes:= #[]}}
 | .alloc _=>{o with op:=.call {callee:=.value (.func 2999999),args:= #[],argTypes:= #[]}}
 | .convert .. =>{o with op:=.call {callee:=.value (.func 2999996),args:= #[],argTypes:= #[]}}
 | .buildSlice .. =>{o with op:=.call {callee:=.value (.func 2999998),args:= #[],argTypes:= #[]}}
 | .makeSlice .. =>{o with op:=.call {callee:=.value (.func 2999995),args:= #[],argTypes:= #[]}}
 | .call {callee:=.builtin .append, .. }=>{o with op:=.call {callee:=.value (.func 2999997),args:= #[],argTypes:= #[]}}
 |_=>{o with op:=.move (.const undef)}
def Lx(P:Program)(G:Cls)(ro:Option Nat)(ops:Array Oper)(N:Nat)(ds:List Deferred)(E:Oper->Bool)(Z:Fr->Cls->Prop):List Oper->Fr->Cls->Prop
 |[],F,C=>Z F C
 |o::rest,F,C=>
  bif E o then L9 P G ro ops N ds o F C (λF' C'=>(E (ig o)=true->∀w,C' w->C w)/\Lx P G ro ops N ds E Z rest F' C')
  else∃v,Mb P G ro ops N ds o F C v/\Lx P G ro ops N ds E Z rest (putF o.dst v F) C
def rQ(N:Nat)(ds:List Deferred)(Q:Exit->Act->World->Prop)(e:Exit):Fr->Cls->Prop:=
 λF C=> ∀a w,Has N ds F a->C w->Q e a w
variable {P:Program} {G:Cls} {ro:Option Nat} {ops:Array Oper} {N:Nat} {ds:List Deferred} {E:Oper->Bool} {Q:Exit->Act->World->Prop}
theorem dP(ro:Option Nat)(f:FuncId):(FW ro).fn f:=trivial
theorem YieldsC.wpIn{C:Cls}{o:Oper}{v:Value}{a:Act}{w:World}{K:Act->World->Prop}{Q':Exit->Act->World->Prop}(h:YieldsC P ro C o v a)(hC:C w)
 (hK: ∀w',Grow w w'->K (a.put o.dst v) w'):o.wpIn (FW ro) 0 P a w K Q':=by
 refine ⟨λf _=>dP ro f, ?_⟩;show o.uponIn (FW ro) 0 P a K Q' ((o.semAt ro a.eval).run P w);rcases h w hC with h|⟨f,args,h,hc⟩
 ·rw[h];exact hK w (Grow.refl w)
 ·rw[h]
  refine ⟨λh=>(by cases h), ?_⟩
  refine CallsIn.mono hc λe w' he=> ?_;obtain ⟨rfl,hg⟩:=he;exact hK w' hg
theorem Oper.wpIn_exits{o:Oper}{a:Act}{w:World}{K:Act->World->Prop}{Q':Exit->Act->World->Prop}(h:o.wpIn (FW ro) 0 P a w K (λ_ _ _=>False)):o.wpIn (FW ro) 0 P a w K Q':=by
 unfold Oper.wpIn at*;refine ⟨h.1, ?_⟩;have hh:=h.2;generalize (o.semAt (FW ro).round a.eval).run P w=r at*
 cases r with
 |ok x w'=>
  cases x<;>simp only[Oper.uponIn]at hh⊢ <;>
   first
    |exact hh
    |exact ⟨hh.1,CallsIn.mono hh.2 (λe w'' he=>by cases e<;>first|exact he|exact he.elim|(obtain ⟨_,_,x⟩:=he;exact x.elim))⟩
    |exact ⟨hh.1,RowsIn.mono hh.2 (λ_ _ he=>he)⟩
    |exact ⟨hh.1,RoundIn.mono hh.2 (λe w'' he=>by cases e<;>first|exact he|exact he.elim|(obtain ⟨_,_,x⟩:=he;exact x.elim))⟩
 |halt x w'=>cases x<;>simp only[Oper.uponIn]at hh⊢
theorem eM{Z:Fr->Cls->Prop}(hZ: ∀F C,dJ G C->Z F C->rQ N ds Q .normal F C): ∀(l:List Oper) (F:Fr) (C:Cls),dJ G C->Lx P G ro ops N ds E Z l F C->∀a w,Has N ds F a->C w->wpListIn (FW ro) 0 P ops Q l a w
 |[],F,C,hS,h,a,w,ha,hw=>hZ F C hS h a w ha hw
 |o::rest,F,C,hS,h,a,w,ha,hw=>by
  unfold wpListIn;unfold Lx at h
  cases hE:E o with
  |true=>
   rw[hE]at h;obtain ⟨hwant,hwp⟩:=h a w ha hw;rw[if_pos hwant];refine Oper.wpIn_exits (Oper.wpIn_mono (λa' w' hk=> ?_) hwp);obtain ⟨F',C',ha',hS',hw',_,hk⟩:=hk;exact eM hZ rest F' C' hS' hk a' w' ha' hw'
  |false=>
   rw[hE]at h;obtain ⟨v,⟨hd,hy⟩,hk⟩:=h;have hcls:ii G o C w:=pg hS hw;rcases hy a ha with ⟨hwant,hy⟩|⟨hwant,rfl⟩
   ·rw[if_pos hwant]
    exact hy.wpIn hcls λw' hg=>eM hZ rest _ C hS hk _ w' (ha.putF hd v) (hS.1 _ _ hw hg)
   ·rw[if_neg (by simp[hwant])]
    exact ⟨λf _=>dP ro f,eM hZ rest _ C hS hk _ w (ha.putF hd _) hw⟩
end
section
open Go.RowKit
section
variable {P:Program} {G:Cls} {ro:Option Nat} {md:Region.Mode} {ops:Array Oper} {N:Nat} {ds:List Deferred} {E:Oper->Bool} {Q:Exit->Act->World->Prop}
def kf(P:Program)(G:Cls)(ro:Option Nat)(md:Region.Mode)(ops:Array Oper)(Q:Exit->Act->World->Prop)(E:Oper->Bool):Nat->Array Bool->Act->Cls->Prop
 |0,listed,a,C=>Region.ready md ops listed=[]/\∀w,C w->Q .normal a w
 |f+1,listed,a,C=>(Region.ready md ops listed=[]->∀w,C w->Q .normal a w)/\
  ∀i∈Region.ready md ops listed,∀o,ops[i]? =some o->
   bif E o then∀w,C w->Region.wanted o (yielded ops a.tmps)=true/\
    o.wpIn (FW ro) 0 P a w (λa' w'=> ∃C',dJ G C'/\C' w'/\(E (ig o)=true->∀w,C' w->C w)/\kf P G ro md ops Q E f (listed.setIfInBounds i true) a' C') (λ_ _ _=>False)
   else∃v,YieldsW P ro ops (ii G o C) o v a/\kf P G ro md ops Q E f (listed.setIfInBounds i true) (a.put o.dst v) C
theorem dM: ∀(f:Nat) (listed:Array Bool) (a:Act) (C:Cls) (w:World),dJ G C->C w->kf P G ro md ops Q E f listed a C->wpAnyIn (FW ro) 0 P md ops Q f listed a w
 |0,_,_,_,w,_,hw,h=>⟨h.1,h.2 w hw⟩
 |f+1,listed,a,C,w,hS,hw,h=>by
  refine ⟨λh0=>h.1 h0 w hw,λi hi=> ?_⟩;obtain ⟨_,o,ho,_⟩:=mem_ready.1 hi;have h1:=h.2 i hi o ho;unfold wpOpIn;simp only[ho]
  cases hE:E o with
  |true=>
   rw[hE]at h1;obtain ⟨hwant,hwp⟩:=h1 w hw;rw[if_pos hwant];refine Oper.wpIn_exits (Oper.wpIn_mono (λa' w' hk=> ?_) hwp);obtain ⟨C',hS',hw',_,hk⟩:=hk;exact dM f _ _ C' w' hS' hw' hk
  |false=>
   rw[hE]at h1;obtain ⟨v,hy,hk⟩:=h1;rcases hy with ⟨hwant,hy⟩|⟨hwant,rfl⟩
   ·rw[if_pos hwant]
    exact hy.wpIn (pg hS hw) λw' hg=>dM f _ _ C w' hS (hS.1 _ _ hw hg) hk
   ·rw[if_neg (by simp[hwant])]
    exact ⟨λf _=>dP ro f,dM f _ _ C w hS hw hk⟩
def SameAt(ro:Option Nat)(ops:Array Oper)(o:Oper)(a a':Act):Prop:=
 o.semAt ro a'.eval=o.semAt ro a.eval/\Region.wanted o (yielded ops a'.tmps)=Region.wanted o (yielded ops a.tmps)
theorem SameAt.yields{o:Oper}{a a':Act}{C:Cls}{v:Value}(h:SameAt ro ops o a a')(hy:YieldsW P ro ops C o v a):YieldsW P ro ops C o v a':=by
 unfold YieldsW YieldsC at*;rw[h.1,h.2];exact hy
theorem YieldsW.mono{o:Oper}{a:Act}{C C':Cls}{v:Value}(hy:YieldsW P ro ops C o v a)(h: ∀w,C' w->C w):YieldsW P ro ops C' o v a:=by
 rcases hy with ⟨hw,hy⟩|hy
 ·exact .inl ⟨hw,λw hw=>hy w (h w hw)⟩
 ·exact .inr hy
def db(ops:Array Oper):Bool:=ops.all λo=>match o.op with| .defer _=>false|_=>true
theorem jO(h:db ops=true)(j:Nat)(o:Oper)(c:Call)(ho:ops[j]? =some o):o.op≠ .defer c:=by
 intro heq;have:=Array.all_eq_true_iff_forall_mem.1 h o (Array.mem_of_getElem? ho);simp[heq]at this
theorem iC{o:Oper}(hs: ∀cs b,o.op≠ .select cs b)(hd: ∀c,o.op≠ .defer c)(a:Act)(dst:Option Tmp)(v:Value)(h: ∀d,dst=some d->d ∉ o.looksAt ops):
 o.semAt ro (a.put dst v).eval=o.semAt ro a.eval:=by
 rw[Oper.semAt_eq _ _ _ hd,Oper.semAt_eq _ _ _ hd,execOp_put o hs a dst v h]
theorem vb{oi oj:Oper}{v:Value}(hap:oi.apart ops oj=true)(hsi: ∀cs b,oi.op≠ .select cs b)(hsj: ∀cs b,oj.op≠ .select cs b)(hdi: ∀c,oi.op≠ .defer c)(hdj: ∀c,oj.op≠ .defer c)
 {K:Act->World->Prop} {a:Act} {w:World} (h:oj.wpIn (FW ro) 0 P (a.put oi.dst v) w K (λ_ _ _=>False)):
 oj.wpIn (FW ro) 0 P a w (λa' w'=>SameAt ro ops oi a a'/\K (a'.put oi.dst v) w') (λ_ _ _=>False):=by
 obtain ⟨h1,h2,h3⟩:=Oper.apart_spec hap;have keep: ∀u,SameAt ro ops oi a (a.put oj.dst u):=λu=>⟨iC hsi hdi a oj.dst u h3,wanted_put oi a oj.dst u h3⟩;unfold Oper.wpIn at*;refine ⟨λf _=>dP ro f, ?_⟩;have h:=h.2;rw[show (FW ro).round=ro from O,iC hsj hdj a oi.dst v h1]at h;rw[show (FW ro).round=ro from O];generalize (oj.semAt ro a.eval).run P w=r at*
 cases r with
 |ok x w'=>
  cases x<;>simp only[Oper.uponIn]at h⊢
  case value u=>exact ⟨keep u,by rw[<-Act.put_comm a v u h2];exact h⟩
  case skip=>exact ⟨keep _,by rw[<-Act.put_comm a v undef h2];exact h⟩
  case defer d=>
   refine ⟨?_, ?_⟩
   ·have:=keep undef
    refine ⟨?_, ?_⟩
    ·rw[<-this.1,Oper.semAt_eq _ _ _ hdi,Oper.semAt_eq _ _ _ hdi]
     refine execOp_congr oi hsi λx _=> ?_
     cases x<;>first|rfl|(cases oj.dst<;>rfl)
    ·rw[<-this.2];cases oj.dst<;>rfl
   ·rw[<-Act.put_comm _ v undef h2,<-Act.put_defers]
    exact h
  case enter f args=>
   refine ⟨h.1,CallsIn.mono h.2 λe w'' he=> ?_⟩
   cases e with
   |returned u=>exact ⟨keep u,by rw[<-Act.put_comm a v u h2];exact he⟩
   |panicked c=>exact he
   |outgrown=>exact he
  case row row args=>exact ⟨h.1,RowsIn.mono h.2 λu w'' he=>⟨keep u,by rw[<-Act.put_comm a v u h2];exact he⟩⟩
  case round l f tmps assign body=>
   refine ⟨h.1,RoundIn.mono h.2 λe w'' he=> ?_⟩
   cases e with
   |returned u=>exact ⟨keep u,by rw[<-Act.put_comm a v u h2];exact he⟩
   |panicked c=>exact he
   |outgrown=>exact he
 |halt x w'=>cases x<;>simp only[Oper.uponIn]at h⊢
/-! ### Who waits for whom -/
def waits(md:Region.Mode)(ops:Array Oper)(j i:Nat):Bool:=
 match ops[j]? with
 |some oj=>oj.after.any λe=>Region.binds md e && Nat.beq e.on i
 |none=>false
def Reach(md:Region.Mode)(ops:Array Oper)(j i:Nat):Prop:= ∀R:Nat->Prop,(∀i,waits md ops j i=true->R i)->(∀k i,R k->waits md ops k i=true->R i)->R i
theorem Reach.one{md:Region.Mode}{ops:Array Oper}{j i:Nat}(h:waits md ops j i=true):Reach md ops j i:=λ_ h1 _=>h1 i h
theorem Reach.step{md:Region.Mode}{ops:Array Oper}{j k i:Nat}(h:Reach md ops j k)(h':waits md ops k i=true):Reach md ops j i:=λR h1 h2=>h2 k i (h R h1 h2) h'
def Closed(md:Region.Mode)(ops:Array Oper)(listed:Array Bool):Prop:=
 ∀j i,waits md ops j i=true->listed.getD j false=true->listed.getD i false=true
theorem qb{j i:Nat}(h:waits md ops j i=true): ∃oj,ops[j]? =some oj/\∃e∈oj.after,Region.binds md e=true/\e.on=i:=by
 unfold waits at h;split at h
 ·rename_i oj hj
  obtain ⟨e,he,hb⟩:=Array.any_eq_true'.1 h;simp only[Bool.and_eq_true]at hb;exact ⟨oj,hj,e,he,hb.1,Nat.eq_of_beq_eq_true hb.2⟩
 ·cases h
theorem n5{j i:Nat}{listed:Array Bool}(hr:j∈Region.ready md ops listed)(h:waits md ops j i=true):listed.getD i false=true:=by
 obtain ⟨oj,hj,e,he,hb,rfl⟩:=qb h;obtain ⟨_,o,ho,hall⟩:=mem_ready.1 hr
 cases hj.symm.trans ho
 exact hall e he hb
theorem sy{i:Nat}{listed:Array Bool}(hc:Closed md ops listed)(hi:listed.getD i false=false){j:Nat}(h:Reach md ops j i):listed.getD j false=false/\j ∉ Region.ready md ops listed:=by
 refine h (λi=>listed.getD i false=false->listed.getD j false=false/\j ∉ Region.ready md ops listed) (λi h hi=>⟨?_,λhr=> ?_⟩) (λk i ih h' hi=>ih ?_) hi
 ·cases hl:listed.getD j false with
  |false=>rfl
  |true=>rw[hc _ _ h hl]at hi;cases hi
 ·rw[n5 hr h]at hi;cases hi
 ·cases hl:listed.getD k false with
  |false=>rfl
  |true=>rw[hc _ _ h' hl]at hi;cases hi
theorem Closed.set{i:Nat}{listed:Array Bool}(hc:Closed md ops listed)(hi:i∈Region.ready md ops listed):Closed md ops (listed.setIfInBounds i true):=by
 intro j k hjk hj;by_cases hij:i=j
 ·subst hij
  exact getD_set_true (n5 hi hjk)
 ·rw[getD_set_ne false hij]at hj
  exact getD_set_true (hc j k hjk hj)
theorem lp{listed:Array Bool}{i:Nat}(h:listed.getD i true=false):listed.getD i false=false:=by
 rcases Nat.lt_or_ge i listed.size with h'|h'
 ·simp[h']at h⊢;exact h
 ·simp[Array.getElem?_eq_none h']at h
theorem qI{i:Nat}{oi:Oper}{v:Value}(hi:ops[i]? =some oi)(hEi:E oi=false)(hsel: ∀(j:Nat) (o:Oper) cs b,ops[j]? =some o->o.op≠ .select cs b)
 (hdef: ∀(j:Nat) (o:Oper) c,ops[j]? =some o->o.op≠ .defer c):
 ∀(f:Nat) (listed:Array Bool) (a:Act) (C:Cls),Closed md ops listed->
  (∀j oj,ops[j]? =some oj->j≠i->listed.getD j true=false->(∀e∈oj.after,Region.binds md e=true->e.on≠i)->oi.apart ops oj=true)->
  (eT oi=true->∀j oj,ops[j]? =some oj->E oj=true->listed.getD j true=false->E (ig oj)=true\/Reach md ops j i)->
  i∈Region.ready md ops listed->YieldsW P ro ops (ii G oi C) oi v a->
  kf P G ro md ops Q E f (listed.setIfInBounds i true) (a.put oi.dst v) C->kf P G ro md ops Q E (f+1) listed a C:=by
 intro f
 induction f with
 |zero=>
  intro listed a C _ _ _ hr hy H;refine ⟨λh=>(by rw[h]at hr;cases hr),λj hj o ho=> ?_⟩
  by_cases hji:j=i
  ·subst hji
   cases hi.symm.trans ho
   rw[hEi];exact ⟨v,hy,H⟩
  ·have:=ready_mono hj hji
   rw[H.1]at this
   cases this
 |succ f ih=>
  intro listed a C hc hfree hblk hr hy H;refine ⟨λh=>(by rw[h]at hr;cases hr),λj hj oj hoj=> ?_⟩
  by_cases hji:j=i
  ·subst hji
   cases hi.symm.trans hoj
   rw[hEi];exact ⟨v,hy,H⟩
  have h1:=H.2 j (ready_mono hj hji) oj hoj;obtain ⟨hjun,_,hoj',hall⟩:=mem_ready.1 hj
  cases hoj.symm.trans hoj'
  have hiun:=lp (mem_ready.1 hr).1;have hnot: ∀e∈oj.after,Region.binds md e=true->e.on≠i:=λe he hb heq=>by
   have h1:=hall e he hb;rw[heq,hiun]at h1;cases h1
  have hap:=hfree j oj hoj hji hjun hnot;have hfree': ∀k ok,ops[k]? =some ok->k≠i->(listed.setIfInBounds j true).getD k true=false->
   (∀e∈ok.after,Region.binds md e=true->e.on≠i)->oi.apart ops ok=true:=λk ok hk hki hun hno=>by
   refine hfree k ok hk hki ?_ hno;by_cases hjk:j=k
   ·subst hjk;exact hjun
   ·rw[getD_set_ne true hjk]at hun;exact hun
  have hblk':eT oi=true->∀k ok,ops[k]? =some ok->E ok=true->(listed.setIfInBounds j true).getD k true=false->E (ig ok)=true\/Reach md ops k i:=λhrd k ok hk hEk hun=>by
   refine hblk hrd k ok hk hEk ?_;by_cases hjk:j=k
   ·subst hjk;exact hjun
   ·rw[getD_set_ne true hjk]at hun;exact hun
  cases hE:E oj with
  |true=>
   rw[hE]at h1;have hnr:eT oi=false\/E (ig oj)=true:=by
    cases hrd:eT oi with
    |false=>exact .inl O
    |true=>
     rcases hblk hrd j oj hoj hE hjun with h0|h0
     ·exact .inr h0
     ·exact absurd hj (sy hc hiun h0).2
   intro w hw;obtain ⟨hwant,hwp⟩:=h1 w hw;obtain ⟨p1,p2,p3⟩:=Oper.apart_spec hap;refine ⟨by rw[wanted_put oj a oi.dst v p1]at hwant;exact hwant, ?_⟩
   refine Oper.wpIn_mono (λa' w' hk=> ?_) (vb hap (λcs b=>hsel i oi cs b hi) (λcs b=>hsel j oj cs b hoj) (λc=>hdef i oi c hi) (λc=>hdef j oj c hoj) hwp);obtain ⟨hsame,C',hS',hw',hgr,hk⟩:=hk;refine ⟨C',hS',hw',hgr,ih (listed.setIfInBounds j true) a' C' (hc.set hj) hfree' hblk' (ready_mono hr (Ne.symm hji)) (hsame.yields ?_) ?_⟩
   ·refine hy.mono λw0 h0=> ?_
    rcases hnr with hnr|hnr
    ·unfold ii at h0⊢;rw[hnr]at h0⊢;exact h0
    ·unfold ii at h0⊢
     by_cases hrd:eT oi=true
     ·rw[if_pos hrd]at h0⊢;exact ⟨hgr hnr w0 h0.1,h0.2⟩
     ·rw[if_neg hrd]at h0⊢;exact h0
   ·rw[Array.setIfInBounds_comm _ _ hji];exact hk
  |false=>
   rw[hE]at h1;obtain ⟨u,hyu,hk⟩:=h1;obtain ⟨p1,p2,p3⟩:=Oper.apart_spec hap;have hsi:=λcs b=>hsel i oi cs b hi;have hsj:=λcs b=>hsel j oj cs b hoj;have hdi:=λc=>hdef i oi c hi;have hdj:=λc=>hdef j oj c hoj;have s1:SameAt ro ops oj (a.put oi.dst v) a:=⟨(iC hsj hdj a oi.dst v p1).symm,(wanted_put oj a oi.dst v p1).symm⟩;have s2:SameAt ro ops oi a (a.put oj.dst u):=⟨iC hsi hdi a oj.dst u p3,wanted_put oi a oj.dst u p3⟩;refine ⟨u,s1.yields hyu,ih (listed.setIfInBounds j true) _ C (hc.set hj) hfree' hblk' (ready_mono hr (Ne.symm hji)) (s2.yields hy) ?_⟩;rw[Array.setIfInBounds_comm _ _ hji,<-Act.put_comm a v u p2];exact hk
/-! ### The check, by the kernel -/
def clo(md:Region.Mode)(ops:Array Oper):List Nat->List Nat->List Nat
 |[],S=>S
 |k::ks,S=>bif S.any (λs=>waits md ops s k)then clo md ops ks (k::S)else clo md ops ks S
theorem pK{j:Nat}: ∀(ks S:List Nat),(∀s∈S,s=j\/Reach md ops j s)->∀s∈clo md ops ks S,s=j\/Reach md ops j s
 |[],_,h=>h
 |k::ks,S,h=>by
  unfold clo
  cases hb:S.any (λs=>waits md ops s k)with
  |false=>exact pK ks S h
  |true=>
   refine pK ks (k::S) λs hs=> ?_;rcases List.mem_cons.1 hs with rfl|hs
   ·obtain ⟨x,hx,hw⟩:=List.any_eq_true.1 hb
    rcases h x hx with rfl|hr
    ·exact .inr (.one hw)
    ·exact .inr (.step hr hw)
   ·exact h s hs
def qF(md:Region.Mode)(ops:Array Oper)(j i:Nat):Bool:= !Nat.beq i j && (clo md ops (List.range j).reverse [j]).any (Nat.beq i)
theorem kY{j i:Nat}(h:qF md ops j i=true):Reach md ops j i:=by
 simp only[qF,Bool.and_eq_true]at h;obtain ⟨h0,h⟩:=h;obtain ⟨s,hs,he⟩:=List.any_eq_true.1 h;have he:=Nat.eq_of_beq_eq_true he;subst he;rcases pK (j:=j) _ [j] (λs hs=>.inl (by simpa using hs)) i hs with rfl|hr
 ·simp at h0
 ·exact hr
def eQ(md:Region.Mode)(ops:Array Oper)(E:Oper->Bool):List Nat->Array Bool->Bool
 |[],listed=>(Region.ready md ops listed).isEmpty
 |k::σ,listed=>
  match ops[k]? with
  |none=>false
  |some o=>
   (Region.ready md ops listed).contains k &&
   (bif E o then decide (Region.ready md ops listed=[k])
    else Region.free md ops listed k && (!eT o||(List.range ops.size).all λj=>listed.getD j true|| !((ops[j]?).any E)||(ops[j]?).any (λoj=>E (ig oj))||qF md ops j k)) &&
   eQ md ops E σ (listed.setIfInBounds k true)
theorem jN{Z:Fr->Cls->Prop}(hZ: ∀F C,dJ G C->Z F C->rQ N ds Q .normal F C)(hsel:Region.noSelect ops=true)(hdef:db ops=true):
 ∀(σ:List Nat) (listed:Array Bool) (F:Fr) (C:Cls) (a:Act),Closed md ops listed->eQ md ops E σ listed=true->Has N ds F a->dJ G C->
  Lx P G ro ops N ds E Z (σ.filterMap (ops[·]?)) F C->kf P G ro md ops Q E σ.length listed a C
 |[],listed,F,C,a,_,hok,ha,hS,h=>⟨by simpa [eQ]using hok,λw hw=>hZ F C hS h a w ha hw⟩
 |k::σ,listed,F,C,a,hc,hok,ha,hS,h=>by
  unfold eQ at hok
  cases ho:ops[k]? with
  |none=>simp[ho]at hok
  |some o=>
   simp only[ho,Bool.and_eq_true]at hok;obtain ⟨⟨hr,hcase⟩,hok'⟩:=hok;have hr':k∈Region.ready md ops listed:=by simpa using hr
   have hl:(k::σ).filterMap (ops[·]?)=o::σ.filterMap (ops[·]?):=by simp[ho]
   rw[hl]at h;unfold Lx at h
   cases hE:E o with
   |true=>
    rw[hE]at h hcase;have hone:Region.ready md ops listed=[k]:=by simpa using hcase
    refine ⟨λh0=>(by rw[h0]at hone;cases hone),λi hi oi hoi=> ?_⟩
    rw[hone]at hi;have:i=k:=by simpa using hi
    subst this
    cases ho.symm.trans hoi
    rw[hE];intro w hw;obtain ⟨hwant,hwp⟩:=h a w ha hw;refine ⟨hwant,Oper.wpIn_mono (λa' w' hk=> ?_) hwp⟩;obtain ⟨F',C',ha',hS',hw',hgr,hk⟩:=hk;exact ⟨C',hS',hw',hgr,jN hZ hsel hdef σ _ F' C' a' (hc.set hr') hok' ha' hS' hk⟩
   |false=>
    rw[hE]at h hcase;simp only[cond_false,Bool.and_eq_true,Bool.or_eq_true,Bool.not_eq_true']at hcase;obtain ⟨v,⟨hd,hy⟩,hk⟩:=h;refine qI ho hE (Region.noSelect_spec hsel) (jO hdef) σ.length listed a C hc (Region.free_spec ho hcase.1) (λhrd j oj hoj hEj hun=> ?_) hr' (hy a ha)
     (jN hZ hsel hdef σ _ _ C _ (hc.set hr') hok' (ha.putF hd v) hS hk)
    rcases hcase.2 with h0|h0
    ·rw[hrd]at h0;cases h0
    ·have:=List.all_eq_true.1 h0 j (List.mem_range.2 (Array.getElem?_eq_some_iff.1 hoj).1)
     simp[hun,hoj,hEj]at this;rcases this with h1|h1
     ·exact .inl h1
     ·exact .inr (kY h1)
end
theorem Cl{P:Program}{G:Cls}{ro:Option Nat}{l:List Oper}{N:Nat}{ds:List Deferred}{E:Oper->Bool}{Q:Exit->Act->World->Prop}{id:Nat}{F:Fr}{C:Cls}{a:Act}{w:World}{Z:Fr->Cls->Prop}
 (σ:List Nat) (hm:P.follows .mixedOrders=true) (hlen:σ.length=l.length) (hsel:Region.noSelect l.toArray=true) (hdef:db l.toArray=true)
 (hok:eQ .any l.toArray E σ (Array.replicate l.toArray.size false)=true)
 (hZ: ∀F C,dJ G C->Z F C->rQ N ds Q .normal F C)
 (h:Lx P G ro l.toArray N ds E Z (σ.filterMap (l.toArray[·]?)) F C) (hS:dJ G C) (ha:Has N ds F a) (hw:C w):
 (Code.region id l.toArray true).wpIn (FW ro) 0 P Q a w:=by
 refine wpIn_region_any hm ?_;have hc:Closed .any l.toArray (Array.replicate l.toArray.size false):=λj i _ hj=>by
  rcases Nat.lt_or_ge j l.toArray.size with h'|h'
  ·simp at h';simp[h']at hj
  ·simp at h';simp[h']at hj
 have:=jN hZ hsel hdef σ _ F C a hc hok ha hS h;rw[hlen]at this;exact dM _ _ _ C _ hS (hS.1 w _ hw ((Below.refl _ w).drew)) this
theorem yu{P:Program}{G:Cls}{ro:Option Nat}{l:List Oper}{N:Nat}{ds:List Deferred}{E:Oper->Bool}{Q:Exit->Act->World->Prop}{id:Nat}{F:Fr}{C:Cls}{a:Act}{w:World}{Z:Fr->Cls->Prop}
 (hZ: ∀F C,dJ G C->Z F C->rQ N ds Q .normal F C)
 (h:Lx P G ro l.toArray N ds E Z l F C) (hS:dJ G C) (ha:Has N ds F a) (hw:C w):
 (Code.region id l.toArray false).wpIn (FW ro) 0 P Q a w:=
 wpIn_region_lit (eM hZ l F C hS h a w ha hw)
end
section
open Go.RowKit
abbrev KK:=Exit->List Deferred->Fr->Cls->Prop
def X(P:Program)(G:Cls)(ro:Option Nat)(N:Nat)(ds:List Deferred)(c:Code)(F:Fr)(C:Cls)(K:KK):Prop:=
 dJ G C->∀a w,Has N ds F a->C w->c.wpIn (FW ro) 0 P (λe a' w'=> ∃ds' F' C',dJ G C'/\Has N ds' F' a'/\C' w'/\K e ds' F' C') a w
def rp(Z:List Deferred->Fr->Cls->Prop)(K:KK):KK
 | .normal=>Z
 |e=>K e
def tD(id:Nat)(K:KK):KK
 | .exit id'=>bif Nat.beq id' id then K .normal else K (.exit id')
 |e=>K e
section
variable {P:Program} {G:Cls} {ro:Option Nat} {N:Nat} {ds:List Deferred} {F:Fr} {C:Cls} {K:KK}
theorem X.mono{c:Code}{K':KK}(h:X P G ro N ds c F C K)(hk: ∀e ds F C,K e ds F C->K' e ds F C):X P G ro N ds c F C K':=
 λhS a w ha hw=>wpIn_mono (h hS a w ha hw) λ_ _ _ ⟨ds',F',C',g,ha',hw',hk'⟩=>⟨ds',F',C',g,ha',hw',hk _ _ _ _ hk'⟩
theorem Pf{c:Code}{F':Fr}{C':Cls}(h:X P G ro N ds c F' C' K)(hF: ∀a,Has N ds F a->Has N ds F' a)(hC: ∀w,C w->C' w)(hG:dJ G C->dJ G C'):X P G ro N ds c F C K:=
 λhS a w ha hw=>h (hG hS) a w (hF a ha) (hC w hw)
theorem ae{x y:Code}(h:X P G ro N ds x F C (rp (λds' F' C'=>X P G ro N ds' y F' C' K) K)):X P G ro N ds (.seq x y) F C K:=λhS a w ha hw=>by
 refine wpIn_seq (wpIn_mono (h hS a w ha hw) λe a' w' ⟨ds',F',C',g,ha',hw',hk⟩=> ?_)
 cases e with
 |normal=>exact hk g a' w' ha' hw'
 |_=>exact ⟨ds',F',C',g,ha',hw',hk⟩
theorem ap(h:K .normal ds F C):X P G ro N ds .skip F C K:=λhS _ _ ha hw=>wpIn_skip ⟨ds,F,C,hS,ha,hw,h⟩
theorem ak(h:K .ret ds F C):X P G ro N ds .ret F C K:=λhS _ _ ha hw=>wpIn_ret ⟨ds,F,C,hS,ha,hw,h⟩
theorem aU{id:Nat}(h:K (.exit id) ds F C):X P G ro N ds (.exit id) F C K:=λhS _ _ ha hw=>wpIn_exit ⟨ds,F,C,hS,ha,hw,h⟩
theorem ah{id:Nat}{c:Code}(h:X P G ro N ds c F C (tD id K)):X P G ro N ds (.block id c) F C K:=λhS a w ha hw=>by
 refine wpIn_block (wpIn_mono (h hS a w ha hw) λe a' w' ⟨ds',F',C',g,ha',hw',hk⟩=> ?_)
 cases e with
 |exit id'=>
  show if id'=id then _ else _
  by_cases he:id'=id
  ·subst he
   rw[if_pos O];simp only[tD,Nat.beq_refl,cond_true]at hk;exact ⟨ds',F',C',g,ha',hw',hk⟩
  ·rw[if_neg he]
   have hb:Nat.beq id' id=false:=by
    cases hb:Nat.beq id' id with
    |false=>rfl
    |true=>exact absurd (Nat.eq_of_beq_eq_true hb) he
   simp only[tD,hb,cond_false]at hk;exact ⟨ds',F',C',g,ha',hw',hk⟩
 |_=>exact ⟨ds',F',C',g,ha',hw',hk⟩
theorem bC{c:Operand}{x y:Code}{b:Bool}(hc:evF F c=some (.bool b))(ht:b=true->X P G ro N ds x F C K)(hf:b=false->X P G ro N ds y F C K):X P G ro N ds (.cond c x y) F C K:=λhS a w ha hw=>
 wpIn_cond_split (ha.ev hc) (λh=>ht h hS a w ha hw) (λh=>hf h hS a w ha hw)
theorem aP{c:Operand}{x y:Code}(hc:evF F c=some (.bool true))(h:X P G ro N ds x F C K):X P G ro N ds (.cond c x y) F C K:=bC hc (λ_=>h) (λh=>by cases h)
theorem aC{c:Operand}{x y:Code}(hc:evF F c=some (.bool false))(h:X P G ro N ds y F C K):X P G ro N ds (.cond c x y) F C K:=bC hc (λh=>by cases h) (λ_=>h)
theorem bF{id:Nat}{l:List Oper}{E:Oper->Bool}(h:Lx P G ro l.toArray N ds E (K .normal ds) l F C):X P G ro N ds (.region id l.toArray false) F C K:=λhS _ _ ha hw=>
 yu (λF' C' hS' hk _ _ ha' hw'=>⟨ds,F',C',hS',ha',hw',hk⟩) h hS ha hw
theorem Gm{id:Nat}{l:List Oper}{E:Oper->Bool}(σ:List Nat)(hm:P.follows .mixedOrders=true)(hlen:σ.length=l.length)(hsel:Region.noSelect l.toArray=true)(hdef:db l.toArray=true)
 (hok:eQ .any l.toArray E σ (Array.replicate l.toArray.size false)=true) (h:Lx P G ro l.toArray N ds E (K .normal ds) (σ.filterMap (l.toArray[·]?)) F C):X P G ro N ds (.region id l.toArray true) F C K:=λhS _ _ ha hw=>
 Cl σ hm hlen hsel hdef hok (λF' C' hS' hk _ _ ha' hw'=>⟨ds,F',C',hS',ha',hw',hk⟩) h hS ha hw
theorem Ak{id:Nat}{l:List Oper}{E:Oper->Bool}(hm:P.follows .mixedOrders=true)(hsel:Region.noSelect l.toArray=true)(hdef:db l.toArray=true)
 (hok:eQ .any l.toArray E (List.range l.length) (Array.replicate l.toArray.size false)=true) (h:Lx P G ro l.toArray N ds E (K .normal ds) l F C):X P G ro N ds (.region id l.toArray true) F C K:=by
 refine Gm (List.range l.length) hm sm hsel hdef hok ?_;have:(List.range l.length).filterMap (l.toArray[·]?)=l:=by
  simp only[List.getElem?_toArray];apply List.ext_getElem?;intro i;clear h hok hdef hsel
  induction l generalizing i with
  |nil=>simp
  |cons x xs ih=>
   rw[List.length_cons,List.range_succ_eq_map];simp only[List.filterMap_cons,List.getElem?_cons_zero,List.filterMap_map]
   cases i with
   |zero=>rfl
   |succ i=>
    simp only[List.getElem?_cons_succ];exact ih i
 rw[this];exact h
theorem ac{id:Nat}{l:List Oper}{E:Oper->Bool}{y:Code}(h:Lx P G ro l.toArray N ds E (λF' C'=>X P G ro N ds y F' C' K) l F C):X P G ro N ds (.seq (.region id l.toArray false) y) F C K:=ae (bF h)
theorem De{id:Nat}{l:List Oper}{E:Oper->Bool}{y:Code}(hm:P.follows .mixedOrders=true)(hsel:Region.noSelect l.toArray=true)(hdef:db l.toArray=true)
 (hok:eQ .any l.toArray E (List.range l.length) (Array.replicate l.toArray.size false)=true) (h:Lx P G ro l.toArray N ds E (λF' C'=>X P G ro N ds y F' C' K) l F C):X P G ro N ds (.seq (.region id l.toArray true) y) F C K:=ae (Ak hm hsel hdef hok h)
/-! ### A loop: a family of states, with a measure -/
def ry(G:Cls)(N:Nat)(ds:List Deferred){ι:Type}(Fm:ι->Fr)(Cm:ι->Cls)(i:ι)(a:Act)(w:World):Prop:=dJ G (Cm i)/\Has N ds (Fm i) a/\Cm i w
theorem uC(p:Nat->Prop)(h: ∃n,p n): ∃n,p n/\∀m,p m->n<=m:=by
 obtain ⟨n,hn⟩:=h
 induction n using Nat.strongRecOn with
 |_ n ih=>
  by_cases h: ∃k,k<n/\p k
  ·obtain ⟨k,hk,hp⟩:=h
   exact ih k hk hp
  ·exact ⟨n,hn,λm hm=>Nat.le_of_not_lt λhlt=>h ⟨m,hlt,hm⟩⟩
theorem EN{c:Code}{ι:Type}(Fm:ι->Fr)(Cm:ι->Cls)(m:ι->Nat)(i0:ι)(h0:dJ G C->dJ G (Cm i0))(hF: ∀a,Has N ds F a->Has N ds (Fm i0) a)(hC: ∀w,C w->Cm i0 w)
 (hr: ∀i,X P G ro N ds c (Fm i) (Cm i) (rp (λds' F' C'=>ds'=ds/\∃j,m j<m i/\(dJ G C'->dJ G (Cm j))/\(∀a,Has N ds F' a->Has N ds (Fm j) a)/\∀w,C' w->Cm j w) K)):X P G ro N ds (.loop c) F C K:=λhS a w ha hw=>by
 have hl: ∀a w,∃n,(∃i,ry G N ds Fm Cm i a w)->(∃i,ry G N ds Fm Cm i a w/\m i=n)/\∀i,ry G N ds Fm Cm i a w->n<=m i:=λa w=>by
  by_cases h: ∃i,ry G N ds Fm Cm i a w
  ·obtain ⟨n,⟨i,hi,hn⟩,hmin⟩:=uC (λn=> ∃i,ry G N ds Fm Cm i a w/\m i=n) (by obtain ⟨i,hi⟩:=h;exact ⟨m i,i,hi,rfl⟩)
   exact ⟨n,λ_=>⟨⟨i,hi,hn⟩,λj hj=>hmin (m j) ⟨j,hj,rfl⟩⟩⟩
  ·exact ⟨0,λh'=>absurd h' h⟩
 let μ:Act->World->Nat:=λa w=>Classical.choose (hl a w)
 have hμ: ∀i a w,ry G N ds Fm Cm i a w->μ a w<=m i:=λi a w hf=>(Classical.choose_spec (hl a w) ⟨i,hf⟩).2 i hf;have hμ': ∀a w,(∃i,ry G N ds Fm Cm i a w)->∃i,ry G N ds Fm Cm i a w/\m i=μ a w:=λa w h=>(Classical.choose_spec (hl a w) h).1;refine wpIn_loop (λa w=> ∃i,ry G N ds Fm Cm i a w) μ ⟨i0,h0 hS,hF a ha,hC w hw⟩ λa w hI=> ?_;obtain ⟨i,⟨g,ha,hw⟩,hm⟩:=hμ' a w hI;refine wpIn_mono (hr i g a w ha hw) λe a' w' ⟨ds',F',C',g',ha',hw',hk⟩=> ?_
 cases e with
 |normal=>
  obtain ⟨rfl,j,hj,hg,hFj,hCj⟩:=hk;have hf:ry G N ds' Fm Cm j a' w':=⟨hg g',hFj a' ha',hCj w' hw'⟩;exact ⟨⟨j,hf⟩,Nat.lt_of_le_of_lt (hμ j a' w' hf) om⟩
 |_=>exact ⟨ds',F',C',g',ha',hw',hk⟩
/-! ### A function -/
def lW(P:Program)(fn:Func)(R:Ending->World->Prop):KK
 | .normal,ds,F,C| .ret,ds,F,C=>ds=[]/\∀a w,Has fn.ntmps ds F a->C w->∃v,(results fn a.tmps).run P w=.ok v w/\R (.returned v) w
 |_,_,_,_=>False
def kl:Nat->List Value->Fr
 |_,[]=>[]
 |k,v::r=>(k,v)::kl (k+1) r
theorem uS: ∀(l:List Value) (k t:Nat) (v:Value),lk (kl k l) t=some v->k<=t/\l[t-k]? =some v
 |[],_,_,_,h=>by cases h
 |x::r,k,t,v,h=>by
  unfold kl lk at h
  cases hb:Nat.beq k t with
  |true=>
   rw[hb]at h
   cases Nat.eq_of_beq_eq_true hb
   simp only[cond_true,Option.some.injEq]at h;subst h;simp
  |false=>
   rw[hb]at h;obtain ⟨h1,h2⟩:=uS r (k+1) t v h;refine ⟨om, ?_⟩;rw[show t-k=(t-(k+1))+1 from by omega]
   simpa using h2
theorem wd(args:List Value)(n:Nat)(hn:args.length<=n):Has n [] (kl 0 args) {tmps:=args.toArray++Array.replicate (n-args.toArray.size) undef,defers:=[]}:=by
 refine ⟨by simp;omega,rfl,λt v h=> ?_⟩
 obtain ⟨_,h2⟩:=uS args 0 t v h;simp only[Nat.sub_zero]at h2;have:t<args.length:=by
  rcases Nat.lt_or_ge t args.length with h'|h'
  ·exact h'
  ·rw[List.getElem?_eq_none h']at h2;cases h2
 rw[Array.getElem?_append_left (by simpa using this)]
 simpa using h2
theorem cu{f:FuncId}{fn:Func}{c:Code}{args:List Value}{w:World}{R:Ending->World->Prop}(hf:P.funcs[f]? =some fn)(hb:fn.body=some c)(hn:Nat.ble args.length fn.ntmps=true)
 (C0:Cls) (hC:C0 w) (hG:dJ G C0) (h:X P G none fn.ntmps [] c (kl 0 args) C0 (lW P fn R)):Calls P f args.toArray w R:=by
 refine (callsIn_wide (n:=0)).1 (callsIn_of_wp hf hb trivial ?_);refine wpIn_mono (h hG _ w (wd args _ (Nat.le_of_ble_eq_true hn)) hC) λe a' w' ⟨ds',F',C',g',ha',hw',hk⟩=> ?_
 cases e with
 |normal=>obtain ⟨rfl,hk⟩:=hk;exact ⟨ha'.defers,hk a' w' ha' hw'⟩
 |ret=>obtain ⟨rfl,hk⟩:=hk;exact ⟨ha'.defers,hk a' w' ha' hw'⟩
 |_=>exact hk.elim
end
end
section
open Go.RowKit
/-! ### Arithmetic on the typed numbers -/
section
variable {P:Program} {w:World}
theorem hO(k:IntKind)(hk:k.signed=false)(n:Nat):k.wrap (n:Int)=((n % 2^k.bits:Nat):Int):=by
 simp[IntKind.wrap,hk]
theorem Ir(k:IntKind)(hk:k.signed=false)(n:Nat)(h:n<2^k.bits):k.wrap (n:Int)=(n:Int):=by
 rw[hO k hk,Nat.mod_eq_of_lt h]
theorem gI(k:IntKind)(hk:k.signed=false)(x:BitVec k.bits):k.wrap (x.toNat:Int)=(x.toNat:Int):=Ir k hk _ x.isLt
theorem cb{w:Nat}(x:BitVec w):BitVec.ofInt w (x.toNat:Int)=x:=by
 rw[BitVec.ofInt_natCast,BitVec.ofNat_toNat];simp
theorem qd(k:IntKind)(hk:k.signed=false)(a b:BitVec k.bits):k.wrap ((a.toNat:Int)-(b.toNat:Int))=((a-b).toNat:Int):=by
 simp only[IntKind.wrap,hk,Bool.false_and];rw[if_neg sm,BitVec.toNat_sub];have hb:=b.isLt;have:((2^k.bits-b.toNat+a.toNat:Nat):Int)=(a.toNat:Int)-b.toNat+2^k.bits:=by
  have h2:((2^k.bits-b.toNat:Nat):Int)=(2:Int)^k.bits-b.toNat:=by
   rw[Int.ofNat_sub om];simp
  rw[Int.natCast_add,h2];omega
 rw[Int.natCast_emod,this];simp
theorem xA(t:TypeId)(a b:BitVec 8):(binOp .add t (U8 a) (U8 b)).run P w=.ok (U8 (a+b)) w:=by
 have h:=hO .u8 O (a.toNat+b.toNat);simp only[Int.natCast_add]at h;simp only[binOp,U8,Op.intArith];simp[h,BitVec.toNat_add,IntKind.bits]
theorem qV(t:TypeId)(a b:BitVec 8):(binOp .sub t (U8 a) (U8 b)).run P w=.ok (U8 (a-b)) w:=by
 show Result.ok (Value.int .u8 (IntKind.wrap .u8 ((a.toNat:Int)-(b.toNat:Int)))) w=_;rw[show IntKind.wrap .u8 ((a.toNat:Int)-(b.toNat:Int))=((a-b).toNat:Int)from qd .u8 O a b];rfl
theorem cy(t:TypeId)(a b:BitVec 8):(binOp .and t (U8 a) (U8 b)).run P w=.ok (U8 (a &&& b)) w:=by
 have h:IntKind.wrap .u8 ((a &&& b:BitVec 8).toNat:Int)=((a &&& b:BitVec 8).toNat:Int):=gI .u8 O (a &&& b);show Result.ok (Value.int .u8 (IntKind.wrap .u8 ((BitVec.ofInt 8 (a.toNat:Int) &&& BitVec.ofInt 8 (b.toNat:Int)).toNat:Int))) w=_;rw[cb a,cb b,h];rfl
theorem gz(t:TypeId)(a b:BitVec 8):(binOp .or t (U8 a) (U8 b)).run P w=.ok (U8 (a|||b)) w:=by
 have h:IntKind.wrap .u8 ((a|||b:BitVec 8).toNat:Int)=((a|||b:BitVec 8).toNat:Int):=gI .u8 O (a|||b);show Result.ok (Value.int .u8 (IntKind.wrap .u8 ((BitVec.ofInt 8 (a.toNat:Int)|||BitVec.ofInt 8 (b.toNat:Int)).toNat:Int))) w=_;rw[cb a,cb b,h];rfl
theorem qO(t:TypeId)(a b:BitVec 8):(binOp .xor t (U8 a) (U8 b)).run P w=.ok (U8 (a^^^b)) w:=by
 have h:IntKind.wrap .u8 ((a^^^b:BitVec 8).toNat:Int)=((a^^^b:BitVec 8).toNat:Int):=gI .u8 O (a^^^b);show Result.ok (Value.int .u8 (IntKind.wrap .u8 ((BitVec.ofInt 8 (a.toNat:Int)^^^BitVec.ofInt 8 (b.toNat:Int)).toNat:Int))) w=_;rw[cb a,cb b,h];rfl
theorem rh(t:TypeId)(a b:BitVec 8):(binOp .andNot t (U8 a) (U8 b)).run P w=.ok (U8 (a &&& ~~~b)) w:=by
 have h:IntKind.wrap .u8 ((a &&& ~~~b:BitVec 8).toNat:Int)=((a &&& ~~~b:BitVec 8).toNat:Int):=gI .u8 O (a &&& ~~~b);show Result.ok (Value.int .u8 (IntKind.wrap .u8 ((BitVec.ofInt 8 (a.toNat:Int) &&& ~~~BitVec.ofInt 8 (b.toNat:Int)).toNat:Int))) w=_;rw[cb a,cb b,h];rfl
theorem OS(a:BitVec 8)(yk:IntKind)(s:Nat):(Op.shift .shl .u8 (a.toNat:Int) yk (s:Int)).run P w=.ok (U8 (a<<<s)) w:=by
 have h:IntKind.wrap .u8 ((a.toNat:Int)*2^(min s 8))=((a<<<s).toNat:Int):=by
  have h:=hO .u8 O (a.toNat*2^(min s 8));simp only[Int.natCast_mul,Int.natCast_pow]at h;refine (show IntKind.wrap .u8 ((a.toNat:Int)*2^(min s 8))=_ from h).trans ?_;rw[BitVec.toNat_shiftLeft,Nat.shiftLeft_eq];congr 1;show a.toNat*2^(min s 8) % 2^8=_;rcases Nat.le_total s 8 with h1|h1
  ·rw[Nat.min_eq_left h1]
  ·rw[Nat.min_eq_right h1,Nat.mul_mod_left,show s=8+(s-8)from by omega,Nat.pow_add,<-Nat.mul_assoc,Nat.mul_right_comm,Nat.mul_mod_left]
 show (if (s:Int)<0 then _ else _:Sem Value).run P w=_
 rw[if_neg om];show Result.ok (Value.int .u8 (IntKind.wrap .u8 ((a.toNat:Int)*2^(min (s:Int).toNat 8)))) w=_;rw[Int.toNat_natCast,h];rfl
theorem HI(a:BitVec 8)(yk:IntKind)(s:Nat):(Op.shift .shr .u8 (a.toNat:Int) yk (s:Int)).run P w=.ok (U8 (a>>>s)) w:=by
 have h:(a.toNat:Int).fdiv (2^(min s 8))=((a>>>s).toNat:Int):=by
  rw[BitVec.toNat_ushiftRight,Nat.shiftRight_eq_div_pow];have h1:(a.toNat:Int).fdiv (2^(min s 8))=((a.toNat / 2^(min s 8):Nat):Int):=by
   rw[Int.fdiv_eq_ediv_of_nonneg _ (by have:=Nat.two_pow_pos (min s 8);exact Int.le_of_lt (by exact_mod_cast this))]
   simp
  rw[h1];congr 1;rcases Nat.le_total s 8 with h2|h2
  ·rw[Nat.min_eq_left h2]
  ·rw[Nat.min_eq_right h2,Nat.div_eq_of_lt a.isLt,Nat.div_eq_of_lt (Nat.lt_of_lt_of_le a.isLt (Nat.pow_le_pow_right om h2))]
 show (if (s:Int)<0 then _ else _:Sem Value).run P w=_
 rw[if_neg om];show Result.ok (Value.int .u8 ((a.toNat:Int).fdiv (2^(min (s:Int).toNat 8)))) w=_;rw[Int.toNat_natCast,h];rfl
theorem xl(t:TypeId)(a:BitVec 8)(s:BitVec 64):(binOp .shl t (U8 a) (U64 s)).run P w=.ok (U8 (a<<<s.toNat)) w:=OS a .u64 s.toNat
theorem wW(t:TypeId)(a:BitVec 8)(s:BitVec 64):(binOp .shr t (U8 a) (U64 s)).run P w=.ok (U8 (a>>>s.toNat)) w:=HI a .u64 s.toNat
theorem fk(t:TypeId)(a:BitVec 8)(s:Int)(hs:0<=s):(binOp .shr t (U8 a) (I s)).run P w=.ok (U8 (a>>>s.toNat)) w:=by
 obtain ⟨m,rfl⟩:=Int.eq_ofNat_of_zero_le hs;exact HI a .i64 m
theorem yW(t:TypeId)(a b:BitVec 8)(hb:b≠0):(binOp .rem t (U8 a) (U8 b)).run P w=.ok (U8 (a % b)) w:=by
 have hb': ¬((b.toNat:Int)=0):=λh=>hb (BitVec.eq_of_toNat_eq (by simpa using h))
 show (Op.intDiv .rem .u8 _ _).run P w=_;simp only[Op.intDiv,if_neg hb',Sem.run_pure];rw[show ((a.toNat:Int).tmod (b.toNat:Int))=((a % b).toNat:Int)from by rw[BitVec.toNat_umod,Int.ofNat_tmod]];rfl
theorem cR(t:TypeId)(a b:BitVec 8):(binOp .eql t (U8 a) (U8 b)).run P w=.ok (.bool (a==b)) w:=by
 show (Op.intCmp .eql _ _).run P w=_;simp only[Op.intCmp,Sem.run_pure];congr 2;rw[Bool.eq_iff_iff];simp only[beq_iff_eq];exact ⟨λh=>BitVec.eq_of_toNat_eq om,λh=>by rw[h]⟩
theorem di(t:TypeId)(a b:BitVec 8):(binOp .neq t (U8 a) (U8 b)).run P w=.ok (.bool (a !=b)) w:=by
 show (Op.intCmp .neq _ _).run P w=_;simp only[Op.intCmp,Sem.run_pure];congr 2;rw[Bool.eq_iff_iff];simp only[bne_iff_ne,ne_eq];exact ⟨λh e=>h (by rw[e]),λh e=>h (BitVec.eq_of_toNat_eq om)⟩
theorem o9(t:TypeId)(a b:BitVec 8):(binOp .geq t (U8 a) (U8 b)).run P w=.ok (.bool (decide (b<=a))) w:=by
 show (Op.intCmp .geq _ _).run P w=_;simp only[Op.intCmp,Sem.run_pure];congr 2;rw[Bool.eq_iff_iff];simp only[decide_eq_true_eq,BitVec.le_def];omega
theorem be(t:TypeId)(a b:BitVec 32):(binOp .add t (U32 a) (U32 b)).run P w=.ok (U32 (a+b)) w:=by
 have h:=hO .u32 O (a.toNat+b.toNat);simp only[Int.natCast_add]at h;simp only[binOp,U32,Op.intArith];simp[h,BitVec.toNat_add,IntKind.bits]
theorem dq(t:TypeId)(a b:BitVec 32):(binOp .and t (U32 a) (U32 b)).run P w=.ok (U32 (a &&& b)) w:=by
 have h:IntKind.wrap .u32 ((a &&& b:BitVec 32).toNat:Int)=((a &&& b:BitVec 32).toNat:Int):=gI .u32 O (a &&& b);show Result.ok (Value.int .u32 (IntKind.wrap .u32 ((BitVec.ofInt 32 (a.toNat:Int) &&& BitVec.ofInt 32 (b.toNat:Int)).toNat:Int))) w=_;rw[cb a,cb b,h];rfl
theorem gF(t:TypeId)(a b:BitVec 32):(binOp .or t (U32 a) (U32 b)).run P w=.ok (U32 (a|||b)) w:=by
 have h:IntKind.wrap .u32 ((a|||b:BitVec 32).toNat:Int)=((a|||b:BitVec 32).toNat:Int):=gI .u32 O (a|||b);show Result.ok (Value.int .u32 (IntKind.wrap .u32 ((BitVec.ofInt 32 (a.toNat:Int)|||BitVec.ofInt 32 (b.toNat:Int)).toNat:Int))) w=_;rw[cb a,cb b,h];rfl
theorem bL(t:TypeId)(a b:BitVec 32):(binOp .xor t (U32 a) (U32 b)).run P w=.ok (U32 (a^^^b)) w:=by
 have h:IntKind.wrap .u32 ((a^^^b:BitVec 32).toNat:Int)=((a^^^b:BitVec 32).toNat:Int):=gI .u32 O (a^^^b);show Result.ok (Value.int .u32 (IntKind.wrap .u32 ((BitVec.ofInt 32 (a.toNat:Int)^^^BitVec.ofInt 32 (b.toNat:Int)).toNat:Int))) w=_;rw[cb a,cb b,h];rfl
theorem pG(a:BitVec 32):(Op.unary .xor (U32 a)).run P w=.ok (U32 (~~~a)) w:=by
 have h:IntKind.wrap .u32 ((~~~a:BitVec 32).toNat:Int)=((~~~a:BitVec 32).toNat:Int):=gI .u32 O (~~~a);show Result.ok (Value.int .u32 (IntKind.wrap .u32 ((BitVec.ofInt 32 (if IntKind.signed .u32 then-1 else IntKind.max .u32)^^^BitVec.ofInt 32 (a.toNat:Int)).toNat:Int))) w=_
 rw[cb a,show BitVec.ofInt 32 (if IntKind.signed .u32 then-1 else IntKind.max .u32)=BitVec.allOnes 32 from by decide,BitVec.allOnes_xor,h];rfl
theorem AZ(a:BitVec 32)(yk:IntKind)(s:Nat):(Op.shift .shl .u32 (a.toNat:Int) yk (s:Int)).run P w=.ok (U32 (a<<<s)) w:=by
 have h:IntKind.wrap .u32 ((a.toNat:Int)*2^(min s 32))=((a<<<s).toNat:Int):=by
  have h:=hO .u32 O (a.toNat*2^(min s 32));simp only[Int.natCast_mul,Int.natCast_pow]at h;refine (show IntKind.wrap .u32 ((a.toNat:Int)*2^(min s 32))=_ from h).trans ?_;rw[BitVec.toNat_shiftLeft,Nat.shiftLeft_eq];congr 1;show a.toNat*2^(min s 32) % 2^32=_;rcases Nat.le_total s 32 with h1|h1
  ·rw[Nat.min_eq_left h1]
  ·rw[Nat.min_eq_right h1,Nat.mul_mod_left,show s=32+(s-32)from by omega,Nat.pow_add,<-Nat.mul_assoc,Nat.mul_right_comm,Nat.mul_mod_left]
 show (if (s:Int)<0 then _ else _:Sem Value).run P w=_
 rw[if_neg om];show Result.ok (Value.int .u32 (IntKind.wrap .u32 ((a.toNat:Int)*2^(min (s:Int).toNat 32)))) w=_;rw[Int.toNat_natCast,h];rfl
theorem An(a:BitVec 32)(yk:IntKind)(s:Nat):(Op.shift .shr .u32 (a.toNat:Int) yk (s:Int)).run P w=.ok (U32 (a>>>s)) w:=by
 have h:(a.toNat:Int).fdiv (2^(min s 32))=((a>>>s).toNat:Int):=by
  rw[BitVec.toNat_ushiftRight,Nat.shiftRight_eq_div_pow];have h1:(a.toNat:Int).fdiv (2^(min s 32))=((a.toNat / 2^(min s 32):Nat):Int):=by
   rw[Int.fdiv_eq_ediv_of_nonneg _ (by have:=Nat.two_pow_pos (min s 32);exact Int.le_of_lt (by exact_mod_cast this))]
   simp
  rw[h1];congr 1;rcases Nat.le_total s 32 with h2|h2
  ·rw[Nat.min_eq_left h2]
  ·rw[Nat.min_eq_right h2,Nat.div_eq_of_lt a.isLt,Nat.div_eq_of_lt (Nat.lt_of_lt_of_le a.isLt (Nat.pow_le_pow_right om h2))]
 show (if (s:Int)<0 then _ else _:Sem Value).run P w=_
 rw[if_neg om];show Result.ok (Value.int .u32 ((a.toNat:Int).fdiv (2^(min (s:Int).toNat 32)))) w=_;rw[Int.toNat_natCast,h];rfl
theorem gW(t:TypeId)(a:BitVec 32)(s:BitVec 64):(binOp .shl t (U32 a) (U64 s)).run P w=.ok (U32 (a<<<s.toNat)) w:=AZ a .u64 s.toNat
theorem ee(t:TypeId)(a:BitVec 32)(s:BitVec 64):(binOp .shr t (U32 a) (U64 s)).run P w=.ok (U32 (a>>>s.toNat)) w:=An a .u64 s.toNat
theorem rx(t:TypeId)(a:BitVec 32)(s:Int)(hs:0<=s):(binOp .shl t (U32 a) (I s)).run P w=.ok (U32 (a<<<s.toNat)) w:=by
 obtain ⟨m,rfl⟩:=Int.eq_ofNat_of_zero_le hs;exact AZ a .i64 m
theorem lw(t:TypeId)(a:BitVec 32)(s:Int)(hs:0<=s):(binOp .shr t (U32 a) (I s)).run P w=.ok (U32 (a>>>s.toNat)) w:=by
 obtain ⟨m,rfl⟩:=Int.eq_ofNat_of_zero_le hs;exact An a .i64 m
theorem a8(t:TypeId)(a b:BitVec 64):(binOp .add t (U64 a) (U64 b)).run P w=.ok (U64 (a+b)) w:=by
 have h:=hO .u64 O (a.toNat+b.toNat);simp only[Int.natCast_add]at h;simp only[binOp,U64,Op.intArith];simp[h,BitVec.toNat_add,IntKind.bits]
theorem gR(t:TypeId)(a b:BitVec 64):(binOp .sub t (U64 a) (U64 b)).run P w=.ok (U64 (a-b)) w:=by
 show Result.ok (Value.int .u64 (IntKind.wrap .u64 ((a.toNat:Int)-(b.toNat:Int)))) w=_;rw[show IntKind.wrap .u64 ((a.toNat:Int)-(b.toNat:Int))=((a-b).toNat:Int)from qd .u64 O a b];rfl
theorem cv(t:TypeId)(a b:BitVec 64):(binOp .mul t (U64 a) (U64 b)).run P w=.ok (U64 (a*b)) w:=by
 have h:=hO .u64 O (a.toNat*b.toNat);simp only[Int.natCast_mul]at h;simp only[binOp,U64,Op.intArith];simp[h,BitVec.toNat_mul,IntKind.bits]
theorem d9(t:TypeId)(a b:BitVec 64):(binOp .and t (U64 a) (U64 b)).run P w=.ok (U64 (a &&& b)) w:=by
 have h:IntKind.wrap .u64 ((a &&& b:BitVec 64).toNat:Int)=((a &&& b:BitVec 64).toNat:Int):=gI .u64 O (a &&& b);show Result.ok (Value.int .u64 (IntKind.wrap .u64 ((BitVec.ofInt 64 (a.toNat:Int) &&& BitVec.ofInt 64 (b.toNat:Int)).toNat:Int))) w=_;rw[cb a,cb b,h];rfl
theorem eK(t:TypeId)(a b:BitVec 64):(binOp .or t (U64 a) (U64 b)).run P w=.ok (U64 (a|||b)) w:=by
 have h:IntKind.wrap .u64 ((a|||b:BitVec 64).toNat:Int)=((a|||b:BitVec 64).toNat:Int):=gI .u64 O (a|||b);show Result.ok (Value.int .u64 (IntKind.wrap .u64 ((BitVec.ofInt 64 (a.toNat:Int)|||BitVec.ofInt 64 (b.toNat:Int)).toNat:Int))) w=_;rw[cb a,cb b,h];rfl
theorem At(a:BitVec 64)(yk:IntKind)(s:Nat):(Op.shift .shl .u64 (a.toNat:Int) yk (s:Int)).run P w=.ok (U64 (a<<<s)) w:=by
 have h:IntKind.wrap .u64 ((a.toNat:Int)*2^(min s 64))=((a<<<s).toNat:Int):=by
  have h:=hO .u64 O (a.toNat*2^(min s 64));simp only[Int.natCast_mul,Int.natCast_pow]at h;refine (show IntKind.wrap .u64 ((a.toNat:Int)*2^(min s 64))=_ from h).trans ?_;rw[BitVec.toNat_shiftLeft,Nat.shiftLeft_eq];congr 1;show a.toNat*2^(min s 64) % 2^64=_;rcases Nat.le_total s 64 with h1|h1
  ·rw[Nat.min_eq_left h1]
  ·rw[Nat.min_eq_right h1,Nat.mul_mod_left,show s=64+(s-64)from by omega,Nat.pow_add,<-Nat.mul_assoc,Nat.mul_right_comm,Nat.mul_mod_left]
 show (if (s:Int)<0 then _ else _:Sem Value).run P w=_
 rw[if_neg om];show Result.ok (Value.int .u64 (IntKind.wrap .u64 ((a.toNat:Int)*2^(min (s:Int).toNat 64)))) w=_;rw[Int.toNat_natCast,h];rfl
theorem Ao(a:BitVec 64)(yk:IntKind)(s:Nat):(Op.shift .shr .u64 (a.toNat:Int) yk (s:Int)).run P w=.ok (U64 (a>>>s)) w:=by
 have h:(a.toNat:Int).fdiv (2^(min s 64))=((a>>>s).toNat:Int):=by
  rw[BitVec.toNat_ushiftRight,Nat.shiftRight_eq_div_pow];have h1:(a.toNat:Int).fdiv (2^(min s 64))=((a.toNat / 2^(min s 64):Nat):Int):=by
   rw[Int.fdiv_eq_ediv_of_nonneg _ (by have:=Nat.two_pow_pos (min s 64);exact Int.le_of_lt (by exact_mod_cast this))]
   simp
  rw[h1];congr 1;rcases Nat.le_total s 64 with h2|h2
  ·rw[Nat.min_eq_left h2]
  ·rw[Nat.min_eq_right h2,Nat.div_eq_of_lt a.isLt,Nat.div_eq_of_lt (Nat.lt_of_lt_of_le a.isLt (Nat.pow_le_pow_right om h2))]
 show (if (s:Int)<0 then _ else _:Sem Value).run P w=_
 rw[if_neg om];show Result.ok (Value.int .u64 ((a.toNat:Int).fdiv (2^(min (s:Int).toNat 64)))) w=_;rw[Int.toNat_natCast,h];rfl
theorem gZ(t:TypeId)(a:BitVec 64)(s:BitVec 64):(binOp .shl t (U64 a) (U64 s)).run P w=.ok (U64 (a<<<s.toNat)) w:=At a .u64 s.toNat
theorem cC(t:TypeId)(a:BitVec 64)(s:BitVec 64):(binOp .shr t (U64 a) (U64 s)).run P w=.ok (U64 (a>>>s.toNat)) w:=Ao a .u64 s.toNat
theorem lu(t:TypeId)(a:BitVec 64)(s:Int)(hs:0<=s):(binOp .shl t (U64 a) (I s)).run P w=.ok (U64 (a<<<s.toNat)) w:=by
 obtain ⟨m,rfl⟩:=Int.eq_ofNat_of_zero_le hs;exact At a .i64 m
theorem da(t:TypeId)(a:BitVec 64)(s:Int)(hs:0<=s):(binOp .shr t (U64 a) (I s)).run P w=.ok (U64 (a>>>s.toNat)) w:=by
 obtain ⟨m,rfl⟩:=Int.eq_ofNat_of_zero_le hs;exact Ao a .i64 m
theorem eU(t:TypeId)(a b:BitVec 64)(hb:b≠0):(binOp .rem t (U64 a) (U64 b)).run P w=.ok (U64 (a % b)) w:=by
 have hb': ¬((b.toNat:Int)=0):=λh=>hb (BitVec.eq_of_toNat_eq (by simpa using h))
 show (Op.intDiv .rem .u64 _ _).run P w=_;simp only[Op.intDiv,if_neg hb',Sem.run_pure];rw[show ((a.toNat:Int).tmod (b.toNat:Int))=((a % b).toNat:Int)from by rw[BitVec.toNat_umod,Int.ofNat_tmod]];rfl
theorem bj(t:TypeId)(a b:BitVec 64):(binOp .eql t (U64 a) (U64 b)).run P w=.ok (.bool (a==b)) w:=by
 show (Op.intCmp .eql _ _).run P w=_;simp only[Op.intCmp,Sem.run_pure];congr 2;rw[Bool.eq_iff_iff];simp only[beq_iff_eq];exact ⟨λh=>BitVec.eq_of_toNat_eq om,λh=>by rw[h]⟩
theorem nL(t:TypeId)(a b:BitVec 64):(binOp .lss t (U64 a) (U64 b)).run P w=.ok (.bool (decide (a<b))) w:=by
 show (Op.intCmp .lss _ _).run P w=_;simp only[Op.intCmp,Sem.run_pure];congr 2;rw[Bool.eq_iff_iff];simp only[decide_eq_true_eq,BitVec.lt_def];omega
theorem iW(t:TypeId)(a b:BitVec 64):(binOp .gtr t (U64 a) (U64 b)).run P w=.ok (.bool (decide (b<a))) w:=by
 show (Op.intCmp .gtr _ _).run P w=_;simp only[Op.intCmp,Sem.run_pure];congr 2;rw[Bool.eq_iff_iff];simp only[decide_eq_true_eq,BitVec.lt_def];omega
theorem fR(t:TypeId)(a b:BitVec 64):(binOp .geq t (U64 a) (U64 b)).run P w=.ok (.bool (decide (b<=a))) w:=by
 show (Op.intCmp .geq _ _).run P w=_;simp only[Op.intCmp,Sem.run_pure];congr 2;rw[Bool.eq_iff_iff];simp only[decide_eq_true_eq,BitVec.le_def];omega
def inI(n:Int):Prop:= -9223372036854775808<=n/\n<=9223372036854775807
theorem oi{P:Prop}(h:P:=by unfold inI;omega):P:=h
theorem jl(n:Int)(h:inI n):IntKind.wrap .i64 n=n:=by
 unfold inI at h;simp only[IntKind.wrap,IntKind.signed,IntKind.bits,Bool.true_and];split<;>rename_i h'<;>simp at h'<;>omega
theorem aq(t:TypeId)(a b:Int)(h:inI (a+b)):(binOp .add t (I a) (I b)).run P w=.ok (I (a+b)) w:=by
 show (Op.intArith .add .i64 a b).run P w=_;simp only[Op.intArith,Sem.run_pure,jl _ h]
theorem aV(t:TypeId)(a b:Int)(h:inI (a-b)):(binOp .sub t (I a) (I b)).run P w=.ok (I (a-b)) w:=by
 show (Op.intArith .sub .i64 a b).run P w=_;simp only[Op.intArith,Sem.run_pure,jl _ h]
theorem bp(t:TypeId)(a b:Int)(h:inI (a*b)):(binOp .mul t (I a) (I b)).run P w=.ok (I (a*b)) w:=by
 show (Op.intArith .mul .i64 a b).run P w=_;simp only[Op.intArith,Sem.run_pure,jl _ h]
theorem fh(t:TypeId)(a b:Int)(hb:b≠0)(h:inI (a.tdiv b)):(binOp .quo t (I a) (I b)).run P w=.ok (I (a.tdiv b)) w:=by
 show (Op.intDiv .quo .i64 a b).run P w=_;simp only[Op.intDiv,if_neg hb,Sem.run_pure,jl _ h]
theorem cX(t:TypeId)(a b:Int)(hb:b≠0):(binOp .rem t (I a) (I b)).run P w=.ok (I (a.tmod b)) w:=by
 show (Op.intDiv .rem .i64 a b).run P w=_;simp only[Op.intDiv,if_neg hb,Sem.run_pure]
theorem dO(t:TypeId)(a b:Int):(binOp .eql t (I a) (I b)).run P w=.ok (.bool (a==b)) w:=rfl
theorem bz(t:TypeId)(a b:Int):(binOp .neq t (I a) (I b)).run P w=.ok (.bool (a !=b)) w:=rfl
theorem av(t:TypeId)(a b:Int):(binOp .lss t (I a) (I b)).run P w=.ok (.bool (decide (a<b))) w:=rfl
theorem a9(t:TypeId)(a b:Int):(binOp .gtr t (I a) (I b)).run P w=.ok (.bool (decide (a>b))) w:=rfl
theorem dh(t:TypeId)(a b:Int):(binOp .geq t (I a) (I b)).run P w=.ok (.bool (decide (a>=b))) w:=rfl
theorem uN(a:Int)(h:inI (0-a)):(Op.unary .neg (I a)).run P w=.ok (I (0-a)) w:=by
 show (Op.intArith .sub .i64 0 a).run P w=_;simp only[Op.intArith,Sem.run_pure,jl _ h]
theorem a5(b:Bool):(Op.unary .not (.bool b)).run P w=.ok (.bool !b) w:=rfl
end
/-! ### Conversions between numbers -/
section
variable {P:Program} {w:World}
theorem iI{s d:TypeId}{sd:TypeDesc}{k:IntKind}(hs:P.underlying s=some sd)(hd:P.underlying d=some (.int k))(j:IntKind)(n:Int):
 (convert s d (.int j n)).run P w=.ok (.int k (k.wrap n)) w:=by
 simp only[convert,Sem.run_bind,run_underlying hs,run_underlying hd,Result.andThen_ok];rfl
theorem gQ{s d:TypeId}{sd:TypeDesc}(hs:P.underlying s=some sd)(hd:P.underlying d=some (.int .u32))(x:BitVec 8):(convert s d (U8 x)).run P w=.ok (U32 (x.setWidth 32)) w:=by
 have h:=hO .u32 O x.toNat;rw[show (U8 x)=Value.int .u8 (x.toNat:Int)from O,iI hs hd,h,<-BitVec.toNat_setWidth];rfl
theorem kW{s d:TypeId}{sd:TypeDesc}(hs:P.underlying s=some sd)(hd:P.underlying d=some (.int .u64))(x:BitVec 8):(convert s d (U8 x)).run P w=.ok (U64 (x.setWidth 64)) w:=by
 have h:=hO .u64 O x.toNat;rw[show (U8 x)=Value.int .u8 (x.toNat:Int)from O,iI hs hd,h,<-BitVec.toNat_setWidth];rfl
theorem ff{s d:TypeId}{sd:TypeDesc}(hs:P.underlying s=some sd)(hd:P.underlying d=some (.int .u8))(x:Int):(convert s d (I x)).run P w=.ok (U8 (BitVec.ofInt 8 x)) w:=by
 rw[iI hs hd];have:IntKind.wrap .u8 x=((BitVec.ofInt 8 x).toNat:Int):=by
  simp only[IntKind.wrap,IntKind.signed,IntKind.bits,Bool.false_and];rw[if_neg sm,BitVec.toNat_ofInt,Int.toNat_of_nonneg (Int.emod_nonneg _ dc)];rfl
 rw[this];rfl
theorem gY{s d:TypeId}{sd:TypeDesc}(hs:P.underlying s=some sd)(hd:P.underlying d=some (.int .u8))(x:BitVec 32):(convert s d (U32 x)).run P w=.ok (U8 (x.setWidth 8)) w:=by
 have h:=hO .u8 O x.toNat;rw[show (U32 x)=Value.int .u32 (x.toNat:Int)from O,iI hs hd,h,<-BitVec.toNat_setWidth];rfl
theorem eJ{s d:TypeId}{sd:TypeDesc}(hs:P.underlying s=some sd)(hd:P.underlying d=some (.int .u8))(x:BitVec 64):(convert s d (U64 x)).run P w=.ok (U8 (x.setWidth 8)) w:=by
 have h:=hO .u8 O x.toNat;rw[show (U64 x)=Value.int .u64 (x.toNat:Int)from O,iI hs hd,h,<-BitVec.toNat_setWidth];rfl
theorem fO{s d:TypeId}{sd:TypeDesc}(hs:P.underlying s=some sd)(hd:P.underlying d=some (.int .u64))(x:Int):(convert s d (I x)).run P w=.ok (U64 (BitVec.ofInt 64 x)) w:=by
 rw[iI hs hd];have:IntKind.wrap .u64 x=((BitVec.ofInt 64 x).toNat:Int):=by
  simp only[IntKind.wrap,IntKind.signed,IntKind.bits,Bool.false_and];rw[if_neg sm,BitVec.toNat_ofInt,Int.toNat_of_nonneg (Int.emod_nonneg _ dc)];rfl
 rw[this];rfl
theorem BX{s d:TypeId}{sd:TypeDesc}(hs:P.underlying s=some sd)(hd:P.underlying d=some (.int .i64))(x:BitVec 8):(convert s d (U8 x)).run P w=.ok (I (x.toNat:Int)) w:=by
 have h:=x.isLt;rw[show (U8 x)=Value.int .u8 (x.toNat:Int)from O,iI hs hd,jl _ oi]
end
end
section
open Go.RowKit
def EE(fs:List Nat)(o:Oper):Bool:=
 match o.op with
 | .move _| .assign _| .pick .. | .build .. | .load .. | .nilCheck _| .binOp .. | .unOp .. | .makeFunc .. | .slice .. | .fieldAddr .. | .field .. | .indexAddr .. | .index .. | .extract .. | .sliceToArrayPointer .. | .makeInterface .. =>false
 | .call {callee:=.builtin .len, .. }| .call {callee:=.builtin .cap, .. }| .call {callee:=.builtin .min, .. }| .call {callee:=.builtin .max, .. }=>false
 | .call {callee:=.value (.func f), .. }=>fs.any (Nat.beq f)
 | .call {callee:=.invoke _ _, .. }=>fs.any (Nat.beq 3000001)
 | .call {callee:=.value (.tmp _), .. }=> !fs.any (Nat.beq 3000000)
 | .convert _ t _=>fs.any (Nat.beq (1000000+t))
 |_=>true
def evL(F:Fr):List Operand->Option (List Value)
 |[]=>some []
 |x::r=>match evF F x,evL F r with
  |some v,some vs=>some (v::vs)
  |_,_=>none
theorem Has.evL{N:Nat}{ds:List Deferred}{F:Fr}{a:Act}(h:Has N ds F a): ∀{l:List Operand} {vs:List Value},evL F l=some vs->l.map a.eval=vs
 |[],_,hv=>by simp[YtjookodjbjabbaaGreatDoor.evL]at hv;simp[<-hv]
 |x::r,vs,hv=>by
  unfold YtjookodjbjabbaaGreatDoor.evL at hv;split at hv
  ·rename_i v us h1 h2
   cases hv
   simp[h.ev h1,h.evL h2]
  ·cases hv
section
variable {P:Program} {G:Cls} {ro:Option Nat} {ops:Array Oper} {N:Nat} {ds:List Deferred} {fs:List Nat} {Z:Fr->Cls->Prop} {F:Fr} {C:Cls} {rest:List Oper}
variable {d:Nat} {ty:TypeId} {pos:String} {af:Array Edge} {gd:Option (Nat×Bool)}
theorem aa{E:Oper->Bool}(h:Z F C):Lx P G ro ops N ds E Z [] F C:=h
theorem cq{E:Oper->Bool}{o:Oper}{v:Value}(hE:E o=false)(hw:aT ops F o=some true)(hd:jx N o.dst=true)(hnd: ∀c,o.op≠ .defer c)
 (hv: ∀a w,Has N ds F a->ii G o C w->(execOp a.eval o).run P w=.ok (.value v) w) (h:Lx P G ro ops N ds E Z rest (putF o.dst v F) C):Lx P G ro ops N ds E Z (o::rest) F C:=by
 unfold Lx;rw[hE];refine ⟨v,⟨hd,λa ha=>.inl ⟨ha.want hw,λw hC=>.inl ?_⟩⟩,h⟩;rw[Oper.semAt_eq _ _ _ hnd];exact hv a w ha hC
theorem Ae{E:Oper->Bool}{o:Oper}(hE:E o=false)(hw:aT ops F o=some false)(hd:jx N o.dst=true)(h:Lx P G ro ops N ds E Z rest (putF o.dst undef F) C):Lx P G ro ops N ds E Z (o::rest) F C:=by
 unfold Lx;rw[hE];exact ⟨undef,⟨hd,λa ha=>.inr ⟨ha.want hw,rfl⟩⟩,h⟩
theorem vl{E:Oper->Bool}{o:Oper}{v:Value}(hE:E o=false)(hw:aT ops F o=some true)(hd:jx N o.dst=true)(hnd: ∀c,o.op≠ .defer c)
 (hv: ∀a w,Has N ds F a->ii G o C w->∃f args,(execOp a.eval o).run P w=.ok (.enter f args) w/\CallsIn (FW ro) 0 P f args w (λe w'=>e=.returned v/\Grow w w'))
 (h:Lx P G ro ops N ds E Z rest (putF o.dst v F) C):Lx P G ro ops N ds E Z (o::rest) F C:=by
 unfold Lx;rw[hE];refine ⟨v,⟨hd,λa ha=>.inl ⟨ha.want hw,λw hC=>.inr ?_⟩⟩,h⟩;rw[Oper.semAt_eq _ _ _ hnd];exact hv a w ha hC
theorem AG{x:Operand}{v:Value}(hx:evF F x=some v)(hw:aT ops F ⟨some d,.move x,ty,pos,af,gd⟩=some true)(hd:Nat.blt d N=true)
 (h:Lx P G ro ops N ds (EE fs) Z rest ((d,v)::F) C):Lx P G ro ops N ds (EE fs) Z (⟨some d,.move x,ty,pos,af,gd⟩::rest) F C:=
 cq (v:=v) O hw hd (λ_ h=>by cases h) (λa w ha _=>by simp only[execOp,ha.ev hx];rfl) h
theorem rK{x:Operand}{v:Value}(hx:evF F x=some v)(hw:aT ops F ⟨some d,.assign x,ty,pos,af,gd⟩=some true)(hd:Nat.blt d N=true)
 (h:Lx P G ro ops N ds (EE fs) Z rest ((d,v)::F) C):Lx P G ro ops N ds (EE fs) Z (⟨some d,.assign x,ty,pos,af,gd⟩::rest) F C:=
 cq (v:=v) O hw hd (λ_ h=>by cases h) (λa w ha _=>by simp only[execOp,ha.ev hx];rfl) h
theorem cr{op:BinOp}{t yt:TypeId}{x y:Operand}{vx vy v:Value}(hx:evF F x=some vx)(hy:evF F y=some vy)(hg: ∀w,(eqGuard op t x y vx vy).run P w=.ok () w)
 (hr: ∀w,(binOp op t vx vy).run P w=.ok v w) (hw:aT ops F ⟨some d,.binOp op t x y yt,ty,pos,af,gd⟩=some true) (hd:Nat.blt d N=true)
 (h:Lx P G ro ops N ds (EE fs) Z rest ((d,v)::F) C):Lx P G ro ops N ds (EE fs) Z (⟨some d,.binOp op t x y yt,ty,pos,af,gd⟩::rest) F C:=
 cq (v:=v) O hw hd (λ_ h=>by cases h) (λa w ha _=>by simp only[execOp,ha.ev hx,ha.ev hy,Sem.run_bind,hg,hr,Result.andThen_ok];rfl) h
theorem bi{op:UnOp}{t:TypeId}{x:Operand}{vx v:Value}(hx:evF F x=some vx)(hr: ∀w,(Op.unary op vx).run P w=.ok v w)(hw:aT ops F ⟨some d,.unOp op t x,ty,pos,af,gd⟩=some true)(hd:Nat.blt d N=true)
 (h:Lx P G ro ops N ds (EE fs) Z rest ((d,v)::F) C):Lx P G ro ops N ds (EE fs) Z (⟨some d,.unOp op t x,ty,pos,af,gd⟩::rest) F C:=
 cq (v:=v) O hw hd (λ_ h=>by cases h) (λa w ha _=>by simp only[execOp,ha.ev hx,Sem.run_bind,hr,Result.andThen_ok];rfl) h
theorem bV{s t:TypeId}{x:Operand}{vx v:Value}(hf:fs.any (Nat.beq (1000000+t))=false)(hx:evF F x=some vx)(hr: ∀w,(convert s t vx).run P w=.ok v w)(hw:aT ops F ⟨some d,.convert s t x,ty,pos,af,gd⟩=some true)(hd:Nat.blt d N=true)
 (h:Lx P G ro ops N ds (EE fs) Z rest ((d,v)::F) C):Lx P G ro ops N ds (EE fs) Z (⟨some d,.convert s t x,ty,pos,af,gd⟩::rest) F C:=
 cq (v:=v) hf hw hd (λ_ h=>by cases h) (λa w ha _=>by simp only[execOp,ha.ev hx,Sem.run_bind,hr,Result.andThen_ok];rfl) h
theorem vM{s t:TypeId}{x:Operand}{vx v:Value}(hf:fs.any (Nat.beq (1000000+t))=false)(hx:evF F x=some vx)(hr: ∀w,C w->(convert s t vx).run P w=.ok v w)(hw:aT ops F ⟨some d,.convert s t x,ty,pos,af,gd⟩=some true)(hd:Nat.blt d N=true)
 (h:Lx P G ro ops N ds (EE fs) Z rest ((d,v)::F) C):Lx P G ro ops N ds (EE fs) Z (⟨some d,.convert s t x,ty,pos,af,gd⟩::rest) F C:=
 cq (v:=v) hf hw hd (λ_ h=>by cases h) (λa w ha hC=>by simp only[execOp,ha.ev hx,Sem.run_bind,hr w hC.1,Result.andThen_ok];rfl) h
theorem dz{x:Operand}{a0:Addr}(hx:evF F x=some (.pointer (some a0)))(hw:aT ops F ⟨some d,.nilCheck x,ty,pos,af,gd⟩=some true)(hd:Nat.blt d N=true)
 (h:Lx P G ro ops N ds (EE fs) Z rest ((d,.pointer (some a0))::F) C):Lx P G ro ops N ds (EE fs) Z (⟨some d,.nilCheck x,ty,pos,af,gd⟩::rest) F C:=
 cq (v:=.pointer (some a0)) O hw hd (λ_ h=>by cases h) (λa w ha _=>by simp only[execOp,ha.ev hx];rfl) h
theorem zU{c x y:Operand}{b:Bool}{vx vy:Value}(hc:evF F c=some (.bool b))(hx:evF F x=some vx)(hy:evF F y=some vy)(hw:aT ops F ⟨some d,.pick c x y,ty,pos,af,gd⟩=some true)(hd:Nat.blt d N=true)
 (h:Lx P G ro ops N ds (EE fs) Z rest ((d,if b then vx else vy)::F) C):Lx P G ro ops N ds (EE fs) Z (⟨some d,.pick c x y,ty,pos,af,gd⟩::rest) F C:=
 cq (v:=if b then vx else vy) O hw hd (λ_ h=>by cases h) (λa w ha _=>by simp only[execOp,ha.ev hx,ha.ev hy,ha.ev hc];rfl) h
theorem gj{fn:Fn}{first cap:List Operand}{vf vc:List Value}(hf:evL F first=some vf)(hc:evL F cap=some vc)(hw:aT ops F ⟨some d,.makeFunc fn first.toArray cap.toArray,ty,pos,af,gd⟩=some true)(hd:Nat.blt d N=true)
 (h:Lx P G ro ops N ds (EE fs) Z rest ((d,.func fn vf.toArray vc.toArray)::F) C):Lx P G ro ops N ds (EE fs) Z (⟨some d,.makeFunc fn first.toArray cap.toArray,ty,pos,af,gd⟩::rest) F C:=
 cq (v:=.func fn vf.toArray vc.toArray) O hw hd (λ_ h=>by cases h) (λa w ha _=>by simp only[execOp,List.map_toArray,ha.evL hf,ha.evL hc];rfl) h
theorem DL{x:Operand}{i:Nat}{vs:Array Value}{v:Value}(hx:evF F x=some (.tuple vs))(hv:vs[i]? =some v)(hw:aT ops F ⟨some d,.extract x i,ty,pos,af,gd⟩=some true)(hd:Nat.blt d N=true)
 (h:Lx P G ro ops N ds (EE fs) Z rest ((d,v)::F) C):Lx P G ro ops N ds (EE fs) Z (⟨some d,.extract x i,ty,pos,af,gd⟩::rest) F C:=
 cq (v:=v) O hw hd (λ_ h=>by cases h) (λa w ha _=>by simp only[execOp,ha.ev hx,Instr.extract,hv];rfl) h
theorem EC{t e:TypeId}{len sz:Nat}{x ix:Operand}{b o:Nat}{i:Int}(hx:evF F x=some (.pointer (some ⟨b,o,none⟩)))(hi:evF F ix=some (I i))(hu:P.underlying t=some (.array len e))
 (hs: ∀w,(sizeOf e).run P w=.ok sz w) (hb:0<=i/\i<len) (hw:aT ops F ⟨some d,.indexAddr t x ix,ty,pos,af,gd⟩=some true) (hd:Nat.blt d N=true)
 (h:Lx P G ro ops N ds (EE fs) Z rest ((d,.pointer (some ⟨b,o+i.toNat*sz,none⟩))::F) C):Lx P G ro ops N ds (EE fs) Z (⟨some d,.indexAddr t x ix,ty,pos,af,gd⟩::rest) F C:=
 cq (v:=.pointer (some ⟨b,o+i.toNat*sz,none⟩)) O hw hd (λ_ h=>by cases h) (λa w ha _=>by
  simp only[execOp,ha.ev hx,ha.ev hi];simp[Instr.indexAt,asIntOf,run_underlying hu,Instr.sureAddr,hb,hs,Addr.add_mid]) h
theorem Nd{t e:TypeId}{len cap sz:Nat}{x ix:Operand}{b o:Nat}{i:Int}(hx:evF F x=some (.slice (some ⟨b,o,none⟩) len cap))(hi:evF F ix=some (I i))(hu:P.underlying t=some (.slice e))
 (hs: ∀w,(sizeOf e).run P w=.ok sz w) (hb:0<=i/\i<len) (hw:aT ops F ⟨some d,.indexAddr t x ix,ty,pos,af,gd⟩=some true) (hd:Nat.blt d N=true)
 (h:Lx P G ro ops N ds (EE fs) Z rest ((d,.pointer (some ⟨b,o+i.toNat*sz,none⟩))::F) C):Lx P G ro ops N ds (EE fs) Z (⟨some d,.indexAddr t x ix,ty,pos,af,gd⟩::rest) F C:=
 cq (v:=.pointer (some ⟨b,o+i.toNat*sz,none⟩)) O hw hd (λ_ h=>by cases h) (λa w ha _=>by
  simp only[execOp,ha.ev hx,ha.ev hi];simp[Instr.indexAt,asIntOf,run_underlying hu,hb,hs,Addr.add_mid]) h
theorem WZ{t:TypeId}{fields:Array Field}{f:Nat}{fd:Field}{sz:Nat}{x:Operand}{b o:Nat}(hx:evF F x=some (.pointer (some ⟨b,o,none⟩)))(hu:P.underlying t=some (.struct fields))(hf:fields[f]? =some fd)
 (hs: ∀w,(sizeOf fd.type).run P w=.ok sz w) (hz:sz≠0) (hw:aT ops F ⟨some d,.fieldAddr t x f,ty,pos,af,gd⟩=some true) (hd:Nat.blt d N=true)
 (h:Lx P G ro ops N ds (EE fs) Z rest ((d,.pointer (some ⟨b,o+fd.offset,none⟩))::F) C):Lx P G ro ops N ds (EE fs) Z (⟨some d,.fieldAddr t x f,ty,pos,af,gd⟩::rest) F C:=
 cq (v:=.pointer (some ⟨b,o+fd.offset,none⟩)) O hw hd (λ_ h=>by cases h) (λa w ha _=>by
  simp only[execOp,ha.ev hx];simp[Instr.fieldAt,run_underlying hu,hf,Instr.sureAddr,fieldPlace,hs,hz,Addr.add_mid]) h
theorem bN{t:TypeId}{x:Operand}{ad:Addr}{v:Value}(hx:evF F x=some (.pointer (some ad)))(hag: ∀w,(isAgg t).run P w=.ok false w)(hc: ∀w,C w->w.cell? ad=some v)
 (hw:aT ops F ⟨some d,.load t x,ty,pos,af,gd⟩=some true) (hd:Nat.blt d N=true)
 (h:Lx P G ro ops N ds (EE fs) Z rest ((d,v)::F) C):Lx P G ro ops N ds (EE fs) Z (⟨some d,.load t x,ty,pos,af,gd⟩::rest) F C:=
 cq (v:=v) O hw hd (λ_ h=>by cases h) (λa w ha hC=>by
  have hc:=hc w hC.1;simp only[execOp,ha.ev hx];simp[Instr.loadAt,Instr.sureAddr,loadVar,hag,load,Sem.run,hc]) h
theorem de{t:TypeId}{x:Operand}{b o n:Nat}{cs:List Value}(hx:evF F x=some (.pointer (some ⟨b,o,none⟩)))(hag: ∀w,(isAgg t).run P w=.ok true w)(hs: ∀w,(sizeOf t).run P w=.ok n w)(hn:cs.length=n)
 (hc: ∀w,C w->w.rangeAt b o cs) (hw:aT ops F ⟨some d,.load t x,ty,pos,af,gd⟩=some true) (hd:Nat.blt d N=true)
 (h:Lx P G ro ops N ds (EE fs) Z rest ((d,.agg cs.toArray)::F) C):Lx P G ro ops N ds (EE fs) Z (⟨some d,.load t x,ty,pos,af,gd⟩::rest) F C:=
 cq (v:=.agg cs.toArray) O hw hd (λ_ h=>by cases h) (λa w ha hC=>by
  have hl:=run_loadCells_list (P:=P) w ⟨b,o,none⟩ cs (λj v hv=>by rw[Addr.add_mid];exact hc w hC.1 j v hv)
  rw[hn]at hl;simp only[execOp,ha.ev hx];simp[Instr.loadAt,Instr.sureAddr,loadVar,hag,hs,hl]) h
theorem N3{t e:TypeId}{len:Nat}{x ix:Operand}{cs:Array Value}{i:Int}{v:Value}(hx:evF F x=some (.agg cs))(hi:evF F ix=some (I i))(hu:P.underlying t=some (.array len e))
 (hs: ∀w,(sizeOf e).run P w=.ok 1 w) (hag: ∀w,(isAgg e).run P w=.ok false w) (hb:0<=i/\i<len) (hv:cs[i.toNat]? =some v) (hw:aT ops F ⟨some d,.index t x ix,ty,pos,af,gd⟩=some true) (hd:Nat.blt d N=true)
 (h:Lx P G ro ops N ds (EE fs) Z rest ((d,v)::F) C):Lx P G ro ops N ds (EE fs) Z (⟨some d,.index t x ix,ty,pos,af,gd⟩::rest) F C:=
 cq (v:=v) O hw hd (λ_ h=>by cases h) (λa w ha _=>by
  simp only[execOp,ha.ev hx,ha.ev hi];simp[Instr.index,asIntOf,run_underlying hu,hb,hs,part,hag,hv]) h
theorem ek{t:TypeId}{ps:List (Nat×Operand)}{vs:List Value}{v:Value}(hx:evL F (ps.map (·.2))=some vs)(hr: ∀w,(Instr.build t ((ps.map (·.1)).zip vs).toArray).run P w=.ok v w)
 (hw:aT ops F ⟨some d,.build t ps.toArray,ty,pos,af,gd⟩=some true) (hd:Nat.blt d N=true)
 (h:Lx P G ro ops N ds (EE fs) Z rest ((d,v)::F) C):Lx P G ro ops N ds (EE fs) Z (⟨some d,.build t ps.toArray,ty,pos,af,gd⟩::rest) F C:=
 cq (v:=v) O hw hd (λ_ h=>by cases h) (λa w ha _=>by
  have e:(ps.toArray.map λ(i,x)=>(i,a.eval x))=((ps.map (·.1)).zip vs).toArray:=by
   rw[<-ha.evL hx,List.map_toArray];rw[List.map_map,List.zip_map'];rfl
  show ((do pure (.value (<-Instr.build t (ps.toArray.map λ(i,x)=>(i,a.eval x)))):Sem Next)).run P w=_
  rw[e];simp only[Sem.run_bind,hr,Result.andThen_ok];rfl) h
theorem bc{x:Operand}{t:TypeId}{vx:Value}{n:Int}(hx:evF F x=some vx)(hr: ∀w,(Builtin.len_ #[t] ty #[vx]).run P w=.ok (I n) w)(hw:aT ops F ⟨some d,.call {callee:=.builtin .len,args:= #[x],argTypes:= #[t]},ty,pos,af,gd⟩=some true)(hd:Nat.blt d N=true)
 (h:Lx P G ro ops N ds (EE fs) Z rest ((d,I n)::F) C):Lx P G ro ops N ds (EE fs) Z (⟨some d,.call {callee:=.builtin .len,args:= #[x],argTypes:= #[t]},ty,pos,af,gd⟩::rest) F C:=
 cq (v:=I n) O hw hd (λ_ h=>by cases h) (λa w ha _=>by
  simp only[execOp,resolve,invoke,builtin,Sem.run_bind,Sem.run_pure,Result.andThen_ok,List.map_toArray,List.map_cons,List.map_nil,ha.ev hx,hr]) h
theorem aF{t e:TypeId}(hu:P.underlying t=some (.slice e))(a:Option Addr)(n c:Nat)(w:World):(Builtin.len_ #[t] ty #[.slice a n c]).run P w=.ok (I n) w:=by
 simp[Builtin.len_,run_underlying hu,goInt]
theorem ES{t e:TypeId}{n sz:Nat}{x:Operand}{lo hi:Option Operand}{b o l h':Nat}(hx:evF F x=some (.pointer (some ⟨b,o,none⟩)))(hu:P.underlying t=some (.array n e))(hs: ∀w,(sizeOf e).run P w=.ok sz w)
 (hl:(lo.map (evF F)).getD (some (I 0))=some (I l)) (hh:(hi.map (evF F)).getD (some (I n))=some (I h')) (hb:l<=h'/\h'<=n) (hne:l≠n)
 (hw:aT ops F ⟨some d,.slice t x lo hi none,ty,pos,af,gd⟩=some true) (hd:Nat.blt d N=true)
 (h:Lx P G ro ops N ds (EE fs) Z rest ((d,.slice (some ⟨b,o+l*sz,none⟩) (h'-l) (n-l))::F) C):Lx P G ro ops N ds (EE fs) Z (⟨some d,.slice t x lo hi none,ty,pos,af,gd⟩::rest) F C:=
 cq (v:=.slice (some ⟨b,o+l*sz,none⟩) (h'-l) (n-l)) O hw hd (λ_ h=>by cases h) (λa w ha _=>by
  simp only[execOp,ha.ev hx]
  cases lo with
  |none=>
   simp at hl;have hl0:l=0:=om;subst hl0
   cases hi with
   |none=>
    simp at hh;have:h'=n:=om;subst this;simp[Instr.sliceAt,run_underlying hu,Instr.sureAddr,Instr.sliceBounds,hs,Addr.add_mid]
   |some y=>
    have hy:=ha.ev (x:=y) (v:=I h') (by simpa using hh)
    have hb2:h'<=n:=hb.2;simp[Instr.sliceAt,run_underlying hu,Instr.sureAddr,Instr.sliceBounds,Instr.sliceBound,asIntOf,hy,hs,Addr.add_mid,hb2]
  |some z=>
   have hz:=ha.ev (x:=z) (v:=I l) (by simpa using hl)
   have hne': ¬n=l:=λe=>hne e.symm;have hb1:l<=h':=hb.1
   cases hi with
   |none=>
    simp at hh;have:h'=n:=om;subst this;simp[Instr.sliceAt,run_underlying hu,Instr.sureAddr,Instr.sliceBounds,Instr.sliceBound,asIntOf,hz,hs,hne',Addr.add_mid,hb1]
   |some y=>
    have hy:=ha.ev (x:=y) (v:=I h') (by simpa using hh)
    have hb2:h'<=n:=hb.2;simp[Instr.sliceAt,run_underlying hu,Instr.sureAddr,Instr.sliceBounds,Instr.sliceBound,asIntOf,hy,hz,hs,hne',Addr.add_mid,hb1,hb2]) h
end
end
section
open Go.RowKit
theorem jJ{a b c d:Prop}(f:a->c)(g:b->d):a\/b->c\/d
 | .inl h=>.inl (f h)
 | .inr h=>.inr (g h)
abbrev Hl:=List (Nat×Nat×List Value×TypeId)
def lkB:Hl->Nat->Option (Nat×List Value×TypeId)
 |[],_=>none
 |(m,x)::r,n=>bif Nat.beq m n then some x else lkB r n
def Yof(L:Hl):Nat->Prop:=λb=> ∃n c t,lkB L n=some (b,c,t)
structure TurnAt(b:Nat)(w w':World):Prop where
 os:w'.os=w.os
 tape:w'.tape=w.tape
 output:w'.output=w.output
 size:w'.heap.size=w.heap.size
 other: ∀k,k≠b->w'.heap[k]? =w.heap[k]?
structure Bs where
 w0:World
 M:Nat->Prop
 J:(Nat->Prop)->World->Prop
structure Rides(J:(Nat->Prop)->World->Prop):Prop where
 grow: ∀Y w w',J Y w->Grow w w'->J Y w'
 new: ∀Y w w' (S:Nat->Prop),J Y w->Grow w w'->(∀b,S b->w.heap.size<=b/\b<w'.heap.size)->J (λk=>S k\/Y k) w'
 turn: ∀Y w w' b,Y b->J Y w->TurnAt b w w'->J Y w'
 less: ∀Y Y' w,(∀b,Y' b->Y b)->J Y w->J Y' w
theorem am:Rides (λ_ _=>True):=⟨λ_ _ _ _ _=>trivial,λ_ _ _ _ _ _ _=>trivial,λ_ _ _ _ _ _ _=>trivial,λ_ _ _ _ _=>trivial⟩
def pl(w0:World):Bs:=⟨w0,λ_=>False,λ_ _=>True⟩
def plM(w0:World)(M:Nat->Prop):Bs:=⟨w0,M,λ_ _=>True⟩
def OwnB(w:World)(b:Nat)(c:List Value)(t:TypeId):Prop:= ∃fz:Nat×Nat,w.heap[b]? =some (.cells c.toArray t fz)/\(fz=(0,0)\/c.length<=fz.1)
theorem Jg{w:World}{b:Nat}{c:List Value}{t:TypeId}(h:w.heap[b]? =some (.cells c.toArray t (0,0))):OwnB w b c t:=⟨(0,0),h,.inl O⟩
theorem OwnB.lt{w:World}{b:Nat}{c:List Value}{t:TypeId}(h:OwnB w b c t):b<w.heap.size:=by
 obtain ⟨_,h,_⟩:=h;exact (Array.getElem?_eq_some_iff.1 h).1
theorem OwnB.of_same{w w':World}{b:Nat}{c:List Value}{t:TypeId}(e:w'.heap[b]? =w.heap[b]?)(h:OwnB w b c t):OwnB w' b c t:=by
 obtain ⟨fz,h1,h2⟩:=h;exact ⟨fz,e.trans h1,h2⟩
theorem OwnB.frozen{w:World}{b:Nat}{c:List Value}{t:TypeId}(h:OwnB w b c t){o:Nat}(ho:o<c.length):w.frozen? ⟨b,o,none⟩=false:=by
 obtain ⟨fz,h1,h2⟩:=h;simp only[World.frozen?,h1];rcases h2 with rfl|h2
 ·simp
 ·simp;omega
theorem OwnB.cell{w:World}{b:Nat}{c:List Value}{t:TypeId}(h:OwnB w b c t)(o:Nat):w.cell? ⟨b,o,none⟩=c[o]? :=by
 obtain ⟨fz,h1,_⟩:=h;rw[cell_of_row w b o c.toArray t fz h1];simp
theorem OwnB.set{w:World}{b:Nat}{c:List Value}{t:TypeId}(h:OwnB w b c t)(o:Nat)(v:Value):OwnB (w.setCell ⟨b,o,none⟩ v) b (c.set o v) t:=by
 obtain ⟨fz,h1,h2⟩:=h;refine ⟨fz, ?_,by simpa using h2⟩
 obtain ⟨hlt,h1'⟩:=Array.getElem?_eq_some_iff.1 h1;simp only[World.setCell,Array.getElem?_modify,if_pos,h1];simp
structure Hq(B:Bs)(L:Hl)(Y:Nat->Prop)(w:World):Prop where
 os:w.os=B.w0.os
 tape:w.tape=B.w0.tape
 output:w.output=B.w0.output
 size:B.w0.heap.size<=w.heap.size
 keep: ∀k,k<B.w0.heap.size->¬B.M k->w.heap[k]? =B.w0.heap[k]?
 own: ∀n b c t,lkB L n=some (b,c,t)->OwnB w b c t/\(B.w0.heap.size<=b\/B.M b)
 inj: ∀n m b c t c' t',lkB L n=some (b,c,t)->lkB L m=some (b,c',t')->n=m
 apart: ∀b,Y b->¬Yof L b
 high: ∀b,Y b->B.w0.heap.size<=b
 lt: ∀b,Y b->b<w.heap.size
 rid:B.J (λk=>Yof L k\/Y k) w
abbrev Hp(B:Bs)(L:Hl):Cls:=Hq B L (λ_=>False)
def GFrom(G:Cls)(w0:World)(M:Nat->Prop):Prop:= ∀w:World,w0.heap.size<=w.heap.size->(∀k,k<w0.heap.size->¬M k->w.heap[k]? =w0.heap[k]?)->G w
structure BOk(G:Cls)(B:Bs):Prop where
 g: ∀L Y w,Hq B L Y w->G w
 r:Rides B.J
theorem GFrom.ok{G:Cls}{B:Bs}(h:GFrom G B.w0 B.M)(hr:Rides B.J):BOk G B:=⟨λ_ _ w hw=>h w hw.size hw.keep,hr⟩
section
variable {B:Bs} {w:World} {L:Hl} {G:Cls} {Y:Nat->Prop}
theorem ci(B:Bs)(h:B.J (λ_=>False) B.w0)(hr:Rides B.J):Hp B [] B.w0:=
 ⟨rfl,rfl,rfl,Nat.le_refl _,λ_ _ _=>rfl,λ_ _ _ _ h=>(by cases h),λ_ _ _ _ _ _ _ h=>(by cases h),λ_ h=>h.elim,λ_ h=>h.elim,λ_ h=>h.elim,hr.less _ _ _ (λ_ hb=>by rcases hb with ⟨_,_,_,h⟩|h<;>cases h) h⟩
theorem Hq.grow(h:Hq B L Y w)(hr:Rides B.J){w':World}(g:Grow w w'):Hq B L Y w':=by
 refine ⟨g.os.trans h.os,g.tape.trans h.tape,g.output.trans h.output,Nat.le_trans h.size g.size,λk hk hm=>(g.block k (Nat.lt_of_lt_of_le hk h.size)).trans (h.keep k hk hm),λn b c t hl=> ?_,h.inj,h.apart,h.high,λb hb=>Nat.lt_of_lt_of_le (h.lt b hb) g.size,hr.grow _ _ _ h.rid g⟩;obtain ⟨h1,h2⟩:=h.own n b c t hl;exact ⟨h1.of_same (g.block b h1.lt),h2⟩
theorem ay(hB:BOk G B):dJ G (Hp B L):=⟨λ_ _ h g=>h.grow hB.r g,λw h=>hB.g _ _ w h⟩
theorem Hq.below(h:Hq B L Y w)(hM: ∀k,¬B.M k):Grow B.w0 w:=⟨h.os,h.tape,h.output,h.size,λk hk=>h.keep k hk (hM k)⟩
theorem ab{w0:World}(h:Hp (pl w0) L w):Grow w0 w:=h.below (λ_ h=>h)
theorem Hq.less{L':Hl}(h:Hq B L Y w)(hr:Rides B.J)(hs: ∀n x,lkB L' n=some x->lkB L n=some x):Hq B L' Y w:=
 ⟨h.os,h.tape,h.output,h.size,h.keep,λn b c t hl=>h.own n b c t (hs _ _ hl),λn m b c t c' t' h1 h2=>h.inj n m b c t c' t' (hs _ _ h1) (hs _ _ h2),
  λb hb ⟨n,c,t,hl⟩=>h.apart b hb ⟨n,c,t,hs _ _ hl⟩,h.high,h.lt,hr.less _ _ _ (λ_ hb=>jJ (λ⟨n,c,t,hl⟩=>⟨n,c,t,hs _ _ hl⟩) id hb) h.rid⟩
theorem Hq.ownlt(h:Hq B L Y w){b:Nat}(hb:Yof L b):b<w.heap.size:=by
 obtain ⟨n,c,t,hl⟩:=hb;exact (h.own n b c t hl).1.lt
theorem aI{m n:Nat}{x y:Nat×List Value×TypeId}(h:lkB ((m,x)::L) n=some y):(n=m/\y=x)\/(n≠m/\lkB L n=some y):=by
 unfold lkB at h
 cases hb:Nat.beq m n with
 |true=>rw[hb]at h;simp at h;exact .inl ⟨(Nat.eq_of_beq_eq_true hb).symm,h.symm⟩
 |false=>rw[hb]at h;exact .inr ⟨λe=>by subst e;simp at hb,h⟩
theorem Hq.alloc(h:Hq B L Y w)(hr:Rides B.J)(n:Nat)(c:List Value)(t:TypeId):Hq B ((n,w.heap.size,c,t)::L) Y (w.alloc (.cells c.toArray t)):=by
 have hg:Grow w (w.alloc (.cells c.toArray t)):=(Below.refl _ w).alloc (Nat.le_refl _) _;have h':=h.grow hr hg;refine ⟨h'.os,h'.tape,h'.output,h'.size,h'.keep,λm b c' t' hl=> ?_,λm k b c1 t1 c2 t2 h1 h2=> ?_,λb hb ⟨m,c',t',hl⟩=> ?_,h'.high,h'.lt, ?_⟩
 ·rcases aI hl with ⟨_,e⟩|⟨_,hl⟩
  ·cases e;exact ⟨Jg (heap_alloc_new w _),.inl h.size⟩
  ·exact h'.own m b c' t' hl
 ·have hlt: ∀k c t,lkB L k=some (w.heap.size,c,t)->False:=λk c t hk=>by
   have:=(h.own k _ c t hk).1.lt;omega
  rcases aI h1 with ⟨e1,e⟩|⟨_,h1⟩<;>rcases aI h2 with ⟨e2,e'⟩|⟨_,h2⟩
  ·exact e1.trans e2.symm
  ·cases e;exact (hlt _ _ _ h2).elim
  ·cases e';exact (hlt _ _ _ h1).elim
  ·exact h.inj m k b c1 t1 c2 t2 h1 h2
 ·rcases aI hl with ⟨_,e⟩|⟨_,hl⟩
  ·cases e;have:=h.lt _ hb;omega
  ·exact h.apart b hb ⟨m,c',t',hl⟩
 ·refine hr.less _ _ _ (λb hb=> ?_) (hr.new _ w _ (λk=>k=w.heap.size) h.rid hg (λb hb=>by subst hb;exact ⟨Nat.le_refl _,sm⟩))
  rcases hb with ⟨m,c',t',hl⟩|hb
  ·rcases aI hl with ⟨_,e⟩|⟨_,hl⟩
   ·cases e;exact .inl O
   ·exact .inr (.inl ⟨m,c',t',hl⟩)
  ·exact .inr (.inr hb)
theorem Hq.turn(h:Hq B L Y w)(hr:Rides B.J){n b:Nat}{c:List Value}{t:TypeId}(hl:lkB L n=some (b,c,t)){w':World}(c':List Value)(ht:TurnAt b w w')(hb:OwnB w' b c' t):Hq B ((n,b,c',t)::L) Y w':=by
 have hw:=(h.own n b c t hl).2;have hY: ∀x,Yof ((n,b,c',t)::L) x->Yof L x:=λx ⟨m,c1,t1,h1⟩=>by
  rcases aI h1 with ⟨_,e⟩|⟨_,h1⟩
  ·cases e;exact ⟨n,c,t,hl⟩
  ·exact ⟨m,c1,t1,h1⟩
 refine ⟨ht.os.trans h.os,ht.tape.trans h.tape,ht.output.trans h.output,by rw[ht.size];exact h.size,λk hlt hm=> ?_,λm b' c1 t1 h1=> ?_,λm k b' c1 t1 c2 t2 h1 h2=> ?_,λx hx hy=>h.apart x hx (hY x hy),h.high,λx hx=>by rw[ht.size];exact h.lt x hx, ?_⟩
 ·have:k≠b:=λe=>by
   subst e;rcases hw with hw|hw
   ·omega
   ·exact hm hw
  exact (ht.other k this).trans (h.keep k hlt hm)
 ·rcases aI h1 with ⟨_,e⟩|⟨hne,h3⟩
  ·cases e;exact ⟨hb,hw⟩
  ·have hb':b'≠b:=λe=>hne (h.inj m n b' c1 t1 c t h3 (by rw[e];exact hl))
   exact ⟨(h.own m b' c1 t1 h3).1.of_same (ht.other b' hb'),(h.own m b' c1 t1 h3).2⟩
 ·rcases aI h1 with ⟨e1,e⟩|⟨n1,h1⟩<;>rcases aI h2 with ⟨e2,e'⟩|⟨n2,h2⟩
  ·exact e1.trans e2.symm
  ·cases e;exact (n2 (h.inj k n _ _ _ _ _ h2 hl)).elim
  ·cases e';exact (n1 (h.inj m n _ _ _ _ _ h1 hl)).elim
  ·exact h.inj m k b' c1 t1 c2 t2 h1 h2
 ·exact hr.less _ _ _ (λx hx=>jJ (hY x) id hx) (hr.turn _ w w' b (.inl ⟨n,c,t,hl⟩) h.rid ht)
theorem tQ(w:World)(b o:Nat)(v:Value):TurnAt b w (w.setCell ⟨b,o,none⟩ v):=⟨rfl,rfl,rfl,by simp[World.setCell],λk hk=>heap_setCell_other w _ k v hk⟩
theorem Hq.store(h:Hq B L Y w)(hr:Rides B.J){n b:Nat}{c:List Value}{t:TypeId}(hl:lkB L n=some (b,c,t))(o:Nat)(v:Value):Hq B ((n,b,c.set o v,t)::L) Y (w.setCell ⟨b,o,none⟩ v):=by
 exact h.turn hr hl (c.set o v) (tQ w b o v) ((h.own n b c t hl).1.set o v)
def lay:Nat->List Value->List Value->List Value
 |_,[],c=>c
 |o,v::r,c=>lay (o+1) r (c.set o v)
theorem jz: ∀(vs:List Value) (o:Nat) (c:List Value),(lay o vs c).length=c.length
 |[],_,_=>rfl
 |v::r,o,c=>by rw[lay,jz r];simp
theorem iw: ∀(vs:List Value) (o:Nat) (c:List Value) (i:Nat),o+vs.length<=c.length->(lay o vs c)[i]? =if o<=i/\i<o+vs.length then vs[i-o]? else c[i]?
 |[],o,c,i,_=>by simp[lay];omega
 |v::r,o,c,i,h=>by
  simp at h;rw[lay,iw r (o+1) (c.set o v) i (by simp;omega)]
  by_cases h1:o+1<=i/\i<o+1+r.length
  ·rw[if_pos h1,if_pos (by simp;omega),show i-o=(i-(o+1))+1 from by omega]
   simp
  ·rw[if_neg h1]
   by_cases h2:i=o
   ·subst h2
    rw[if_pos sm,List.getElem?_set_self om];simp
   ·rw[if_neg (by simp;omega),List.getElem?_set_ne om]
theorem jF(vs c:List Value)(h:vs.length=c.length):lay 0 vs c=vs:=by
 apply List.ext_getElem?;intro i;rw[iw vs 0 c i om];by_cases h1:i<vs.length
 ·rw[if_pos om];simp
 ·rw[if_neg om,List.getElem?_eq_none om,List.getElem?_eq_none om]
theorem jc(o:Nat)(vs c:List Value)(h:o+vs.length<=c.length):lay o vs c=c.take o++vs++c.drop (o+vs.length):=by
 apply List.ext_getElem?;intro i;rw[iw vs o c i h];by_cases h1:i<o
 ·rw[if_neg om,List.append_assoc,List.getElem?_append_left (by simp;omega),List.getElem?_take,if_pos h1]
 ·by_cases h2:i<o+vs.length
  ·rw[if_pos om,List.append_assoc,List.getElem?_append_right (by simp;omega),List.getElem?_append_left (by simp;omega)]
   congr 1;simp;omega
  ·rw[if_neg om,List.getElem?_append_right (by simp;omega),List.getElem?_drop]
   congr 1;simp;omega
theorem Hq.lays(hr:Rides B.J): ∀(vs:List Value) {L:Hl} {w:World} (_:Hq B L Y w) {n b:Nat} {c:List Value} {t:TypeId} (_:lkB L n=some (b,c,t)) (o:Nat),Hq B ((n,b,lay o vs c,t)::L) Y (w.setCells b o vs)
 |[],L,w,h,n,b,c,t,hl,o=>h.less hr λm x hx=>by
  rcases aI hx with ⟨rfl,rfl⟩|⟨_,hx⟩
  ·exact hl
  ·exact hx
 |v::r,L,w,h,n,b,c,t,hl,o=>by
  have h1:=h.store hr hl o v;have h2:=Hq.lays hr r h1 (n:=n) (b:=b) (c:=c.set o v) (t:=t) (by simp[lkB]) (o+1)
  refine h2.less hr λm x hx=> ?_;rcases aI hx with ⟨rfl,rfl⟩|⟨hne,hx⟩
  ·simp[lkB,lay]
  ·have hb:Nat.beq n m=false:=by
    cases hb:Nat.beq n m with
    |false=>rfl
    |true=>exact absurd (Nat.eq_of_beq_eq_true hb).symm hne
   simp only[lkB,hb,cond_false];exact hx
theorem cM{n b o:Nat}{c:List Value}{t:TypeId}{v:Value}(hl:lkB L n=some (b,c,t))(hv:c[o]? =some v): ∀w,Hq B L Y w->w.cell? ⟨b,o,none⟩=some v:=λw h=>by
 rw[(h.own n b c t hl).1.cell o];exact hv
theorem pT{n b o:Nat}{c cs:List Value}{t:TypeId}(hl:lkB L n=some (b,c,t))(hv: ∀j v,cs[j]? =some v->c[o+j]? =some v): ∀w,Hq B L Y w->w.rangeAt b o cs:=λw h j v hj=>
 cM hl (hv j v hj) w h
theorem aG{n b:Nat}{c:List Value}{t:TypeId}(hl:lkB L n=some (b,c,t)): ∀w,Hq B L Y w->w.rangeAt b 0 c:=pT hl (λj v h=>by simpa using h)
theorem lE{ad:Addr}{v:Value}(h:B.w0.cell? ad=some v)(hm: ¬B.M ad.block): ∀w,Hq B L Y w->w.cell? ad=some v:=λw hw=>by
 have hlt:ad.block<B.w0.heap.size:=block_lt_of_cell h;rw[World.cell?_of_block (w:=B.w0) (hw.keep ad.block hlt hm)];exact h
theorem eO{b o:Nat}{cs:List Value}(h:B.w0.rangeAt b o cs)(hm: ¬B.M b): ∀w,Hq B L Y w->w.rangeAt b o cs:=λw hw j v hj=>lE (h j v hj) hm w hw
end
section
variable {P:Program} {G:Cls} {ro:Option Nat} {ops:Array Oper} {N:Nat} {ds:List Deferred} {fs:List Nat} {Z:Fr->Cls->Prop} {F:Fr} {C:Cls} {rest:List Oper}
variable {d:Nat} {ty:TypeId} {pos:String} {af:Array Edge} {gd:Option (Nat×Bool)}
variable {B:Bs} {L:Hl}
theorem eN{E:Oper->Bool}{o:Oper}(hE:E o=true)(hw:aT ops F o=some true)(hd:jx N o.dst=true)(hnd: ∀c,o.op≠ .defer c)
 (h: ∀a w,Has N ds F a->C w->∃v w' C',((execOp a.eval o).run P w=.ok (.value v) w'\/((execOp a.eval o).run P w=.ok .skip w'/\v=undef))/\dJ G C'/\C' w'/\Lx P G ro ops N ds E Z rest (putF o.dst v F) C')
 (hgr:E (ig o)=false:=by rfl):Lx P G ro ops N ds E Z (o::rest) F C:=by
 unfold Lx;rw[hE];intro a w ha hC;have hgr: ∀C':Cls,E (ig o)=true->∀w,C' w->C w:=λ_ h=>by rw[hgr]at h;cases h
 obtain ⟨v,w',C',hr,hS,hw',hk⟩:=h a w ha hC;refine ⟨ha.want hw,λf _=>dP ro f, ?_⟩;rw[show (FW ro).round=ro from O,Oper.semAt_eq _ _ _ hnd];rcases hr with hr|⟨hr,rfl⟩
 ·rw[hr];exact ⟨_,C',ha.putF hd v,hS,hw',hgr C',hk⟩
 ·rw[hr];exact ⟨_,C',ha.putF hd _,hS,hw',hgr C',hk⟩
theorem gX(n:Nat){t:TypeId}{z:Value}(hG:BOk G B)(hz: ∀w,(zeroValue t).run P w=.ok z w)(hw:aT ops F ⟨some d,.alloc t,ty,pos,af,gd⟩=some true)(hd:Nat.blt d N=true)
 (h: ∀b,Lx P G ro ops N ds (EE fs) Z rest ((d,pnt b)::F) (Hp B ((n,b,z.cells.toList,t)::L)))
 (hgr:fs.any (Nat.beq 2999999)=false:=by rfl):Lx P G ro ops N ds (EE fs) Z (⟨some d,.alloc t,ty,pos,af,gd⟩::rest) F (Hp B L):=
 eN (hgr:=hgr) O hw hd (λ_ h=>by cases h) λa w ha hC=>by
  refine ⟨pnt w.heap.size,w.alloc (.cells z.cells t),_,.inl ?_,ay hG, ?_,h w.heap.size⟩
  ·simp only[execOp,Instr.alloc,Sem.run_bind,hz,Result.andThen_ok]
   rfl
  ·have:=hC.alloc hG.r n z.cells.toList t
   simpa using this
theorem iN(n:Nat){t:TypeId}{x:Operand}{v:Value}(hG:BOk G B)(hx:evF F x=some v)(hw:aT ops F ⟨some d,.box t x,ty,pos,af,gd⟩=some true)(hd:Nat.blt d N=true)
 (h: ∀b,Lx P G ro ops N ds (EE fs) Z rest ((d,pnt b)::F) (Hp B ((n,b,v.cells.toList,t)::L))):Lx P G ro ops N ds (EE fs) Z (⟨some d,.box t x,ty,pos,af,gd⟩::rest) F (Hp B L):=
 eN O hw hd (λ_ h=>by cases h) λa w ha hC=>by
  refine ⟨pnt w.heap.size,w.alloc (.cells v.cells t),_,.inl ?_,ay hG, ?_,h w.heap.size⟩
  ·simp only[execOp,ha.ev hx]
   rfl
  ·have:=hC.alloc hG.r n v.cells.toList t
   simpa using this
theorem dS(n:Nat){t et:TypeId}{x y:Operand}{b o:Nat}{c:List Value}{v:Value}(hG:BOk G B)(hx:evF F x=some (.pointer (some ⟨b,o,none⟩)))(hy:evF F y=some v)(hl:lkB L n=some (b,c,et))
 (hs: ∀w,(sizeOf t).run P w=.ok 1 w) (hv:v.oneCell'=true) (ho:o<c.length) (hw:aT ops F ⟨none,.store t x y,ty,pos,af,gd⟩=some true)
 (h:Lx P G ro ops N ds (EE fs) Z rest F (Hp B ((n,b,c.set o v,et)::L))):Lx P G ro ops N ds (EE fs) Z (⟨none,.store t x y,ty,pos,af,gd⟩::rest) F (Hp B L):=
 eN O hw O (λ_ h=>by cases h) λa w ha hC=>by
  have hb:=(hC.own n b c et hl).1;have hcell:w.cell? ⟨b,o,none⟩=some c[o]:=cM hl (List.getElem?_eq_getElem ho) w hC;have hfz:=hb.frozen ho;have hst:=run_storeCells_cells (P:=P) b o [v] 0 w (by simp[hcell]) (by simp[hfz]) (by simpa using hv)
  refine ⟨undef,w.setCell ⟨b,o,none⟩ v,_,.inr ⟨?_,rfl⟩,ay hG,hC.store hG.r hl o v,h⟩;have hcs:v.cells= #[v]:=by cases v<;>first|rfl|simp[Value.oneCell']at hv
  simp only[execOp,ha.ev hx,ha.ev hy];simp only[World.setCells,Nat.add_zero]at hst;simp[Instr.storeAt,Instr.sureAddr,storeVar,hs,hcs,hst]
theorem fQ(n:Nat){t et:TypeId}{x y:Operand}{b o m:Nat}{c:List Value}{vs:List Value}(hG:BOk G B)(hx:evF F x=some (.pointer (some ⟨b,o,none⟩)))(hy:evF F y=some (.agg vs.toArray))(hl:lkB L n=some (b,c,et))
 (hs: ∀w,(sizeOf t).run P w=.ok m w) (hm:vs.length=m) (hv:vs.all (·.oneCell')=true) (ho:o+vs.length<=c.length) (hw:aT ops F ⟨none,.store t x y,ty,pos,af,gd⟩=some true)
 (h:Lx P G ro ops N ds (EE fs) Z rest F (Hp B ((n,b,lay o vs c,et)::L))):Lx P G ro ops N ds (EE fs) Z (⟨none,.store t x y,ty,pos,af,gd⟩::rest) F (Hp B L):=
 eN O hw O (λ_ h=>by cases h) λa w ha hC=>by
  have hb:=(hC.own n b c et hl).1;have hst:=run_storeCells_cells (P:=P) b o vs 0 w (λj hj=>by rw[cM hl (List.getElem?_eq_getElem om) w hC];rfl) (λj hj=>hb.frozen om) (λv hv'=>List.all_eq_true.1 hv v hv')
  refine ⟨undef,w.setCells b o vs,_,.inr ⟨?_,rfl⟩,ay hG,Hq.lays hG.r vs hC hl o,h⟩;simp only[execOp,ha.ev hx,ha.ev hy];simp only[Nat.add_zero]at hst;simp[Instr.storeAt,Instr.sureAddr,storeVar,hs,Value.cells,hm,hst]
theorem A0(n:Nat){dT sT e et:TypeId}{x y:Operand}{b o dl dc:Nat}{sa:Addr}{sl sc:Nat}{c cs:List Value}(hG:BOk G B)(hx:evF F x=some (.slice (some ⟨b,o,none⟩) dl dc))(hy:evF F y=some (.slice (some sa) sl sc))
 (hl:lkB L n=some (b,c,et)) (hu:P.underlying dT=some (.slice e)) (hs:(P.info? e).map (·.size)=some 1) (hn:cs.length=Nat.min sl dl) (hsrc: ∀w,Hp B L w->∀j v,cs[j]? =some v->w.cell? (sa.add j)=some v)
 (hv:cs.all (·.oneCell')=true) (ho:o+cs.length<=c.length) (hw:aT ops F ⟨some d,.call {callee:=.builtin .copy,args:= #[x,y],argTypes:= #[dT,sT]},ty,pos,af,gd⟩=some true) (hd:Nat.blt d N=true)
 (h:Lx P G ro ops N ds (EE fs) Z rest ((d,I cs.length)::F) (Hp B ((n,b,lay o cs c,et)::L))):
 Lx P G ro ops N ds (EE fs) Z (⟨some d,.call {callee:=.builtin .copy,args:= #[x,y],argTypes:= #[dT,sT]},ty,pos,af,gd⟩::rest) F (Hp B L):=
 eN O hw hd (λ_ h=>by cases h) λa w ha hC=>by
  have hb:=(hC.own n b c et hl).1;have hr:=run_copy_cells (P:=P) w dT sT ty e b o dl dc sa sl sc cs hu hs hn (hsrc w hC) (λj hj=>by rw[cM hl (List.getElem?_eq_getElem om) w hC];rfl) (λj hj=>hb.frozen om) (λv hv'=>List.all_eq_true.1 hv v hv')
  refine ⟨I cs.length,w.setCells b o cs,_,.inl ?_,ay hG,Hq.lays hG.r cs hC hl o,h⟩;simp only[execOp,resolve,invoke,builtin,Sem.run_bind,Sem.run_pure,Result.andThen_ok,List.map_toArray,List.map_cons,List.map_nil,ha.ev hx,ha.ev hy,hr];rfl
/-! ### Calls -/
def lZ(P:Program)(G:Cls)(f:FuncId)(args:List Value)(v:Value):Prop:= ∀w,G w->Calls P f args.toArray w (λe w'=>e=.returned v/\Grow w w')
def ai(P:Program)(f:FuncId):Prop:= ∀args w,(callFunc f args).run P w=.ok (.enter f args) w
theorem fS{f:FuncId}{args:Array Value}{w:World}{R:Ending->World->Prop}(h:Calls P f args w R):CallsIn (FW ro) 0 P f args w R:=by
 have h0:CallsIn (FW none) 0 P f args w R:=(callsIn_wide (n:=0)).2 h
 cases ro with
 |none=>exact h0
 |some l=>exact h0
theorem kR{f:Nat}{al:List Operand}{at':Array TypeId}{vs:List Value}{v:Value}(hf:fs.any (Nat.beq f)=false)(ha:evL F al=some vs)(he:ai P f)(hp: ∀w,C w->G w->Calls P f vs.toArray w (λe w'=>e=.returned v/\Grow w w'))
 (hw:aT ops F ⟨some d,.call {callee:=.value (.func f),args:=al.toArray,argTypes:=at'},ty,pos,af,gd⟩=some true) (hd:Nat.blt d N=true)
 (h:Lx P G ro ops N ds (EE fs) Z rest ((d,v)::F) C):Lx P G ro ops N ds (EE fs) Z (⟨some d,.call {callee:=.value (.func f),args:=al.toArray,argTypes:=at'},ty,pos,af,gd⟩::rest) F C:=
 vl (v:=v) (by simpa [EE]using hf) hw hd (λ_ h=>by cases h) (λa w hA hC=>⟨f,vs.toArray,by
  have e:=hA.evL ha;simp only[execOp,resolve,invoke,Sem.run_bind,Sem.run_pure,Result.andThen_ok,List.map_toArray,e,Act.eval,Deferred.ofValue];simp[he _ w],fS (hp w hC.1 hC.2)⟩) h
theorem mK{f:Nat}{al:List Operand}{at':Array TypeId}{vs:List Value}{v:Value}(hf:fs.any (Nat.beq f)=false)(ha:evL F al=some vs)(he:ai P f)(hp:lZ P G f vs v)
 (hw:aT ops F ⟨some d,.call {callee:=.value (.func f),args:=al.toArray,argTypes:=at'},ty,pos,af,gd⟩=some true) (hd:Nat.blt d N=true)
 (h:Lx P G ro ops N ds (EE fs) Z rest ((d,v)::F) C):Lx P G ro ops N ds (EE fs) Z (⟨some d,.call {callee:=.value (.func f),args:=al.toArray,argTypes:=at'},ty,pos,af,gd⟩::rest) F C:=
 kR hf ha he (λw _ hG=>hp w hG) hw hd h
end
end
section
open Go.RowKit
def sW(F:Fr):Fr->Prop
 |[]=>True
 |(t,v)::r=>lk F t=some v/\sW F r
theorem rZ{F:Fr}: ∀{F':Fr},sW F F'->∀t v,lk F' t=some v->lk F t=some v
 |[],_,_,_,h=>by cases h
 |(s,u)::r,hs,t,v,h=>by
  unfold lk at h
  cases hb:Nat.beq s t with
  |true=>rw[hb]at h;cases Nat.eq_of_beq_eq_true hb;simp at h;subst h;exact hs.1
  |false=>rw[hb]at h;exact rZ hs.2 t v h
theorem mf{N:Nat}{ds:List Deferred}{F F':Fr}(h:sW F F'): ∀a,Has N ds F a->Has N ds F' a:=λ_ ha=>ha.less (rZ h)
def jP(L:Hl):Hl->Prop
 |[]=>True
 |(n,x)::r=>lkB L n=some x/\jP L r
theorem sn{L:Hl}: ∀{L':Hl},jP L L'->∀n x,lkB L' n=some x->lkB L n=some x
 |[],_,_,_,h=>by cases h
 |(s,u)::r,hs,t,v,h=>by
  rcases aI h with ⟨rfl,rfl⟩|⟨_,h⟩
  ·exact hs.1
  ·exact sn hs.2 t v h
theorem cP{B:Bs}{L L':Hl}{Y:Nat->Prop}(hr:Rides B.J)(h:jP L L'): ∀w,Hq B L Y w->Hq B L' Y w:=λ_ hw=>hw.less hr (sn h)
section
variable {P:Program} {G:Cls} {ro:Option Nat} {N:Nat} {ds:List Deferred} {F:Fr} {K:KK} {B:Bs} {L:Hl}
theorem V9{c:Code}(F':Fr)(L':Hl)(hG:BOk G B)(hF:sW F F')(hL:jP L L')(h:X P G ro N ds c F' (Hp B L') K):X P G ro N ds c F (Hp B L) K:=
 Pf h (mf hF) (cP hG.r hL) (λ_=>ay hG)
theorem bG{c:Code}{ι:Type}(Fm:ι->Fr)(Lm:ι->Hl)(m:ι->Nat)(i0:ι)(hG:BOk G B)(hF:sW F (Fm i0))(hL:jP L (Lm i0))
 (hr: ∀i,X P G ro N ds c (Fm i) (Hp B (Lm i)) (rp (λds' F' C'=>ds'=ds/\∃j L',m j<m i/\C'=Hp B L'/\sW F' (Fm j)/\jP L' (Lm j)) K)):X P G ro N ds (.loop c) F (Hp B L) K:=
 EN Fm (λi=>Hp B (Lm i)) m i0 (λ_=>ay hG) (mf hF) (cP hG.r hL) λi=>(hr i).mono λe ds' F' C' hk=>by
  cases e with
  |normal=>
   obtain ⟨rfl,j,L',hj,rfl,h1,h2⟩:=hk;exact ⟨rfl,j,hj,λ_=>ay hG,mf h1,cP hG.r h2⟩
  |_=>exact hk
theorem aB{Z:List Deferred->Fr->Cls->Prop}{C:Cls}(h:Z ds F C):rp Z K .normal ds F C:=h
theorem aL{id:Nat}{C:Cls}(h:K .normal ds F C):tD id K .normal ds F C:=h
theorem bJ{Z:List Deferred->Fr->Cls->Prop}{C:Cls}(h:K .ret ds F C):rp Z K .ret ds F C:=h
theorem bI{id:Nat}{C:Cls}(h:K .ret ds F C):tD id K .ret ds F C:=h
theorem aE{fn:Func}{R:Ending->World->Prop}{t:Nat}{v:Value}{C:Cls}(hr:fn.results= #[.tmp t])(hv:lk F t=some v)(h: ∀w,C w->R (.returned v) w):lW P fn R .ret [] F C:=
 ⟨rfl,λa w ha hC=>⟨v,by simp[results,hr,ha.get t v hv],h w hC⟩⟩
theorem dr{fn:Func}{R:Ending->World->Prop}{C:Cls}(hr:fn.results= #[])(h: ∀w,C w->R (.returned (.tuple #[])) w):lW P fn R .ret [] F C:=
 ⟨rfl,λa w _ hC=>⟨_,results_none hr a.tmps P w,h w hC⟩⟩
theorem cS{fn:Func}{R:Ending->World->Prop}{C:Cls}(hr:fn.results= #[])(h: ∀w,C w->R (.returned (.tuple #[])) w):lW P fn R .normal [] F C:=
 ⟨rfl,λa w _ hC=>⟨_,results_none hr a.tmps P w,h w hC⟩⟩
theorem B1{fn:Func}{R:Ending->World->Prop}{t:Nat}{T:TypeId}{b n:Nat}{cs:List Value}{C:Cls}(hr:fn.results= #[.cell t T])(hv:lk F t=some (pnt b))(hag: ∀w,(isAgg T).run P w=.ok true w)
 (hs: ∀w,(sizeOf T).run P w=.ok n w) (hn:cs.length=n) (hc: ∀w,C w->w.rangeAt b 0 cs) (h: ∀w,C w->R (.returned (.agg cs.toArray)) w):lW P fn R .ret [] F C:=
 ⟨rfl,λa w ha hC=>⟨.agg cs.toArray,by
  have hl:=run_loadCells_list (P:=P) w ⟨b,0,none⟩ cs (λj v hv=>by rw[Addr.add_mid];exact hc w hC j v hv)
  rw[hn]at hl;simp[results,hr,ha.get t _ hv,asAddr,loadVar,hag,hs,hl],h w hC⟩⟩
end
theorem qp{P:Program}{G:Cls}{ro:Option Nat}{ops:Array Oper}{N:Nat}{ds:List Deferred}{fs:List Nat}{Z:Fr->Cls->Prop}{F:Fr}{C:Cls}{rest:List Oper}{d:Nat}{ty:TypeId}{pos:String}{af:Array Edge}{gd:Option (Nat×Bool)}
 (k:Nat) {t e:TypeId} {len:Nat} {x ix:Operand} {b:Nat} {i:Int} (hx:evF F x=some (pnt b)) (hi:evF F ix=some (I i)) (hu:P.underlying t=some (.array len e))
 (hs: ∀w,(sizeOf e).run P w=.ok 1 w) (hk:i=(k:Int)) (hb:k<len) (hw:aT ops F ⟨some d,.indexAddr t x ix,ty,pos,af,gd⟩=some true) (hd:Nat.blt d N=true)
 (h:Lx P G ro ops N ds (EE fs) Z rest ((d,.pointer (some ⟨b,k,none⟩))::F) C):Lx P G ro ops N ds (EE fs) Z (⟨some d,.indexAddr t x ix,ty,pos,af,gd⟩::rest) F C:=
 EC hx hi hu hs om hw hd (by
  rw[show 0+i.toNat*1=k from by omega];exact h)
theorem Ek{P:Program}{G:Cls}{ro:Option Nat}{ops:Array Oper}{N:Nat}{ds:List Deferred}{fs:List Nat}{Z:Fr->Cls->Prop}{F:Fr}{C:Cls}{rest:List Oper}{d:Nat}{ty:TypeId}{pos:String}{af:Array Edge}{gd:Option (Nat×Bool)}
 (k:Nat) {t e:TypeId} {len:Nat} {x ix:Operand} {b o:Nat} {i:Int} (hx:evF F x=some (.pointer (some ⟨b,o,none⟩))) (hi:evF F ix=some (I i)) (hu:P.underlying t=some (.array len e))
 (hs: ∀w,(sizeOf e).run P w=.ok 1 w) (hk:i=(k:Int)) (hb:k<len) (hw:aT ops F ⟨some d,.indexAddr t x ix,ty,pos,af,gd⟩=some true) (hd:Nat.blt d N=true)
 (h:Lx P G ro ops N ds (EE fs) Z rest ((d,.pointer (some ⟨b,o+k,none⟩))::F) C):Lx P G ro ops N ds (EE fs) Z (⟨some d,.indexAddr t x ix,ty,pos,af,gd⟩::rest) F C:=
 EC hx hi hu hs om hw hd (by
  rw[show o+i.toNat*1=o+k from by omega];exact h)
theorem ie{P:Program}{G:Cls}{ro:Option Nat}{ops:Array Oper}{N:Nat}{ds:List Deferred}{fs:List Nat}{Z:Fr->Cls->Prop}{F:Fr}{C:Cls}{rest:List Oper}{d:Nat}{ty:TypeId}{pos:String}{af:Array Edge}{gd:Option (Nat×Bool)}
 (k:Nat) {t e:TypeId} {len cap:Nat} {x ix:Operand} {b o:Nat} {i:Int} (hx:evF F x=some (.slice (some ⟨b,o,none⟩) len cap)) (hi:evF F ix=some (I i)) (hu:P.underlying t=some (.slice e))
 (hs: ∀w,(sizeOf e).run P w=.ok 1 w) (hk:i=(k:Int)) (hb:k<len) (hw:aT ops F ⟨some d,.indexAddr t x ix,ty,pos,af,gd⟩=some true) (hd:Nat.blt d N=true)
 (h:Lx P G ro ops N ds (EE fs) Z rest ((d,.pointer (some ⟨b,o+k,none⟩))::F) C):Lx P G ro ops N ds (EE fs) Z (⟨some d,.indexAddr t x ix,ty,pos,af,gd⟩::rest) F C:=
 Nd hx hi hu hs om hw hd (by
  rw[show o+i.toNat*1=o+k from by omega];exact h)
theorem gm{α:Type}(f:α->Value)(xs:List α)(z:α)(k:Nat)(h:k<xs.length):(xs.map f)[k]? =some (f (xs.getD k z)):=by
 simp[h]
theorem gma{α:Type}(f:α->Value)(xs:List α)(z:α)(k:Nat)(h:k<xs.length):(xs.map f).toArray[k]? =some (f (xs.getD k z)):=by
 simp[h]
theorem I8{α:Type}(f:α->Value)(xs:List α)(k:Nat)(x:α):(xs.map f).set k (f x)=(xs.set k x).map f:=by
 rw[List.map_set]
theorem bY(l:L8):(l.map U8).all (·.oneCell')=true:=by simp[U8,Value.oneCell']
theorem eH(l:L3):(l.map U32).all (·.oneCell')=true:=by simp[U32,Value.oneCell']
theorem ba(l:L6):(l.map U64).all (·.oneCell')=true:=by simp[U64,Value.oneCell']
structure GLow(G:Cls)(low:Nat):Prop where
 size: ∀w,G w->low<=w.heap.size
 same: ∀w w':World,(∀k,k<low->w'.heap[k]? =w.heap[k]?)->G w->G w'
theorem GLow.from{G:Cls}{low:Nat}(h:GLow G low){w:World}(hw:G w){M:Nat->Prop}(hM: ∀m,M m->low<=m):GFrom G w M:=λw' _ hk=>
 h.same w w' (λk hlt=>hk k (Nat.lt_of_lt_of_le hlt (h.size w hw)) (λhm=>by have:=hM k hm;omega)) hw
theorem GLow.plain{G:Cls}{low:Nat}(h:GLow G low){w:World}(hw:G w):BOk G (pl w):=(h.from (M:=λ_=>False) hw (λ_ h=>h.elim)).ok (B:=pl w) am
theorem GLow.grow{G:Cls}{low:Nat}(h:GLow G low){w w':World}(hw:G w)(hg:Grow w w'):G w':=h.same w w' (λk hk=>hg.block k (Nat.lt_of_lt_of_le hk (h.size w hw))) hw
end
section
open Go.RowKit
section
variable {P:Program} {G:Cls} {ro:Option Nat} {ops:Array Oper} {N:Nat} {ds:List Deferred} {fs:List Nat} {Z:Fr->Cls->Prop} {F:Fr} {C:Cls} {rest:List Oper}
variable {d:Nat} {ty:TypeId} {pos:String} {af:Array Edge} {gd:Option (Nat×Bool)}
variable {B:Bs} {L:Hl}
theorem dN(n:Nat){t:TypeId}{l:List Value}(hG:BOk G B)(hz: ∀w,(zeroValue t).run P w=.ok (.agg l.toArray) w)(hw:aT ops F ⟨some d,.alloc t,ty,pos,af,gd⟩=some true)(hd:Nat.blt d N=true)
 (h: ∀b,Lx P G ro ops N ds (EE fs) Z rest ((d,pnt b)::F) (Hp B ((n,b,l,t)::L)))
 (hgr:fs.any (Nat.beq 2999999)=false:=by rfl):Lx P G ro ops N ds (EE fs) Z (⟨some d,.alloc t,ty,pos,af,gd⟩::rest) F (Hp B L):=
 gX n hG hz hw hd h hgr
theorem Aj(n:Nat){t:TypeId}{x:Operand}{l:List Value}(hG:BOk G B)(hx:evF F x=some (.agg l.toArray))(hw:aT ops F ⟨some d,.box t x,ty,pos,af,gd⟩=some true)(hd:Nat.blt d N=true)
 (h: ∀b,Lx P G ro ops N ds (EE fs) Z rest ((d,pnt b)::F) (Hp B ((n,b,l,t)::L))):Lx P G ro ops N ds (EE fs) Z (⟨some d,.box t x,ty,pos,af,gd⟩::rest) F (Hp B L):=
 iN n hG hx hw hd h
theorem az(n:Nat){t et:TypeId}{x y:Operand}{b m:Nat}{c:List Value}{vs:List Value}(hG:BOk G B)(hx:evF F x=some (pnt b))(hy:evF F y=some (.agg vs.toArray))(hl:lkB L n=some (b,c,et))
 (hs: ∀w,(sizeOf t).run P w=.ok m w) (hm:vs.length=m) (hc:c.length=m) (hv:vs.all (·.oneCell')=true) (hw:aT ops F ⟨none,.store t x y,ty,pos,af,gd⟩=some true)
 (h:Lx P G ro ops N ds (EE fs) Z rest F (Hp B ((n,b,vs,et)::L))):Lx P G ro ops N ds (EE fs) Z (⟨none,.store t x y,ty,pos,af,gd⟩::rest) F (Hp B L):=
 fQ n hG hx hy hl hs hm hv om hw (by rw[jF vs c om];exact h)
theorem aX(n:Nat){α:Type}(f:α->Value){t et:TypeId}{x y:Operand}{b o:Nat}{xs:List α}{v:α}(hG:BOk G B)(hx:evF F x=some (.pointer (some ⟨b,o,none⟩)))(hy:evF F y=some (f v))(hl:lkB L n=some (b,xs.map f,et))
 (hs: ∀w,(sizeOf t).run P w=.ok 1 w) (hv:(f v).oneCell'=true) (ho:o<xs.length) (hw:aT ops F ⟨none,.store t x y,ty,pos,af,gd⟩=some true)
 (h:Lx P G ro ops N ds (EE fs) Z rest F (Hp B ((n,b,(xs.set o v).map f,et)::L))):Lx P G ro ops N ds (EE fs) Z (⟨none,.store t x y,ty,pos,af,gd⟩::rest) F (Hp B L):=
 dS n hG hx hy hl hs hv (by simpa using ho) hw (by rw[I8];exact h)
theorem Hk(n:Nat){α:Type}(f:α->Value)(z:α){t et:TypeId}{x:Operand}{b o:Nat}{xs:List α}(hx:evF F x=some (.pointer (some ⟨b,o,none⟩)))(hl:lkB L n=some (b,xs.map f,et))(hag: ∀w,(isAgg t).run P w=.ok false w)(ho:o<xs.length)
 (hw:aT ops F ⟨some d,.load t x,ty,pos,af,gd⟩=some true) (hd:Nat.blt d N=true)
 (h:Lx P G ro ops N ds (EE fs) Z rest ((d,f (xs.getD o z))::F) (Hp B L)):Lx P G ro ops N ds (EE fs) Z (⟨some d,.load t x,ty,pos,af,gd⟩::rest) F (Hp B L):=
 bN hx hag (cM (n:=n) hl (gm f xs z o ho)) hw hd h
theorem cV(n:Nat){t et:TypeId}{x:Operand}{b o:Nat}{c:List Value}{v:Value}(hx:evF F x=some (.pointer (some ⟨b,o,none⟩)))(hl:lkB L n=some (b,c,et))(hv:c[o]? =some v)(hag: ∀w,(isAgg t).run P w=.ok false w)
 (hw:aT ops F ⟨some d,.load t x,ty,pos,af,gd⟩=some true) (hd:Nat.blt d N=true)
 (h:Lx P G ro ops N ds (EE fs) Z rest ((d,v)::F) (Hp B L)):Lx P G ro ops N ds (EE fs) Z (⟨some d,.load t x,ty,pos,af,gd⟩::rest) F (Hp B L):=
 bN hx hag (cM (n:=n) hl hv) hw hd h
theorem bS(n:Nat){t et:TypeId}{x:Operand}{b m:Nat}{c:List Value}(hx:evF F x=some (pnt b))(hl:lkB L n=some (b,c,et))(hag: ∀w,(isAgg t).run P w=.ok true w)(hs: ∀w,(sizeOf t).run P w=.ok m w)(hm:c.length=m)
 (hw:aT ops F ⟨some d,.load t x,ty,pos,af,gd⟩=some true) (hd:Nat.blt d N=true)
 (h:Lx P G ro ops N ds (EE fs) Z rest ((d,.agg c.toArray)::F) (Hp B L)):Lx P G ro ops N ds (EE fs) Z (⟨some d,.load t x,ty,pos,af,gd⟩::rest) F (Hp B L):=
 de hx hag hs hm (aG (n:=n) hl) hw hd h
theorem i1{α:Type}(f:α->Value)(z:α)(k:Nat){t e:TypeId}{len:Nat}{x ix:Operand}{xs:List α}{i:Int}(hx:evF F x=some (.agg (xs.map f).toArray))(hi:evF F ix=some (I i))(hu:P.underlying t=some (.array len e))
 (hs: ∀w,(sizeOf e).run P w=.ok 1 w) (hag: ∀w,(isAgg e).run P w=.ok false w) (hk:i=(k:Int)) (hb:k<len) (hl:xs.length=len) (hw:aT ops F ⟨some d,.index t x ix,ty,pos,af,gd⟩=some true) (hd:Nat.blt d N=true)
 (h:Lx P G ro ops N ds (EE fs) Z rest ((d,f (xs.getD k z))::F) C):Lx P G ro ops N ds (EE fs) Z (⟨some d,.index t x ix,ty,pos,af,gd⟩::rest) F C:=
 N3 hx hi hu hs hag om (by rw[show i.toNat=k from by omega];exact gma f xs z k om) hw hd h
theorem kE: ∀(vs:List Value) (k:Nat) (c:List Value),k+vs.length<=c.length->vs.all (·.oneCell')=true->Instr.fill (λi=>some (i*1,1)) c.toArray ((List.range' k vs.length).zip vs)=some (lay k vs c).toArray
 |[],_,_,_,_=>by simp[Instr.fill,lay]
 |v::r,k,c,h,hv=>by
  simp only[List.all_cons,Bool.and_eq_true]at hv;simp at h;have hcs:v.cells= #[v]:=by cases v<;>first|rfl|simp[Value.oneCell']at hv
  have ih:=kE r (k+1) (c.set k v) (by simp;omega) hv.2
  simp only[List.length_cons,List.range'_succ,List.zip_cons_cons,Instr.fill,hcs,lay];rw[if_neg (by simp;omega)]
  rw[<-ih];congr 1;simp
theorem rm{t e:TypeId}{n len:Nat}{z:List Value}(hu:P.underlying t=some (.array len e))(hs: ∀w,(sizeOf e).run P w=.ok 1 w)(hz: ∀w,(zeroValue t).run P w=.ok (.agg z.toArray) w)(vs:List Value)(hn:vs.length=n)(hl:z.length=n)
 (hv:vs.all (·.oneCell')=true) (w:World):(Instr.build t ((List.range n).zip vs).toArray).run P w=.ok (.agg vs.toArray) w:=by
 have h:=kE vs 0 z om hv;rw[jF vs z om,<-List.range_eq_range',hn]at h;simp only[Nat.mul_one]at h;simp[Instr.build,hz,run_underlying hu,hs,Value.cells,h]
theorem bR{t e:TypeId}{n len:Nat}{z:List Value}{ps:List (Nat×Operand)}{vs:List Value}(hx:evL F (ps.map (·.2))=some vs)(hi:ps.map (·.1)=List.range n)(hu:P.underlying t=some (.array len e))(hs: ∀w,(sizeOf e).run P w=.ok 1 w)
 (hz: ∀w,(zeroValue t).run P w=.ok (.agg z.toArray) w) (hn:(Nat.beq vs.length n && Nat.beq z.length n)=true) (hv:vs.all (·.oneCell')=true)
 (hw:aT ops F ⟨some d,.build t ps.toArray,ty,pos,af,gd⟩=some true) (hd:Nat.blt d N=true)
 (h:Lx P G ro ops N ds (EE fs) Z rest ((d,.agg vs.toArray)::F) C):Lx P G ro ops N ds (EE fs) Z (⟨some d,.build t ps.toArray,ty,pos,af,gd⟩::rest) F C:=by
 simp only[Bool.and_eq_true]at hn;exact ek hx (λw=>by rw[hi];exact rm hu hs hz vs (Nat.eq_of_beq_eq_true hn.1) (Nat.eq_of_beq_eq_true hn.2) hv w) hw hd h
theorem au(n:Nat){fn:Func}{R:Ending->World->Prop}{t:Nat}{T et:TypeId}{b m:Nat}{c:List Value}(hr:fn.results= #[.cell t T])(hv:lk F t=some (pnt b))(hl:lkB L n=some (b,c,et))
 (hag: ∀w,(isAgg T).run P w=.ok true w) (hs: ∀w,(sizeOf T).run P w=.ok m w) (hm:c.length=m) (h: ∀w,Hp B L w->R (.returned (.agg c.toArray)) w):lW P fn R .ret [] F (Hp B L):=
 B1 hr hv hag hs hm (aG (n:=n) hl) h
end
end
section
open Go.RowKit
structure Keeps(Y:Nat->Prop)(w w':World):Prop where
 os:w'.os=w.os
 tape:w'.tape=w.tape
 output:w'.output=w.output
 size:w.heap.size<=w'.heap.size
 same: ∀k,Y k->w'.heap[k]? =w.heap[k]?
theorem Keeps.refl(Y:Nat->Prop)(w:World):Keeps Y w w:=⟨rfl,rfl,rfl,Nat.le_refl _,λ_ _=>rfl⟩
theorem Keeps.turn{Y:Nat->Prop}{w w' w'':World}(h:Keeps Y w w'){b:Nat}(ht:TurnAt b w' w'')(hb: ¬Y b):Keeps Y w w'':=
 ⟨ht.os.trans h.os,ht.tape.trans h.tape,ht.output.trans h.output,by rw[ht.size];exact h.size,λk hk=>(ht.other k (λe=>hb (e▸hk))).trans (h.same k hk)⟩
theorem Keeps.grow{Y:Nat->Prop}{w w' w'':World}(h:Keeps Y w w')(hg:Grow w' w'')(hlt: ∀b,Y b->b<w.heap.size):Keeps Y w w'':=
 ⟨hg.os.trans h.os,hg.tape.trans h.tape,hg.output.trans h.output,Nat.le_trans h.size hg.size,λk hk=>(hg.block k (Nat.lt_of_lt_of_le (hlt k hk) h.size)).trans (h.same k hk)⟩
abbrev YJ:=(Nat->Prop)->Nat->World->Prop
def YieldC(P:Program)(l:Nat)(xs:List (List Value))(J Jx:YJ):Prop:=
 ∀Y k x W,xs[k]? =some x->J Y k W->∃fn tmps assign body,(Instr.yield l x.toArray).run P W=.ok (.round l fn tmps assign body) W/\
  RoundIn (FW none) 0 P l fn tmps assign body W (λe W'=>Keeps Y W W'/\((e=.returned (.bool true)/\J Y (k+1) W')\/(e=.returned (.bool false)/\Jx Y (k+1) W')))
def fD(P:Program)(G:Cls)(gf:FuncId)(caps:List Value)(xs:List (List Value))(Rd:Cls):Prop:=
 ∀(l:Nat) (J Jx:YJ),(∀k,Rides (λY=>J Y k))->(∀k,Rides (λY=>Jx Y k))->(∀Y k W,J Y k W->G W/\Rd W)->(∀Y k W,Jx Y k W->G W)->YieldC P l xs J Jx->∀w,J (λ_=>False) 0 w->
  Calls P gf (.func (.yield l) #[] #[]::caps).toArray w (λe w'=>(∃v,e=.returned v)/\(J (λ_=>False) xs.length w'\/∃k,Jx (λ_=>False) k w'))
def Bi(w0:World)(J:(Nat->Prop)->World->Prop):Bs:=⟨w0,λ_=>True,J⟩
section
variable {P:Program} {G:Cls} {ro:Option Nat} {ops:Array Oper} {N:Nat} {ds:List Deferred} {fs:List Nat} {Z:Fr->Cls->Prop} {F:Fr} {rest:List Oper}
variable {d:Nat} {ty:TypeId} {pos:String} {af:Array Edge} {gd:Option (Nat×Bool)} {L:Hl}
theorem CN{l:Nat}{fn:FuncId}{tmps:Array Value}{assign body:Code}{w:World}{R:Ending->World->Prop}(h:RoundIn (FW none) 0 P l fn tmps assign body w R):RoundIn (FW ro) 0 P l fn tmps assign body w R:=by
 cases ro with
 |none=>exact h
 |some l'=>exact h
def YieldB(P:Program)(l:Nat)(v:List Value)(B Bt Bf:Bs):Prop:=
 Bt.w0=B.w0/\Bf.w0=B.w0/\(∀k,B.M k)/\(∀k,Bt.M k)/\(∀k,Bf.M k)/\∀Y W,B.J Y W->∃fn tmps assign body,(Instr.yield l v.toArray).run P W=.ok (.round l fn tmps assign body) W/\
  RoundIn (FW none) 0 P l fn tmps assign body W (λe W'=>Keeps Y W W'/\((e=.returned (.bool true)/\Bt.J Y W')\/(e=.returned (.bool false)/\Bf.J Y W')))
theorem YieldC.b{l k:Nat}{xs:List (List Value)}{J Jx:YJ}{v:List Value}(h:YieldC P l xs J Jx)(hv:xs[k]? =some v)(w0:World):YieldB P l v (Bi w0 (λY=>J Y k)) (Bi w0 (λY=>J Y (k+1))) (Bi w0 (λY=>Jx Y (k+1))):=
 ⟨rfl,rfl,λ_=>trivial,λ_=>trivial,λ_=>trivial,λY W hj=>h Y k v W hv hj⟩
theorem dw{B Bt Bf:Bs}{l:Nat}{x:Operand}{al:List Operand}{at':Array TypeId}{v:List Value}(hy:YieldB P l v B Bt Bf)(hBt:BOk G Bt)(hBf:BOk G Bf)
 (hx:evF F x=some (.func (.yield l) #[] #[])) (ha:evL F al=some v) (hw:aT ops F ⟨some d,.call {callee:=.value x,args:=al.toArray,argTypes:=at'},ty,pos,af,gd⟩=some true) (hd:Nat.blt d N=true) (hE:EE fs ⟨some d,.call {callee:=.value x,args:=al.toArray,argTypes:=at'},ty,pos,af,gd⟩=true)
 (h1:Lx P G ro ops N ds (EE fs) Z rest ((d,.bool true)::F) (Hp Bt L)) (h2:Lx P G ro ops N ds (EE fs) Z rest ((d,.bool false)::F) (Hp Bf L))
 (hgr:EE fs (ig ⟨some d,.call {callee:=.value x,args:=al.toArray,argTypes:=at'},ty,pos,af,gd⟩)=false:=by rfl):
 Lx P G ro ops N ds (EE fs) Z (⟨some d,.call {callee:=.value x,args:=al.toArray,argTypes:=at'},ty,pos,af,gd⟩::rest) F (Hp B L):=by
 obtain ⟨e1,e2,m0,m1,m2,hy⟩:=hy;unfold Lx;rw[hE];intro a w hA hC;refine ⟨hA.want hw,λf _=>dP ro f, ?_⟩;rw[show (FW ro).round=ro from O,Oper.semAt_eq _ _ _ (λ_ h=>by cases h)]
 obtain ⟨fn,tmps,assign,body,hr,hR⟩:=hy _ w hC.rid;have e:(execOp a.eval ⟨some d,.call {callee:=.value x,args:=al.toArray,argTypes:=at'},ty,pos,af,gd⟩).run P w=.ok (.round l fn tmps assign body) w:=by
  have e:=hA.evL ha;simp only[execOp,resolve,invoke,Sem.run_bind,Sem.run_pure,Result.andThen_ok,List.map_toArray,e,hA.ev hx,Deferred.ofValue];simpa using hr
 rw[e];refine ⟨λh=>(by cases h), ?_⟩
 refine RoundIn.mono (CN hR) λe W' ⟨hk,hcase⟩=> ?_;have mk: ∀(Bn:Bs),Bn.w0=B.w0->(∀k,Bn.M k)->Bn.J (λb=>Yof L b\/False) W'->Hp Bn L W':=λBn en mn hj=>
  ⟨by rw[en];exact hk.os.trans hC.os,by rw[en];exact hk.tape.trans hC.tape,by rw[en];exact hk.output.trans hC.output,by rw[en];exact Nat.le_trans hC.size hk.size,λk _ h=>(h (mn k)).elim,
   λn b c t hl=>⟨(hC.own n b c t hl).1.of_same (hk.same b (.inl ⟨n,c,t,hl⟩)),.inr (mn b)⟩,hC.inj,λ_ h=>h.elim,λ_ h=>h.elim,λ_ h=>h.elim,hj⟩
 rcases hcase with ⟨rfl,hj⟩|⟨rfl,hj⟩
 ·exact ⟨_,_,hA.put (by simpa using hd) _,ay hBt,mk Bt e1 m1 hj,λh=>(by rw[hgr]at h;cases h),h1⟩
 ·exact ⟨_,_,hA.put (by simpa using hd) _,ay hBf,mk Bf e2 m2 hj,λh=>(by rw[hgr]at h;cases h),h2⟩
end
/-! ### The caller -/
section
variable {B:Bs} {L:Hl} {Y:Nat->Prop} {w w':World}
theorem Hq.newS(h:Hq B L Y w)(hr:Rides B.J)(hg:Grow w w'){S:Nat->Prop}(hS: ∀b,S b->w.heap.size<=b/\b<w'.heap.size):Hq B L (λk=>S k\/Y k) w':=by
 have h':=h.grow hr hg;refine ⟨h'.os,h'.tape,h'.output,h'.size,h'.keep,h'.own,h'.inj,λx hx hy=> ?_,λx hx=> ?_,λx hx=> ?_, ?_⟩
 ·rcases hx with hx|hx
  ·have:=h.ownlt hy;have:=(hS x hx).1;omega
  ·exact h.apart x hx hy
 ·rcases hx with hx|hx
  ·exact Nat.le_trans h.size (hS x hx).1
  ·exact h.high x hx
 ·rcases hx with hx|hx
  ·exact (hS x hx).2
  ·exact h'.lt x hx
 ·refine hr.less _ _ _ (λx hx=> ?_) (hr.new _ w w' S h.rid hg hS)
  rcases hx with hx|hx|hx
  ·exact .inr (.inl hx)
  ·exact .inl hx
  ·exact .inr (.inr hx)
theorem Hq.newY(h:Hq B L Y w)(hr:Rides B.J)(hg:Grow w w'){b:Nat}(hb:w.heap.size<=b)(hb':b<w'.heap.size):Hq B L (λk=>k=b\/Y k) w':=
 h.newS hr hg (S:=λk=>k=b) (λx hx=>by subst hx;exact ⟨hb,hb'⟩)
theorem Hq.turnY(h:Hq B L Y w)(hr:Rides B.J){b:Nat}(hb:Y b)(ht:TurnAt b w w'):Hq B L Y w':=by
 refine ⟨ht.os.trans h.os,ht.tape.trans h.tape,ht.output.trans h.output,by rw[ht.size];exact h.size,λk hk hm=> ?_,λn b' c t hl=> ?_,h.inj,h.apart,h.high,λx hx=>by rw[ht.size];exact h.lt x hx,hr.turn _ w w' b (.inr hb) h.rid ht⟩
 ·have:k≠b:=λe=>by have:=h.high b hb;omega
  exact (ht.other k this).trans (h.keep k hk hm)
 ·have:b'≠b:=λe=>by subst e;exact h.apart _ hb ⟨n,c,t,hl⟩
  exact ⟨(h.own n b' c t hl).1.of_same (ht.other b' this),(h.own n b' c t hl).2⟩
theorem Hq.lessY{Y':Nat->Prop}(h:Hq B L Y w)(hr:Rides B.J)(hs: ∀b,Y' b->Y b):Hq B L Y' w:=
 ⟨h.os,h.tape,h.output,h.size,h.keep,h.own,h.inj,λb hb=>h.apart b (hs b hb),λb hb=>h.high b (hs b hb),λb hb=>h.lt b (hs b hb),hr.less _ _ _ (λ_ hb=>jJ id (hs _) hb) h.rid⟩
theorem gT(w:World)(b:Nat)(o:Obj):TurnAt b w (w.putObj b o):=⟨rfl,rfl,rfl,sm,λ_ hk=>World.putObj_heap_other hk⟩
structure Rec(l D:Nat)(r:Loop)(Y:Nat->Prop)(w:World):Prop where
 loop:w.heap[l]? =some (.loop r)
 dfr:w.heap[D]? =some (.deferred (some []))
 ne:l≠D
 nl: ¬Y l
 nD: ¬Y D
theorem Rec.grow{l D:Nat}{r:Loop}(h:Rec l D r Y w)(hg:Grow w w'):Rec l D r Y w':=
 ⟨(hg.block l (Array.getElem?_eq_some_iff.1 h.loop).1).trans h.loop,(hg.block D (Array.getElem?_eq_some_iff.1 h.dfr).1).trans h.dfr,h.ne,h.nl,h.nD⟩
theorem Rec.new{l D:Nat}{r:Loop}(h:Rec l D r Y w)(hg:Grow w w'){S:Nat->Prop}(hS: ∀b,S b->w.heap.size<=b/\b<w'.heap.size):Rec l D r (λk=>S k\/Y k) w':=
 ⟨(h.grow hg).loop,(h.grow hg).dfr,h.ne,λe=>e.elim (λe=>by have:=(Array.getElem?_eq_some_iff.1 h.loop).1;have:=(hS _ e).1;omega) h.nl,λe=>e.elim (λe=>by have:=(Array.getElem?_eq_some_iff.1 h.dfr).1;have:=(hS _ e).1;omega) h.nD⟩
theorem Rec.turn{l D:Nat}{r:Loop}(h:Rec l D r Y w){b:Nat}(hb:Y b)(ht:TurnAt b w w'):Rec l D r Y w':=
 ⟨(ht.other l (λe=>h.nl (e▸hb))).trans h.loop,(ht.other D (λe=>h.nD (e▸hb))).trans h.dfr,h.ne,h.nl,h.nD⟩
theorem Rec.less{l D:Nat}{r:Loop}(h:Rec l D r Y w){Y':Nat->Prop}(hs: ∀b,Y' b->Y b):Rec l D r Y' w:=⟨h.loop,h.dfr,h.ne,λe=>h.nl (hs _ e),λe=>h.nD (hs _ e)⟩
theorem Rec.put{l D:Nat}{r:Loop}(h:Rec l D r Y w)(r':Loop):Rec l D r' Y (w.putObj l (.loop r')):=
 ⟨World.putObj_heap_same (Array.getElem?_eq_some_iff.1 h.loop).1,(World.putObj_heap_other (Ne.symm h.ne)).trans h.dfr,h.ne,h.nl,h.nD⟩
def JC(B:Nat->Bs)(l D:Nat)(r:Loop)(Lk:Nat->Hl):YJ:=λY k W=>Hq (B k) (Lk k) (λb=>Y b\/b=D\/b=l) W/\Rec l D r Y W
def JX(B:Code->Nat->Bs)(l D:Nat)(r:Code->Loop)(Ext:Code->Nat->Hl->Prop):YJ:=λY k W=> ∃c L',Ext c k L'/\Hq (B c k) L' (λb=>Y b\/b=D\/b=l) W/\Rec l D (r c) Y W
theorem kt(hr:Rides B.J)(L:Hl)(l D:Nat)(r:Loop):Rides (λY W=>Hq B L (λb=>Y b\/b=D\/b=l) W/\Rec l D r Y W) where
 grow:=λY w w' h hg=>⟨h.1.grow hr hg,h.2.grow hg⟩
 new:=λY w w' S h hg hS=>⟨(h.1.newS hr hg hS).lessY hr (λx hx=>by rcases hx with (hx|hx)|hx;exact .inl hx;exact .inr (.inl hx);exact .inr (.inr hx)),h.2.new hg hS⟩
 turn:=λY w w' b hb h ht=>⟨h.1.turnY hr (.inl hb) ht,h.2.turn hb ht⟩
 less:=λY Y' w hs h=>⟨h.1.lessY hr (λ_ hx=>jJ (hs _) id hx),h.2.less hs⟩
theorem E6{Bk:Nat->Bs}(hr: ∀k,Rides (Bk k).J)(l D:Nat)(r:Loop)(Lk:Nat->Hl)(k:Nat):Rides (λY=>JC Bk l D r Lk Y k):=kt (hr k) (Lk k) l D r
theorem CX{Be:Code->Nat->Bs}(hr: ∀c k,Rides (Be c k).J)(l D:Nat)(r:Code->Loop)(Ext:Code->Nat->Hl->Prop)(k:Nat):Rides (λY=>JX Be l D r Ext Y k) where
 grow:=λY w w' ⟨c,L',hE,h⟩ hg=>⟨c,L',hE,(kt (hr c k) L' l D (r c)).grow Y w w' h hg⟩
 new:=λY w w' S ⟨c,L',hE,h⟩ hg hS=>⟨c,L',hE,(kt (hr c k) L' l D (r c)).new Y w w' S h hg hS⟩
 turn:=λY w w' b hb ⟨c,L',hE,h⟩ ht=>⟨c,L',hE,(kt (hr c k) L' l D (r c)).turn Y w w' b hb h ht⟩
 less:=λY Y' w hs ⟨c,L',hE,h⟩=>⟨c,L',hE,(kt (hr c k) L' l D (r c)).less Y Y' w hs h⟩
def Br(B:Bs)(l D:Nat)(r:Loop)(Y:Nat->Prop)(W0:World):Bs:=
 ⟨B.w0,B.M,λY' W=>Keeps Y W0 W/\Rec l D r Y' W/\(∀b,Y' b->¬Y b)/\B.J (λb=>Y' b\/Y b\/b=D\/b=l) W⟩
theorem Hh(hr:Rides B.J){l D:Nat}{r:Loop}{W0:World}(hlt: ∀b,Y b->b<W0.heap.size):Rides (Br B l D r Y W0).J where
 grow:=λY' w w' ⟨h1,h2,h3,h4⟩ hg=>⟨h1.grow hg hlt,h2.grow hg,h3,hr.grow _ _ _ h4 hg⟩
 new:=λY' w w' S ⟨h1,h2,h3,h4⟩ hg hS=>⟨h1.grow hg hlt,h2.new hg hS,λx hx hy=>by
  rcases hx with hx|hx
  ·have:=hlt x hy;have:=h1.size;have:=(hS x hx).1;omega
  ·exact h3 x hx hy,hr.less _ _ _ (λx hx=>by rcases hx with (hx|hx)|hx;exact .inl hx;exact .inr (.inl hx);exact .inr (.inr hx)) (hr.new _ w w' S h4 hg hS)⟩
 turn:=λY' w w' b hb ⟨h1,h2,h3,h4⟩ ht=>⟨h1.turn ht (h3 b hb),h2.turn hb ht,h3,hr.turn _ w w' b (.inl hb) h4 ht⟩
 less:=λY1 Y' w hs ⟨h1,h2,h3,h4⟩=>⟨h1,h2.less hs,λb hb=>h3 b (hs b hb),hr.less _ _ _ (λx hx=>jJ (hs x) id hx) h4⟩
theorem Xn{l D:Nat}{r:Loop}(hr:Rides B.J)(h:Hq B L (λb=>Y b\/b=D\/b=l) w)(hc:Rec l D r Y w):Hp (Br B l D r Y w) L w:=
 ⟨h.os,h.tape,h.output,h.size,h.keep,h.own,h.inj,λ_ h=>h.elim,λ_ h=>h.elim,λ_ h=>h.elim,Keeps.refl _ _,
  ⟨hc.loop,hc.dfr,hc.ne,λe=>e.elim (h.apart l (.inr (.inr O))) id,λe=>e.elim (h.apart D (.inr (.inl O))) id⟩,
  λb hb hy=>hb.elim (h.apart b (.inl hy)) id,hr.less _ _ _ (λx hx=>by rcases hx with (hx|hx)|hx;exact .inl hx;exact hx.elim;exact .inr hx) h.rid⟩
theorem rA{l D:Nat}{r:Loop}{W0:World}(hr:Rides B.J)(hhi:B.w0.heap.size<=l)(hY: ¬Y l)(r':Loop)(h:Hp (Br B l D r Y W0) L w):Hp (Br B l D r' Y W0) L (w.putObj l (.loop r')):=by
 have ht:=gT w l (.loop r');obtain ⟨h1,h2,h3,h4⟩:=h.rid;refine ⟨ht.os.trans h.os,ht.tape.trans h.tape,ht.output.trans h.output,by rw[ht.size];exact h.size,λk hk hm=> ?_,λn b c t hl=> ?_,h.inj,λ_ h=>h.elim,λ_ h=>h.elim,λ_ h=>h.elim,h1.turn ht hY,h2.put r',h3,hr.turn _ _ _ l (.inr (.inr (.inr O))) h4 ht⟩
 ·have hk':k<B.w0.heap.size:=hk
  exact (ht.other k (λe=>om)).trans (h.keep k hk hm)
 ·exact ⟨(h.own n b c t hl).1.of_same (ht.other b (λe=>h2.nl (by rw[<-e];exact .inl ⟨n,c,t,hl⟩))),(h.own n b c t hl).2⟩
theorem qH{l D:Nat}{r:Loop}{W0:World}{Y':Nat->Prop}(hr:Rides B.J)(hhi: ∀b,Y b\/b=D\/b=l->B.w0.heap.size<=b)(hlt: ∀b,Y b->b<W0.heap.size)(h:Hq (Br B l D r Y W0) L Y' w):
 Hq B L (λb=>Y' b\/Y b\/b=D\/b=l) w:=by
 obtain ⟨h1,h2,h3,h4⟩:=h.rid;refine ⟨h.os,h.tape,h.output,h.size,h.keep,h.own,h.inj,λb hb hy=> ?_,λb hb=>hb.elim (h.high b) (hhi b),λb hb=> ?_,hr.less _ _ _ (λx hx=>by rcases hx with hx|hx|hx;exact .inl (.inl hx);exact .inl (.inr hx);exact .inr hx) h4⟩
 ·rcases hb with hb|hb|rfl|rfl
  ·exact h.apart b hb hy
  ·exact h3 b (.inl hy) hb
  ·exact h2.nD (.inl hy)
  ·exact h2.nl (.inl hy)
 ·rcases hb with hb|hb|rfl|rfl
  ·exact h.lt b hb
  ·exact Nat.lt_of_lt_of_le (hlt b hb) h1.size
  ·exact (Array.getElem?_eq_some_iff.1 h2.dfr).1
  ·exact (Array.getElem?_eq_some_iff.1 h2.loop).1
theorem EO{l D:Nat}{r:Loop}{W0:World}(hr:Rides B.J)(hhi: ∀b,Y b\/b=D\/b=l->B.w0.heap.size<=b)(hlt: ∀b,Y b->b<W0.heap.size)(hnl: ¬Y l)(hnD: ¬Y D)(h:Hp (Br B l D r Y W0) L w):
 Hq B L (λb=>Y b\/b=D\/b=l) w/\Rec l D r Y w/\Keeps Y W0 w:=by
 have h':=qH hr hhi hlt h;obtain ⟨h1,h2,h3,h4⟩:=h.rid;exact ⟨h'.lessY hr (λ_ hb=>.inr hb),⟨h2.loop,h2.dfr,h2.ne,hnl,hnD⟩,h1⟩
theorem YieldB.br{P:Program}{lo:Nat}{v:List Value}{B Bt Bf:Bs}(h:YieldB P lo v B Bt Bf)(l D:Nat)(r:Loop)(Y0:Nat->Prop)(W0:World):YieldB P lo v (Br B l D r Y0 W0) (Br Bt l D r Y0 W0) (Br Bf l D r Y0 W0):=by
 obtain ⟨e1,e2,m0,m1,m2,h⟩:=h;refine ⟨e1,e2,m0,m1,m2,λY W ⟨h1,h2,h3,h4⟩=> ?_⟩;obtain ⟨fn,tmps,assign,body,hr,hR⟩:=h _ W h4;refine ⟨fn,tmps,assign,body,hr,RoundIn.mono hR λe W' ⟨hk,hc⟩=> ?_⟩;have k1:Keeps Y0 W0 W':=⟨hk.os.trans h1.os,hk.tape.trans h1.tape,hk.output.trans h1.output,Nat.le_trans h1.size hk.size,λk hy=>(hk.same k (.inr (.inl hy))).trans (h1.same k hy)⟩;have k2:Rec l D r Y W':=⟨(hk.same l (.inr (.inr (.inr O)))).trans h2.loop,(hk.same D (.inr (.inr (.inl O)))).trans h2.dfr,h2.ne,h2.nl,h2.nD⟩;exact ⟨⟨hk.os,hk.tape,hk.output,hk.size,λk hy=>hk.same k (.inl hy)⟩,jJ (λ⟨e,hj⟩=>⟨e,k1,k2,h3,hj⟩) (λ⟨e,hj⟩=>⟨e,k1,k2,h3,hj⟩) hc⟩
def B2(B:Bs)(D:Nat):Bs:=⟨B.w0,B.M,λY W=>W.heap[D]? =some (.deferred (some []))/\¬Y D/\B.w0.heap.size<=D/\B.J (λb=>Y b\/b=D) W⟩
theorem EY(hr:Rides B.J)(D:Nat):Rides (B2 B D).J where
 grow:=λY w w' ⟨h1,h2,h3,h4⟩ hg=>⟨(hg.block D (Array.getElem?_eq_some_iff.1 h1).1).trans h1,h2,h3,hr.grow _ _ _ h4 hg⟩
 new:=λY w w' S ⟨h1,h2,h3,h4⟩ hg hS=>⟨(hg.block D (Array.getElem?_eq_some_iff.1 h1).1).trans h1,λe=>e.elim (λe=>by have:=(Array.getElem?_eq_some_iff.1 h1).1;have:=(hS _ e).1;omega) h2,h3,
  hr.less _ _ _ (λx hx=>by rcases hx with (hx|hx)|hx;exact .inl hx;exact .inr (.inl hx);exact .inr (.inr hx)) (hr.new _ w w' S h4 hg hS)⟩
 turn:=λY w w' b hb ⟨h1,h2,h3,h4⟩ ht=>⟨(ht.other D (λe=>h2 (e▸hb))).trans h1,h2,h3,hr.turn _ w w' b (.inl hb) h4 ht⟩
 less:=λY Y' w hs ⟨h1,h2,h3,h4⟩=>⟨h1,λe=>h2 (hs _ e),h3,hr.less _ _ _ (λx hx=>jJ (hs x) id hx) h4⟩
theorem Nk{D:Nat}(hr:Rides B.J)(h:Hq (B2 B D) L Y w):Hq B L (λb=>Y b\/b=D) w:=by
 obtain ⟨h1,h2,h3,h4⟩:=h.rid;exact ⟨h.os,h.tape,h.output,h.size,h.keep,h.own,h.inj,λb hb hy=>hb.elim (λhb=>h.apart b hb hy) (λe=>by subst e;exact h2 (.inl hy)),λb hb=>hb.elim (h.high b) (λe=>by subst e;exact h3),
  λb hb=>hb.elim (h.lt b) (λe=>by subst e;exact (Array.getElem?_eq_some_iff.1 h1).1),hr.less _ _ _ (λx hx=>by rcases hx with hx|hx|hx;exact .inl (.inl hx);exact .inl (.inr hx);exact .inr hx) h4⟩
theorem vW{G:Cls}(hB:BOk G B)(D:Nat):BOk G (B2 B D):=⟨λ_ _ _ h=>hB.g _ _ _ (Nk hB.r h),EY hB.r D⟩
theorem Pq{D:Nat}(hr:Rides B.J)(h:Hp (B2 B D) L w):Hp B L (w.putObj D (.deferred none)):=((Nk hr h).turnY hr (.inr O) (gT w D _)).lessY hr (λ_ h=>h.elim)
end
end
section
open Go.RowKit
def mkD(D:Nat):Deferred:={target:=.collected D,args:= #[]}
def i6:List Nat->List Value->Fr->Fr
 |p::ps,v::vs,F=>i6 ps vs ((p,v)::F)
 |_,_,F=>F
theorem pn{N:Nat}: ∀(ps:List Nat) (vs:List Value) (F:Fr) (a:Act),ps.all (Nat.blt · N)=true->Has N [] F a->Has N [] (i6 ps vs F) {tmps:=(ps.zip vs).foldl (λt (p,v)=>t.setIfInBounds p v) a.tmps,defers:=[]}
 |[],vs,F,a,_,h=>⟨by simpa [i6]using h.size,rfl,by simpa [i6]using h.get⟩
 |p::ps,[],F,a,_,h=>⟨by simpa [i6]using h.size,rfl,by simpa [i6]using h.get⟩
 |p::ps,v::vs,F,a,hp,h=>by
  simp only[List.all_cons,Bool.and_eq_true]at hp;have:=pn ps vs ((p,v)::F) (a.put (some p) v) hp.2 (h.put (by simpa using hp.1) v)
  simpa [i6,Act.put]using this
section
variable {P:Program} {G:Cls} {N:Nat} {ds:List Deferred} {F:Fr} {B:Bs} {L:Hl} {K:KK}
structure Rnd where
 (l D:Nat) (ra rb:Loop) (Y:Nat->Prop) (W:World)
def Rnd.a(R:Rnd)(B:Bs):Bs:=Br B R.l R.D R.ra R.Y R.W
def Rnd.b(R:Rnd)(B:Bs):Bs:=Br B R.l R.D R.rb R.Y R.W
def Rnd.Ok(R:Rnd)(G:Cls)(w0:World):Prop:= ∀B:Bs,B.w0=w0->BOk G B->BOk G (R.a B)/\BOk G (R.b B)/\(∀L Y w,Hq (R.b B) L Y w->∃Y',Hq B L Y' w)
def Krnd(R:Rnd)(Bk:Nat->Bs)(Be:Code->Nat->Bs)(Lk:Nat->Hl)(Ext:Code->Nat->Hl->Prop)(k:Nat):KK:=λe _ _ C'=> ∃L',match e with
 | .normal=>C'=Hp (R.b (Bk (k+1))) L'/\jP L' (Lk (k+1))
 | .ret=>C'=Hp (R.b (Be .ret (k+1))) L'/\Ext .ret (k+1) L'
 | .exit id=>C'=Hp (R.b (Be (.exit id) (k+1))) L'/\Ext (.exit id) (k+1) L'
 |_=>False
def Ud(P:Program)(G:Cls)(N:Nat)(body:Code)(R:Rnd)(Bk:Nat->Bs)(Be:Code->Nat->Bs)(Lk:Nat->Hl)(Ext:Code->Nat->Hl->Prop)(k:Nat):KK
 | .normal,ds',F',C'=>ds'=[]/\∃L',C'=Hp (R.a (Bk k)) L'/\X P G (some R.l) N [] body F' (Hp (R.b (Bk k)) L') (Krnd R Bk Be Lk Ext k)
 |_,_,_,_=>False
def RI(K:KK):Code->List Deferred->Fr->Cls->Prop
 | .ret=>K .ret
 | .exit id=>K (.exit id)
 |_=>λ_ _ _=>False
theorem fc{g:Operand}{ps:List Nat}{assign body:Code}{gf:Nat}{caps:List Value}{xs:List (List Value)}{Rd:Cls}(Bk:Nat->Bs)(Be:Code->Nat->Bs)(hBk: ∀k,BOk G (Bk k))(hBe: ∀c k,BOk G (Be c k))(hw0: ∀k,(Bk k).w0=B.w0)(hwe: ∀c k,(Be c k).w0=B.w0)
 (hBB:Bk 0=B) (hg:evF F g=some (.func (.func gf) #[] caps.toArray)) (he:ai P gf) (hseq:fD P G gf caps xs Rd)
 (hps: ∀x∈xs,x.length=ps.length) (hpN:ps.all (Nat.blt · N)=true) (Lk:Nat->Hl) (Ext:Code->Nat->Hl->Prop) (h0:jP L (Lk 0)) (hRd: ∀k Y w,Hq (Bk k) (Lk k) Y w->Rd w)
 (hround: ∀(k:Nat) (x:List Value),xs[k]? =some x->∀R:Rnd,R.Ok G B.w0->X P G (some R.l) N [] assign (i6 ps x F) (Hp (R.a (Bk k)) (Lk k)) (Ud P G N body R Bk Be Lk Ext k))
 (hdone: ∀D,BOk G (B2 (Bk xs.length) D)->K .normal (mkD D::ds) F (Hp (B2 (Bk xs.length) D) (Lk xs.length)))
 (hleave: ∀D c k L',BOk G (B2 (Be c k) D)->Ext c k L'->RI K c (mkD D::ds) F (Hp (B2 (Be c k) D) L')):X P G none N ds (.rangeFunc g ps.toArray assign body) F (Hp B L) K:=λ_ a w ha hw=>by
 refine wpIn_rangeFunc ?_;intro fn _;obtain ⟨rec,hrec⟩: ∃rec:LoopState->Option Code->Loop,rec=λst pe=>{state:=st,pending:=pe,fn,tmps:=a.tmps,params:=ps.toArray,assign,body,defers:=w.heap.size}:=⟨_,rfl⟩;obtain ⟨W1,hW1⟩: ∃W1,(w.alloc (.deferred (some []))).alloc (.loop (rec .ready none))=W1:=⟨_,rfl⟩;obtain ⟨D,hD⟩: ∃D,w.heap.size=D:=⟨_,rfl⟩;obtain ⟨l,hl⟩: ∃l,w.heap.size+1=l:=⟨_,rfl⟩;have g1:Grow w (w.alloc (.deferred (some []))):=(Below.refl _ w).alloc (Nat.le_refl _) _;have g2:Grow (w.alloc (.deferred (some []))) W1:=by rw[<-hW1];exact (Below.refl _ _).alloc (Nat.le_refl _) _
 have hL1:W1.heap[l]? =some (.loop (rec .ready none)):=by
  rw[<-hW1,<-hl];have:=World.alloc_heap_new (w.alloc (.deferred (some []))) (.loop (rec .ready none));rwa [World.size_alloc]at this
 have hK1:W1.heap[D]? =some (.deferred (some [])):=by
  rw[<-hD];exact (g2.block _ sm).trans (World.alloc_heap_new w _)
 have hs1:W1.heap.size=w.heap.size+2:=by rw[<-hW1];simp
 have hB:BOk G B:=hBB▸hBk 0;have hq1:Hq (Bk 0) (Lk 0) (λb=>b=l\/b=D\/False) W1:=by
  rw[hBB];have h1:=(cP hB.r h0 w hw).newY hB.r (b:=D) g1 om (by simp;omega)
  exact h1.newY hB.r (b:=l) g2 (by simp;omega) om
 have hrec1:Rec l D (rec .ready none) (λ_=>False) W1:=⟨hL1,hK1,om,λh=>h,λh=>h⟩;have hJ0:JC Bk l D (rec .ready none) Lk (λ_=>False) 0 W1:=⟨hq1.lessY (hBk 0).r (λb hb=>by rcases hb with h|h|h;exact h.elim;exact .inr (.inl h);exact .inl h),hrec1⟩
 have hhD:B.w0.heap.size<=D:=by have:=hw.size;omega
 have hhl:B.w0.heap.size<=l:=by have:=hw.size;omega
 refine ⟨l,[mkD D],W1,{target:=.fn (.func gf) caps.toArray,args:= #[.func (.yield l) #[] #[]]},W1,gf,(.func (.yield l) #[] #[]::caps).toArray,W1, ?_, ?_, ?_, ?_,λh=>(by cases h), ?_⟩
 ·rw[<-hW1,hrec,<-hl,<-hD];exact run_enterLoop_outer _ _ _ _ _
 ·have hev:=ha.ev hg
  simp only[resolve,hev];simp[Deferred.ofValue,Act.eval]
 ·intro f' _;trivial
 ·have:(callFunc gf (#[Value.func (.yield l) #[] #[]]++caps.toArray)).run P W1=_:=he _ W1
  simpa [invoke]using this
 have hcall:=hseq l (JC Bk l D (rec .ready none) Lk) (JX Be l D (λc=>rec .done (some c)) Ext) (E6 (λk=>(hBk k).r) l D _ Lk) (CX (λc k=>(hBe c k).r) l D _ Ext) (λY k W h=>⟨(hBk k).g _ _ _ h.1,hRd k _ W h.1⟩)
  (λY k W ⟨c,L',_,h,_⟩=>(hBe c k).g _ _ _ h) ?_ W1 hJ0
 ·refine CallsIn.mono (fS (ro:=none) hcall) λe w3 hpost=> ?_
  obtain ⟨⟨v,rfl⟩,hpost⟩:=hpost;rcases hpost with ⟨hq,hrc⟩|⟨k,c,L',hE,hq,hrc⟩
  ·have hend:=run_endLoop (P:=P) hrc.loop (by rw[hrec];simp)
   have pend:(rec .ready none).pending=none:=by rw[hrec]
   refine ⟨none,_,hend.trans (congrArg (λp=>Result.ok p (w3.putObj l (.loop {rec .ready none with state:=.exhausted}))) pend), ?_⟩
   have hq2:Hq (Bk xs.length) (Lk xs.length) (λb=>False\/b=D\/b=l) (w3.putObj l (.loop {rec .ready none with state:=.exhausted})):=hq.turnY (hBk _).r (.inr (.inr O)) (gT _ _ _)
   refine ⟨_,F,_,ay (vW (hBk _) D),⟨ha.size,by show [mkD D]++a.defers=_;rw[ha.defers];rfl,ha.get⟩, ?_,hdone D (vW (hBk _) D)⟩
   have hD3:(w3.putObj l (.loop {rec .ready none with state:=.exhausted})).heap[D]? =some (.deferred (some [])):=(World.putObj_heap_other (Ne.symm hrc.ne)).trans hrc.dfr
   exact ⟨hq2.os,hq2.tape,hq2.output,hq2.size,hq2.keep,hq2.own,hq2.inj,λ_ h=>h.elim,λ_ h=>h.elim,λ_ h=>h.elim,hD3,λe=>e.elim (hq2.apart D (.inr (.inl O))) id,by rw[hw0];exact hhD,
    (hBk _).r.less _ _ _ (λx hx=>by rcases hx with (hx|hx)|hx;exact .inl hx;exact hx.elim;exact .inr (.inr (.inl hx))) hq2.rid⟩
  ·have hend:=run_endLoop (P:=P) hrc.loop (by rw[hrec];simp)
   have pend:(rec .done (some c)).pending=some c:=by rw[hrec]
   refine ⟨some c,_,hend.trans (congrArg (λp=>Result.ok p (w3.putObj l (.loop {rec .done (some c)with state:=.exhausted}))) pend), ?_⟩
   have hq2:Hq (Be c k) L' (λb=>False\/b=D\/b=l) (w3.putObj l (.loop {rec .done (some c)with state:=.exhausted})):=hq.turnY (hBe c k).r (.inr (.inr O)) (gT _ _ _)
   have hD3:(w3.putObj l (.loop {rec .done (some c)with state:=.exhausted})).heap[D]? =some (.deferred (some [])):=(World.putObj_heap_other (Ne.symm hrc.ne)).trans hrc.dfr
   have hp2:Hp (B2 (Be c k) D) L' (w3.putObj l (.loop {rec .done (some c)with state:=.exhausted})):=
    ⟨hq2.os,hq2.tape,hq2.output,hq2.size,hq2.keep,hq2.own,hq2.inj,λ_ h=>h.elim,λ_ h=>h.elim,λ_ h=>h.elim,hD3,λe=>e.elim (hq2.apart D (.inr (.inl O))) id,by rw[hwe];exact hhD,
     (hBe c k).r.less _ _ _ (λx hx=>by rcases hx with (hx|hx)|hx;exact .inl hx;exact hx.elim;exact .inr (.inr (.inl hx))) hq2.rid⟩
   have hout:=hleave D c k L' (vW (hBe c k) D) hE;have hha:Has N (mkD D::ds) F {a with defers:=[mkD D]++a.defers}:=⟨ha.size,by show [mkD D]++a.defers=_;rw[ha.defers];rfl,ha.get⟩
   cases c with
   |ret=>exact wpIn_ret ⟨_,F,_,ay (vW (hBe .ret k) D),hha,hp2,hout⟩
   |exit id=>exact wpIn_exit ⟨_,F,_,ay (vW (hBe (.exit id) k) D),hha,hp2,hout⟩
   |_=>exact hout.elim
 ·intro Y k x W hx ⟨hq,hrc⟩
  have hy:=run_yield (P:=P) (args:=x.toArray) hrc.loop (by rw[hrec];simpa using hps x (List.mem_of_getElem? hx))
  rw[hrec]at hy;refine ⟨fn,_,assign,body,hy, ?_⟩;have hhi: ∀b,Y b\/b=D\/b=l->B.w0.heap.size<=b:=λb hb=>by rw[<-hw0 k];exact hq.high b hb
  have hlt: ∀b,Y b->b<W.heap.size:=λb hb=>hq.lt b (.inl hb);have hhi': ∀(B':Bs),B'.w0=B.w0->∀b,Y b\/b=D\/b=l->B'.w0.heap.size<=b:=λB' e b hb=>by rw[e];exact hhi b hb
  have okr: ∀(B':Bs),B'.w0=B.w0->BOk G B'->∀r,BOk G (Br B' l D r Y W):=λB' e hB' r=>⟨λL' Y' w' h=>hB'.g _ _ _ (qH hB'.r (hhi' B' e) hlt h),Hh hB'.r hlt⟩;refine roundIn_of_wpIn trivial ?_;have hX:=hround k x hx ⟨l,D,rec .ready none,rec .busy none,Y,W⟩ (λB' e hB'=>⟨okr B' e hB' _,okr B' e hB' _,λL' Y' w' h=>⟨_,qH hB'.r (hhi' B' e) hlt h⟩⟩);have hhas:Has N [] (i6 ps x F) {tmps:=(ps.toArray.zip x.toArray).foldl (λt (p,v)=>t.setIfInBounds p v) a.tmps,defers:=[]}:=by
   have:=pn ps x F {a with defers:=[]} hpN ⟨ha.size,rfl,ha.get⟩
   simpa using this
  refine wpIn_mono (hX (ay (okr _ (hw0 k) (hBk k) _)) _ W hhas (Xn (hBk k).r hq hrc)) λe a1 w1 ⟨ds1,F1,C1,_,ha1,hw1,hk1⟩=> ?_
  cases e with
  |normal=>
   obtain ⟨rfl,L1,rfl,hXb⟩:=hk1;have hrc1:=hw1.rid.2.1;have hbr:=run_beginRound (P:=P) hrc1.loop (by rw[hrec])
   refine ⟨_,hbr, ?_⟩;have hw2:Hp (Br (Bk k) l D (rec .busy none) Y W) L1 (w1.putObj l (.loop (rec .busy none))):=rA (hBk k).r (by rw[hw0];exact hhl) hrc.nl (rec .busy none) hw1
   have hw2':w1.putObj l (.loop {rec .ready none with state:=.busy})=w1.putObj l (.loop (rec .busy none)):=by rw[hrec]
   rw[hw2'];refine wpIn_mono (hXb (ay (okr _ (hw0 k) (hBk k) _)) a1 _ ha1 hw2) λe a3 w3 ⟨ds3,F3,C3,_,_,hw3,hk3⟩=> ?_;obtain ⟨L3,hk3⟩:=hk3;have fin: ∀(B':Bs),B'.w0=B.w0->BOk G B'->Hp (Br B' l D (rec .busy none) Y W) L3 w3->∀jump:Option Code,∃W4,(Instr.endRound l jump).run P w3=.ok (.bool jump.isNone) W4/\
    Hq B' L3 (λb=>Y b\/b=D\/b=l) W4/\Rec l D (rec (if jump.isNone then .ready else .done) jump) Y W4/\Keeps Y W W4:=λB' e hB' hw3 jump=>by
    have hrc3:=hw3.rid.2.1;have:=run_endRound (P:=P) jump hrc3.loop;refine ⟨w3.putObj l (.loop (rec (if jump.isNone then .ready else .done) jump)), ?_,EO hB'.r (hhi' B' e) hlt hrc.nl hrc.nD (rA hB'.r (by rw[e];exact hhl) hrc.nl _ hw3)⟩
    rw[hrec]at this⊢;exact this
   cases e with
   |normal=>
    obtain ⟨rfl,hk3⟩:=hk3;obtain ⟨W4,q0,q1,q2,q3⟩:=fin _ (hw0 _) (hBk _) hw3 none;exact ⟨_,W4,q0,q3,.inl ⟨rfl,cP (hBk _).r hk3 _ q1,q2⟩⟩
   |ret=>
    obtain ⟨rfl,hk3⟩:=hk3;obtain ⟨W4,q0,q1,q2,q3⟩:=fin _ (hwe _ _) (hBe _ _) hw3 (some .ret);exact ⟨_,W4,q0,q3,.inr ⟨rfl,.ret,L3,hk3,q1,q2⟩⟩
   |exit id=>
    obtain ⟨rfl,hk3⟩:=hk3;obtain ⟨W4,q0,q1,q2,q3⟩:=fin _ (hwe _ _) (hBe _ _) hw3 (some (.exit id));exact ⟨_,W4,q0,q3,.inr ⟨rfl,.exit id,L3,hk3,q1,q2⟩⟩
   |_=>exact hk3.elim
  |_=>exact hk1.elim
/-! ### A function with such a loop -/
def DC(P:Program)(fn:Func)(R:Ending->World->Prop):KK
 | .normal,ds,F,C| .ret,ds,F,C=> ∀a w,Has fn.ntmps ds F a->C w->LeavesInM Fence.wide 0 P fn a.tmps R ds .returning w
 |_,_,_,_=>False
theorem cw{f:FuncId}{fn:Func}{c:Code}{args:List Value}{w:World}{R:Ending->World->Prop}(hf:P.funcs[f]? =some fn)(hb:fn.body=some c)(hn:Nat.ble args.length fn.ntmps=true)
 (C0:Cls) (hC:C0 w) (hG:dJ G C0) (h:X P G none fn.ntmps [] c (kl 0 args) C0 (DC P fn R)):Calls P f args.toArray w R:=by
 refine (callsIn_wide (n:=0)).1 (callsIn_of_wp_marks hf hb trivial ?_);refine wpIn_mono (h hG _ w (wd args _ (Nat.le_of_ble_eq_true hn)) hC) λe a' w' ⟨ds',F',C',g',ha',hw',hk⟩=> ?_
 cases e with
 |normal=>have:=hk a' w' ha' hw';rw[<-ha'.defers]at this;exact this
 |ret=>have:=hk a' w' ha' hw';rw[<-ha'.defers]at this;exact this
 |_=>exact hk.elim
theorem qs{fn:Func}{tmps:Array Value}{R:Ending->World->Prop}{w:World}{v:Value}(h:(results fn tmps).run P w=.ok v w)(hR:R (.returned v) w):LeavesInM Fence.wide 0 P fn tmps R [] .returning w:=⟨v,h,hR⟩
theorem Kk{fn:Func}{R:Ending->World->Prop}{C:Cls}{e:Exit}(he:e=.ret\/e=.normal)(h:lW P fn R .ret [] F C):DC P fn R e [] F C:=by
 have key: ∀a w,Has fn.ntmps [] F a->C w->LeavesInM Fence.wide 0 P fn a.tmps R [] .returning w:=λa w ha hC=>by
  obtain ⟨v,h1,h2⟩:=h.2 a w ha hC;exact qs h1 h2
 rcases he with rfl|rfl<;>exact key
theorem dR{fn:Func}{R:Ending->World->Prop}{e:Exit}{D:Nat}(he:e=.ret\/e=.normal)(hr:Rides B.J)(h:lW P fn R .ret [] F (Hp B L)):DC P fn R e [mkD D] F (Hp (B2 B D) L):=by
 have key: ∀a w,Has fn.ntmps [mkD D] F a->Hp (B2 B D) L w->LeavesInM Fence.wide 0 P fn a.tmps R [mkD D] .returning w:=λa w ha hC=>by
  refine ⟨sm,.inl ⟨D,_,rfl,run_takeDeferred hC.rid.1, ?_⟩⟩;obtain ⟨v,h1,h2⟩:=h.2 {a with defers:=[]} _ ⟨ha.size,rfl,ha.get⟩ (Pq hr hC)
  exact qs h1 h2
 rcases he with rfl|rfl<;>exact key
end
end
end Go.Proofs.YtjookodjbjabbaaGreatDoor
