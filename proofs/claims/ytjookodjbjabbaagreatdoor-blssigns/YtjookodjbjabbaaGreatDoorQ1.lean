/- Q1 -/
import Derived.Test.YtjookodjbjabbaaGreatDoorM0
set_option maxRecDepth 100000
set_option maxHeartbeats 1000000
namespace Go.Proofs.YtjookodjbjabbaaGreatDoor
variable {P:Program} {G:Cls} {ro:Option Nat} {ops:Array Oper} {N:Nat} {ds:List Deferred} {fs:List Nat} {Z:Fr->Cls->Prop} {rest:List Oper} {B:Bs}
section
open Go.RowKit
/-! ### Rows of elements -/
def cel:List Zp->L6
 |[]=>[]
 |[x]=>fe x
 |x::y::r=>fe x++cel (y::r)
theorem ju(x:Zp)(r:List Zp):cel (x::r)=fe x++cel r:=by
 cases r with
 |nil=>exact (List.append_nil _).symm
 |cons y r=>rfl
theorem JM(a b:List Zp):cel (a++b)=cel a++cel b:=by
 induction a with
 |nil=>rfl
 |cons x a ih=>rw[List.cons_append,ju,ju,ih,List.append_assoc]
theorem l5(l:List Zp):(cel l).length=6*l.length:=by
 induction l with
 |nil=>rfl
 |cons x a ih=>rw[ju,List.length_append,a6,ih,List.length_cons];omega
abbrev clv(l:List Zp):List Value:=(cel l).map U64
theorem cU(l:List Zp):(clv l).length=6*l.length:=by rw[List.length_map,l5]
theorem iX(a b:List Zp):clv (a++b)=clv a++clv b:=by rw[clv,JM,List.map_append]
theorem JD(l:List Zp)(o k:Nat)(h:o+k<=l.length)(j:Nat)(v:Value)(hv:(clv ((l.drop o).take k))[j]? =some v):(clv l)[6*o+j]? =some v:=by
 have e:l=l.take o++((l.drop o).take k++(l.drop o).drop k):=by rw[List.take_append_drop,List.take_append_drop]
 have ho:(clv (l.take o)).length=6*o:=by rw[cU,List.length_take];omega
 rw[e,iX,iX,List.getElem?_append_right (by rw[ho];omega),ho,show 6*o+j-6*o=j by omega]
 rw[List.getElem?_append_left]
 ·exact hv
 ·exact (List.getElem?_eq_some_iff.1 hv).1
def Ic(o:Nat)(x l:List Zp):List Zp:=l.take o++(x++l.drop (o+x.length))
theorem tB{o:Nat}{x l:List Zp}(h:o+x.length<=l.length):lay (6*o) (clv x) (clv l)=clv (Ic o x l):=by
 rw[jc _ _ _ (by rw[cU,cU];omega),Ic,iX,iX,List.append_assoc]
 have e:l=l.take o++l.drop o:=(List.take_append_drop o l).symm;have e2:l=l.take (o+x.length)++l.drop (o+x.length):=(List.take_append_drop _ l).symm;have h1:(clv l).take (6*o)=clv (l.take o):=by
  conv=>lhs;rw[e,iX]
  exact List.take_left' (by rw[cU,List.length_take];omega)
 have h2:(clv l).drop (6*o+(clv x).length)=clv (l.drop (o+x.length)):=by
  conv=>lhs;rw[e2,iX]
  exact List.drop_left' (by rw[cU,cU,List.length_take];omega)
 rw[h1,h2]
theorem AP(l:List Zp):(clv l).all (·.oneCell')=true:=ba _
theorem AQ: ∀{a b:List Zp},a.length=b.length->cel a=cel b->a=b
 |[],[],_,_=>rfl
 |[],_::_,h,_=>by cases h
 |_::_,[],h,_=>by cases h
 |x::a,y::b,h,e=>by
  rw[ju,ju]at e;have k:=List.append_inj e (by rw[a6,a6])
  rw[pi.1 k.1,AQ (Nat.succ.inj h) k.2]
theorem Aa{a b:List Zp}(h:a.length=b.length):decide (cel a=cel b)=decide (a=b):=by
 by_cases e:a=b
 ·rw[e,decide_eq_true O,decide_eq_true O]
 ·rw[decide_eq_false e,decide_eq_false (λk=>e (AQ h k))]
/-! ### Values and blocks with names -/
abbrev S0:=List Zp⊕(Bool⊕(Value⊕(Nat×Nat)))
abbrev S1:=S0⊕List S0
abbrev SF:=List (Nat×S1)
abbrev SL:=List (Nat×List Zp×TypeId)
abbrev St:=SF×SL
abbrev Vw:=Nat×Option (List Value×List Value)
def vof(v:Vw)(o:Nat):Nat:=match v.2 with
 |none=>o
 |some q=>q.1.length+o
def ln(v:Vw)(c:List Value):List Value:=match v.2 with
 |none=>c
 |some q=>q.1++(c++q.2)
theorem ur(v:Vw)(a b:Nat):vof v a+b=vof v (a+b):=by
 obtain ⟨b0,_|q⟩:=v
 ·rfl
 ·exact Nat.add_assoc _ _ _
theorem zT(v:Vw){c:List Value}{o:Nat}{u:Value}(h:c[o]? =some u):(ln v c)[vof v o]? =some u:=by
 obtain ⟨b0,_|q⟩:=v
 ·exact h
 ·show (q.1++(c++q.2))[q.1.length+o]? =some u
  rw[List.getElem?_append_right (Nat.le_add_right _ _),Nat.add_sub_cancel_left,List.getElem?_append_left (List.getElem?_eq_some_iff.1 h).1];exact h
theorem Ft(v:Vw)(c:List Value){o k:Nat}(h:o+k<=c.length):vof v o+k<=(ln v c).length:=by
 obtain ⟨b0,_|q⟩:=v
 ·exact h
 ·show q.1.length+o+k<=(q.1++(c++q.2)).length
  rw[List.length_append,List.length_append];omega
theorem Do(v:Vw)(x c:List Value)(o:Nat)(h:o+x.length<=c.length):lay (vof v o) x (ln v c)=ln v (lay o x c):=by
 obtain ⟨b0,_|q⟩:=v
 ·rfl
 ·show lay (q.1.length+o) x (q.1++(c++q.2))=q.1++(lay o x c++q.2)
  rw[jc _ _ _ (by rw[List.length_append,List.length_append];omega),jc _ _ _ h,List.take_length_add_append,show q.1.length+o+x.length=q.1.length+(o+x.length)from Nat.add_assoc _ _ _,List.drop_length_add_append,List.take_append_of_le_length om,List.drop_append_of_le_length h]
  simp only[List.append_assoc]
def rid:Nat->Vw:=λn=>(n,none)
def dn(r:Nat->Vw):S0->Value
 | .inl l=>.agg (clv l).toArray
 | .inr (.inl b)=>.bool b
 | .inr (.inr (.inl v))=>v
 | .inr (.inr (.inr p))=>.pointer (some ⟨(r p.1).1,vof (r p.1) (6*p.2),none⟩)
def dn1(r:Nat->Vw):S1->Value
 | .inl s=>dn r s
 | .inr l=>.tuple (l.map (dn r)).toArray
def dF(r:Nat->Vw)(F:SF):Fr:=F.map λe=>(e.1,dn1 r e.2)
def dL(r:Nat->Vw)(L:SL):Hl:=L.map λe=>(e.1,(r e.1).1,ln (r e.1) (clv e.2.1),e.2.2)
def lkS:SF->Nat->Option S1
 |[],_=>none
 |(d,v)::F,t=>bif Nat.beq d t then some v else lkS F t
def lkL:SL->Nat->Option (List Zp×TypeId)
 |[],_=>none
 |(d,v)::F,t=>bif Nat.beq d t then some v else lkL F t
theorem rT(r:Nat->Vw)(t:Nat): ∀F:SF,lk (dF r F) t=(lkS F t).map (dn1 r)
 |[]=>rfl
 |(d,v)::F=>by
  show (bif Nat.beq d t then some (dn1 r v)else lk (dF r F) t)=(bif Nat.beq d t then some v else lkS F t).map (dn1 r)
  cases Nat.beq d t with
  |true=>rfl
  |false=>exact rT r t F
theorem qE(r:Nat->Vw)(t:Nat): ∀L:SL,lkB (dL r L) t=(lkL L t).map (λc=>((r t).1,ln (r t) (clv c.1),c.2))
 |[]=>rfl
 |(d,v)::L=>by
  show (bif Nat.beq d t then some ((r d).1,ln (r d) (clv v.1),v.2)else lkB (dL r L) t)=(bif Nat.beq d t then some v else lkL L t).map (λc=>((r t).1,ln (r t) (clv c.1),c.2))
  cases hb:Nat.beq d t with
  |true=>rw[Nat.eq_of_beq_eq_true hb];rfl
  |false=>exact qE r t L
def cst:Value->S0
 | .bool b=>.inr (.inl b)
 |v=>.inr (.inr (.inl (nrm v)))
theorem Oo(r:Nat->Vw)(v:Value):dn r (cst v)=nrm v:=by
 cases v<;>rfl
def evS(F:SF):Operand->Option S1
 | .tmp t=>lkS F t
 | .const v=>some (.inl (cst v))
 |_=>none
theorem eG{r:Nat->Vw}{F:SF}{x:Operand}{v:S1}(h:evS F x=some v):evF (dF r F) x=some (dn1 r v):=by
 cases x with
 |tmp t=>show lk (dF r F) t=_;rw[rT,show lkS F t=some v from h];rfl
 |const u=>
  have e:v=.inl (cst u):=(Option.some.inj h).symm;rw[e];show some (nrm u)=some (dn r (cst u));rw[Oo]
 |global g=>cases h
 |func f=>cases h
/-! ### Names that are new -/
def up(r:Nat->Vw)(d b:Nat):Nat->Vw:=λn=>bif Nat.beq n d then (b,none)else r n
theorem Md(r:Nat->Vw)(d b:Nat):up r d b d=(b,none):=by rw[up,Nat.beq_refl];rfl
theorem F6{r:Nat->Vw}{d b n:Nat}(h:Nat.beq n d=false):up r d b n=r n:=by rw[up,h];rfl
def Sm(N:Nat)(r0 r:Nat->Vw):Prop:= ∀n,N<=n->r n=r0 n
theorem Sm.rfl'{N:Nat}{r:Nat->Vw}:Sm N r r:=λ_ _=>rfl
theorem Sm.up{N:Nat}{r0 r:Nat->Vw}(h:Sm N r0 r){d:Nat}(hd:Nat.blt d N=true)(b:Nat):Sm N r0 (up r d b):=λn hn=>by
 have h1:d<N:=by simpa using hd
 rw[F6 (by cases hb:Nat.beq n d with
  |false=>rfl
  |true=>have:=Nat.eq_of_beq_eq_true hb;omega)]
 exact h n hn
def noS(d:Nat):S0->Bool
 | .inr (.inr (.inr p))=> !Nat.beq p.1 d
 |_=>true
def I7(d:Nat):S1->Bool
 | .inl s=>noS d s
 | .inr l=>l.all (noS d)
def iV(d:Nat)(s:St):Bool:=s.1.all (λe=>I7 d e.2) && s.2.all (λe=> !Nat.beq e.1 d)
theorem KQ{r:Nat->Vw}{d b:Nat}{s:S0}(h:noS d s=true):dn (up r d b) s=dn r s:=by
 rcases s with l|c|v|p
 ·rfl
 ·rfl
 ·rfl
 ·have h:(!Nat.beq p.1 d)=true:=h
  show Value.pointer (some ⟨(up r d b p.1).1,vof (up r d b p.1) (6*p.2),none⟩)=.pointer (some ⟨(r p.1).1,vof (r p.1) (6*p.2),none⟩);rw[F6 (by cases hb:Nat.beq p.1 d<;>rw[hb]at h<;>first|rfl|cases h)]
theorem OV{r:Nat->Vw}{d b:Nat}{s:S1}(h:I7 d s=true):dn1 (up r d b) s=dn1 r s:=by
 rcases s with s|l
 ·exact KQ h
 ·show Value.tuple (l.map (dn (up r d b))).toArray=.tuple (l.map (dn r)).toArray
  rw[List.map_congr_left (λx hx=>KQ (List.all_eq_true.1 h x hx))]
theorem Mr{r:Nat->Vw}{d b:Nat}{F:SF}(h:F.all (λe=>I7 d e.2)=true):dF (up r d b) F=dF r F:=
 List.map_congr_left λe he=>by rw[OV (List.all_eq_true.1 h e he)]
theorem Ll{r:Nat->Vw}{d b:Nat}{L:SL}(h:L.all (λe=> !Nat.beq e.1 d)=true):dL (up r d b) L=dL r L:=
 List.map_congr_left λe he=>by
  have h:=List.all_eq_true.1 h e he;rw[F6 (by cases hb:Nat.beq e.1 d<;>rw[hb]at h<;>first|rfl|cases h)]
/-! ### What is known of the program -/
structure Snd(P:Program)(G:Cls)(f:Nat)(c:List S0->Option S1):Prop where
 en:ai P f
 ok: ∀a v r,c a=some v->lZ P G f (a.map (dn r)) (dn1 r v)
structure Tb(P:Program)(G:Cls) where
 sz:TypeId->Option Nat
 fs:TypeId->Option (List (Nat×Nat))
 ct:List (Nat×(List S0->Option S1))
 hsz: ∀t k,sz t=some k->(∀w,(isAgg t).run P w=.ok true w)/\(∀w,(sizeOf t).run P w=.ok (6*k) w)/\∀w,(zeroValue t).run P w=.ok (.agg (clv (List.replicate k 0)).toArray) w
 hfs: ∀t l,fs t=some l->∃fields,P.underlying t=some (.struct fields)/\(∀w,(Array.mapM (λf=>Prod.mk f.offset<$>sizeOf f.type) fields:Sem _).run P w=.ok (l.map (λp=>(6*p.1,6*p.2))).toArray w)/\∀(i:Nat) (p:Nat×Nat),l[i]? =some p->∃(fd:Field) (m:Nat),fields[i]? =some fd/\fd.offset=6*p.1/\m≠0/\∀w,(sizeOf fd.type).run P w=.ok m w
 hct: ∀e∈ct,Snd P G e.1 e.2
 eq:TypeId->Bool
 heq: ∀t k,eq t=true->sz t=some k->(∀(op:BinOp) (x y:Operand) (xs ys:Array Value) (w:World),(eqGuard op t x y (.agg xs) (.agg ys)).run P w=.ok () w)/\∃d0,d0<=100/\EqF P t (6*k) d0
 ar:TypeId->Option Nat
 har: ∀t m,ar t=some m->∃n e,P.underlying t=some (.array n e)/\∀w,(sizeOf e).run P w=.ok (6*m) w
 bo:TypeId->Bool
 hbo: ∀t,bo t=true->P.underlying t=some .bool
def oh{α:Type}:List (Nat×α)->Nat->Option α
 |[],_=>none
 |(d,v)::F,t=>bif Nat.beq d t then some v else oh F t
theorem kD{α:Type}{t:Nat}{v:α}: ∀{l:List (Nat×α)},oh l t=some v->(t,v)∈l
 |[],h=>by cases h
 |(d,u)::l,h=>by
  unfold oh at h
  cases hb:Nat.beq d t with
  |true=>
   rw[hb]at h;have e:=Nat.eq_of_beq_eq_true hb;have e2:u=v:=Option.some.inj h;rw[<-e,<-e2];exact List.mem_cons_self
  |false=>rw[hb]at h;exact List.mem_cons_of_mem _ (kD h)
def HV:List (Nat×(List S0->Option S1))->Nat->List S0->Option S1
 |[],_,_=>none
 |(g,c)::r,f,a=>bif Nat.beq g f then (match c a with
  |some v=>some v
  |none=>HV r f a)else HV r f a
theorem qM{f:Nat}{a:List S0}{v:S1}: ∀{l:List (Nat×(List S0->Option S1))},HV l f a=some v->∃c,(f,c)∈l/\c a=some v
 |[],h=>by cases h
 |(g,c)::l,h=>by
  unfold HV at h
  cases hb:Nat.beq g f with
  |true=>
   rw[hb]at h;have e:=Nat.eq_of_beq_eq_true hb
   cases hc:c a with
   |some u=>
    simp only[hc,cond_true]at h
    cases h
    exact ⟨c,by rw[e];exact List.mem_cons_self,hc⟩
   |none=>
    simp only[hc,cond_true]at h;obtain ⟨d,hd,k⟩:=qM h;exact ⟨d,List.mem_cons_of_mem _ hd,k⟩
  |false=>
   rw[hb]at h;obtain ⟨d,hd,k⟩:=qM h;exact ⟨d,List.mem_cons_of_mem _ hd,k⟩
end
section
open Go.RowKit
def ze:S1->Option (List Zp)
 | .inl (.inl l)=>some l
 |_=>none
def nv:S1->Option (Nat×Nat)
 | .inl (.inr (.inr (.inr p)))=>some p
 |_=>none
def tL:S1->Option Bool
 | .inl (.inr (.inl b))=>some b
 |_=>none
def Lp:S1->Option (List S0)
 | .inr l=>some l
 |_=>none
def Ap:S1->Option S0
 | .inl s=>some s
 |_=>none
theorem qJ{v:S1}{l:List Zp}(h:ze v=some l):v=.inl (.inl l):=by
 rcases v with (x|x|x|x)|x<;>first|(cases h;done)|(cases h;rfl)
theorem kH{v:S1}{l:Nat×Nat}(h:nv v=some l):v=.inl (.inr (.inr (.inr l))):=by
 rcases v with (x|x|x|x)|x<;>first|(cases h;done)|(cases h;rfl)
theorem na{v:S1}{l:Bool}(h:tL v=some l):v=.inl (.inr (.inl l)):=by
 rcases v with (x|x|x|x)|x<;>first|(cases h;done)|(cases h;rfl)
theorem GD{v:S1}{l:List S0}(h:Lp v=some l):v=.inr l:=by
 rcases v with x|x<;>first|(cases h;done)|(cases h;rfl)
theorem qx{v:S1}{l:S0}(h:Ap v=some l):v=.inl l:=by
 rcases v with x|x<;>first|(cases h;done)|(cases h;rfl)
def evA(F:SF):List Operand->Option (List S0)
 |[]=>some []
 |x::r=>(evS F x).bind λv=>(Ap v).bind λs=>(evA F r).bind λl=>some (s::l)
theorem Fs{r:Nat->Vw}{F:SF}: ∀{l:List Operand} {vs:List S0},evA F l=some vs->evL (dF r F) l=some (vs.map (dn r))
 |[],vs,h=>by cases h;rfl
 |x::l,vs,h=>by
  obtain ⟨v,hv,h⟩:=Option.bind_eq_some_iff.1 h;obtain ⟨s,hs,h⟩:=Option.bind_eq_some_iff.1 h;obtain ⟨q,hq,h⟩:=Option.bind_eq_some_iff.1 h
  cases h
  rw[qx hs]at hv;have e:=eG (r:=r) hv;have e2:=Fs (r:=r) hq;simp only[evL,e,e2,List.map_cons,dn1]
def evP(F:SF):List (Nat×Operand)->Option (List (Nat×List Zp))
 |[]=>some []
 |x::r=>(evS F x.2).bind λv=>(ze v).bind λs=>(evP F r).bind λl=>some ((x.1,s)::l)
theorem FA{r:Nat->Vw}{F:SF}: ∀{l:List (Nat×Operand)} {vs:List (Nat×List Zp)},evP F l=some vs->evL (dF r F) (l.map (·.2))=some (vs.map (λp=>.agg (clv p.2).toArray))/\l.map (·.1)=vs.map (·.1)
 |[],vs,h=>by cases h;exact ⟨rfl,rfl⟩
 |x::l,vs,h=>by
  obtain ⟨v,hv,h⟩:=Option.bind_eq_some_iff.1 h;obtain ⟨s,hs,h⟩:=Option.bind_eq_some_iff.1 h;obtain ⟨q,hq,h⟩:=Option.bind_eq_some_iff.1 h
  cases h
  rw[qJ hs]at hv;have e:=eG (r:=r) hv;obtain ⟨e2,e3⟩:=FA (r:=r) hq;refine ⟨?_, ?_⟩
  ·simp only[List.map_cons,evL,e,e2,dn1,dn]
  ·rw[List.map_cons,List.map_cons,e3]
def lG(N:Nat)(d:Nat)(v:S1)(s:St):Option St:=bif Nat.blt d N then some ((d,v)::s.1,s.2)else none
theorem fo{N d:Nat}{v:S1}{s s':St}(h:lG N d v s=some s'):Nat.blt d N=true/\s'=((d,v)::s.1,s.2):=by
 unfold lG at h
 cases hb:Nat.blt d N with
 |true=>rw[hb]at h;cases h;exact ⟨rfl,rfl⟩
 |false=>rw[hb]at h;cases h
def u1(ops:Array Oper)(F:SF)(o:Oper):Option Bool:=
 match o.guard with
 |none=>some true
 |some (j,want)=>
  match (ops[j]?).bind (·.dst)with
  |none=>some false
  |some d=>
   match lkS F d with
   |some (.inl (.inr (.inl b)))=>some (b==want)
   |some (.inr _)=>some false
   |_=>none
theorem AD{ops:Array Oper}{r:Nat->Vw}{F:SF}{o:Oper}{b:Bool}(h:u1 ops F o=some b):aT ops (dF r F) o=some b:=by
 unfold u1 at h;unfold aT
 cases hg:o.guard with
 |none=>simp[hg]at h;simp[h]
 |some p=>
  obtain ⟨j,want⟩:=p;simp only[hg]at h⊢
  cases hd:(ops[j]?).bind (·.dst)with
  |none=>simp only[hd]at h⊢;exact h
  |some d=>
   simp only[hd]at h⊢;rw[rT]
   cases hl:lkS F d with
   |none=>simp[hl]at h
   |some v=>
    rw[hl]at h;rcases v with (x|x|x|x)|x
    ·simp at h
    ·exact h
    ·simp at h
    ·simp at h
    ·exact h
def Gk(l:List (Nat×Nat))(c:List Zp):List (Nat×List Zp)->Option (List Zp)
 |[]=>some c
 |(i,x)::r=>(l[i]?).bind λp=>bif Nat.beq x.length p.2 && Nat.ble (p.1+x.length) c.length then Gk l (Ic p.1 x c) r else none
theorem pD{l:List (Nat×Nat)}{out:List Zp}: ∀{ps:List (Nat×List Zp)} {c:List Zp},Gk l c ps=some out->Instr.fill (λi=>(l.map (λp=>(6*p.1,6*p.2))).toArray[i]?) (clv c).toArray (ps.map λp=>(p.1,.agg (clv p.2).toArray))=some (clv out).toArray
 |[],c,h=>by cases h;rfl
 |(i,x)::ps,c,h=>by
  obtain ⟨p,hp,h⟩:=Option.bind_eq_some_iff.1 h
  cases h1:Nat.beq x.length p.2 with
  |false=>rw[h1]at h;cases h
  |true=>
   cases h2:Nat.ble (p.1+x.length) c.length with
   |false=>rw[h1,h2]at h;cases h
   |true=>
    rw[h1,h2]at h;have e1:=Nat.eq_of_beq_eq_true h1;have e2:=Nat.le_of_ble_eq_true h2;have e3:=pD (ps:=ps) h;rw[List.map_cons,dv (off:=6*p.1) (size:=6*p.2) (vs:=clv x) (by simp[hp]) (by rw[cU,e1]) (by rw[cU,cU];omega),tB e2]
    exact e3
def Bp(m:Nat)(c:List Zp):List (Nat×List Zp)->Option (List Zp)
 |[]=>some c
 |(i,x)::r=>bif Nat.beq x.length m && Nat.ble (i*m+x.length) c.length then Bp m (Ic (i*m) x c) r else none
theorem uU{m:Nat}{out:List Zp}: ∀{ps:List (Nat×List Zp)} {c:List Zp},Bp m c ps=some out->Instr.fill (λi=>some (i*(6*m),6*m)) (clv c).toArray (ps.map λp=>(p.1,.agg (clv p.2).toArray))=some (clv out).toArray
 |[],c,h=>by cases h;rfl
 |(i,x)::ps,c,h=>by
  unfold Bp at h
  cases h1:Nat.beq x.length m with
  |false=>rw[h1]at h;cases h
  |true=>
   cases h2:Nat.ble (i*m+x.length) c.length with
   |false=>rw[h1,h2]at h;cases h
   |true=>
    rw[h1,h2]at h;have e1:=Nat.eq_of_beq_eq_true h1;have e2:=Nat.le_of_ble_eq_true h2;have e3:=uU (ps:=ps) h;have e4:i*(6*m)=6*(i*m):=Nat.mul_left_comm _ _ _;rw[List.map_cons,dv (off:=i*(6*m)) (size:=6*m) (vs:=clv x) O (by rw[cU,e1]) (by rw[cU,cU,e4];omega),e4,tB e2]
    exact e3
def OQ{P:Program}{G:Cls}(T:Tb P G)(fs:List Nat)(N:Nat)(s:St)(dst:Option Nat)(op:Op):Option St:=
 match dst with
 |none=>
  match op with
  | .store t x y=>(evS s.1 x).bind λu=>(nv u).bind λp=>(evS s.1 y).bind λv=>(ze v).bind λl=>(lkL s.2 p.1).bind λc=>(T.sz t).bind λk=>
   bif Nat.beq l.length k && Nat.ble (p.2+k) c.1.length then some (s.1,(p.1,Ic p.2 l c.1,c.2)::s.2)else none
  |_=>none
 |some d=>
  match op with
  | .move x=>(evS s.1 x).bind λv=>lG N d v s
  | .assign x=>(evS s.1 x).bind λv=>lG N d v s
  | .extract x i=>(evS s.1 x).bind λu=>(Lp u).bind λl=>(l[i]?).bind λv=>lG N d (.inl v) s
  | .load t x=>(evS s.1 x).bind λu=>(nv u).bind λp=>(lkL s.2 p.1).bind λc=>(T.sz t).bind λk=>
   bif Nat.ble (p.2+k) c.1.length then lG N d (.inl (.inl ((c.1.drop p.2).take k))) s else none
  | .fieldAddr t x f=>(evS s.1 x).bind λu=>(nv u).bind λp=>(T.fs t).bind λl=>(l[f]?).bind λq=>lG N d (.inl (.inr (.inr (.inr (p.1,p.2+q.1))))) s
  | .alloc t=>(T.sz t).bind λk=>bif iV d s && !fs.any (Nat.beq 2999999)then lG N d (.inl (.inr (.inr (.inr (d,0))))) (s.1,(d,List.replicate k 0,t)::s.2)else none
  | .box t x=>(evS s.1 x).bind λv=>(ze v).bind λl=>bif iV d s then lG N d (.inl (.inr (.inr (.inr (d,0))))) (s.1,(d,l,t)::s.2)else none
  | .build t ps=>(T.sz t).bind λk=>(evP s.1 ps.toList).bind λq=>(match T.fs t with
   |some l=>Gk l (List.replicate k 0) q
   |none=>(T.ar t).bind λm=>Bp m (List.replicate k 0) q).bind λo=>lG N d (.inl (.inl o)) s
  | .pick c x y=>(evS s.1 c).bind λu=>(tL u).bind λb=>(evS s.1 x).bind λv=>(evS s.1 y).bind λz=>lG N d (bif b then v else z) s
  | .unOp .not _ x=>(evS s.1 x).bind λu=>(tL u).bind λb=>lG N d (.inl (.inr (.inl (!b)))) s
  | .nilCheck x=>(evS s.1 x).bind λu=>(nv u).bind λp=>lG N d (.inl (.inr (.inr (.inr p)))) s
  |_=>none
abbrev Pa:=List (Option Bool)
abbrev CB:=List (Bool×Bool)
def rs0:S0->Pa->S0×Pa×CB
 | .inr (.inl b),some q::p=>(.inr (.inl q),p,[(b,q)])
 | .inr (.inl b),none::p=>(.inr (.inl b),p,[])
 |s,p=>(s,p,[])
def rsL:List S0->Pa->List S0×Pa×CB
 |[],p=>([],p,[])
 |s::l,p=>((rs0 s p).1::(rsL l (rs0 s p).2.1).1,(rsL l (rs0 s p).2.1).2.1,(rs0 s p).2.2++(rsL l (rs0 s p).2.1).2.2)
def rs1:S1->Pa->S1×Pa×CB
 | .inl s,p=>(.inl (rs0 s p).1,(rs0 s p).2.1,(rs0 s p).2.2)
 | .inr l,p=>(.inr (rsL l p).1,(rsL l p).2.1,(rsL l p).2.2)
def Ok(c:CB):Prop:= ∀x∈c,x.1=x.2
theorem Ok.l{a b:CB}(h:Ok (a++b)):Ok a:=λx hx=>h x (List.mem_append_left _ hx)
theorem Ok.r{a b:CB}(h:Ok (a++b)):Ok b:=λx hx=>h x (List.mem_append_right _ hx)
theorem GB(r:Nat->Vw)(s:S0)(p:Pa)(h:Ok (rs0 s p).2.2):dn r (rs0 s p).1=dn r s:=by
 rcases s with l|b|v|q
 ·rfl
 ·rcases p with _|⟨_|q,p⟩
  ·rfl
  ·rfl
  ·have e:b=q:=h (b,q) (List.mem_singleton.2 O)
   show Value.bool q=.bool b;rw[e]
 ·rfl
 ·rfl
theorem DD(r:Nat->Vw): ∀(l:List S0) (p:Pa),Ok (rsL l p).2.2->(rsL l p).1.map (dn r)=l.map (dn r)
 |[],_,_=>rfl
 |s::l,p,h=>by
  show dn r (rs0 s p).1::_=dn r s::_;rw[GB r s p h.l,DD r l _ h.r]
theorem OT(r:Nat->Vw)(s:S1)(p:Pa)(h:Ok (rs1 s p).2.2):dn1 r (rs1 s p).1=dn1 r s:=by
 rcases s with s|l
 ·exact GB r s p h
 ·show Value.tuple ((rsL l p).1.map (dn r)).toArray=.tuple (l.map (dn r)).toArray
  rw[DD r l p h]
def VE{P:Program}{G:Cls}(T:Tb P G)(fs:List Nat)(s:St):Op->Option S1
 | .call c=>
  match c.callee with
  | .value (.func f)=>bif !fs.any (Nat.beq f)then (evA s.1 c.args.toList).bind λa=>HV T.ct f a else none
  |_=>none
 | .binOp op t x y _=>(evS s.1 x).bind λu=>(evS s.1 y).bind λv=>
  match u,v with
  | .inl (.inl a),.inl (.inl b)=>(T.sz t).bind λk=>bif T.eq t && (Nat.beq a.length k && Nat.beq b.length k)then (match op with
   | .eql=>some (.inl (.inr (.inl (decide (a=b)))))
   | .neq=>some (.inl (.inr (.inl (!decide (a=b)))))
   |_=>none)else none
  | .inl (.inr (.inl a)),.inl (.inr (.inl b))=>bif T.bo t then (match op with
   | .eql=>some (.inl (.inr (.inl (a==b))))
   | .neq=>some (.inl (.inr (.inl (a !=b))))
   |_=>none)else none
  |_,_=>none
 |_=>none
def isV:Op->Bool
 | .call _=>true
 | .binOp .. =>true
 |_=>false
def Xy{P:Program}{G:Cls}(T:Tb P G)(fs:List Nat)(N:Nat)(s:St)(p:Pa)(d:Nat)(op:Op):Option (St×Pa×CB):=
 (VE T fs s op).bind λv=>(lG N d (rs1 v p).1 s).map λs'=>(s',(rs1 v p).2)
def stp{P:Program}{G:Cls}(T:Tb P G)(fs:List Nat)(N:Nat)(ops:Array Oper)(o:Oper)(s:St)(p:Pa):Option (St×Pa×CB):=
 match u1 ops s.1 o with
 |none=>none
 |some false=>match o.dst with
  |some d=>bif EE fs o then none else (lG N d (.inr []) s).map λs'=>(s',p,[])
  |none=>none
 |some true=>
  bif isV o.op then (match o.dst with
   |some d=>Xy T fs N s p d o.op
   |none=>none)
  else (OQ T fs N s o.dst o.op).map λs'=>(s',p,[])
theorem jC{a b:Bool}{α:Type}{x:Option α}{y:α}(h:(bif a && b then x else none)=some y):a=true/\b=true/\x=some y:=by
 cases a with
 |false=>cases h
 |true=>cases b with
  |false=>cases h
  |true=>exact ⟨rfl,rfl,h⟩
theorem fv{a:Bool}{α:Type}{x:Option α}{y:α}(h:(bif a then x else none)=some y):a=true/\x=some y:=by
 cases a with
 |false=>cases h
 |true=>exact ⟨rfl,h⟩
def mks:Op->Bool
 | .alloc _=>true
 | .box _ _=>true
 |_=>false
theorem Ix(T:Tb P G)(hB:BOk G B){dst:Option Nat}{op:Op}{ty:TypeId}{pos:String}{af:Array Edge}{gd:Option (Nat×Bool)}{s s':St}{r:Nat->Vw}(h:OQ T fs N s dst op=some s')(hw':aT ops (dF r s.1) ⟨dst,op,ty,pos,af,gd⟩=some true)(hk: ∀r',(mks op=false->r'=r)->Sm N r r'->Lx P G ro ops N ds (EE fs) Z rest (dF r' s'.1) (Hp B (dL r' s'.2))):
 Lx P G ro ops N ds (EE fs) Z (⟨dst,op,ty,pos,af,gd⟩::rest) (dF r s.1) (Hp B (dL r s.2)):=by
 cases dst with
 |none=>
  cases op with
  |store t x y=>
   obtain ⟨u,hu,h⟩:=Option.bind_eq_some_iff.1 h;obtain ⟨p,hp,h⟩:=Option.bind_eq_some_iff.1 h;obtain ⟨v,hv,h⟩:=Option.bind_eq_some_iff.1 h;obtain ⟨l,hl,h⟩:=Option.bind_eq_some_iff.1 h;obtain ⟨c,hc,h⟩:=Option.bind_eq_some_iff.1 h;obtain ⟨k,hz,h⟩:=Option.bind_eq_some_iff.1 h;obtain ⟨h1,h2,h⟩:=jC h
   cases h
   rw[kH hp]at hu;rw[qJ hl]at hv;have e1:=Nat.eq_of_beq_eq_true h1;have e2:=Nat.le_of_ble_eq_true h2;have hb:lkB (dL r s.2) p.1=some ((r p.1).1,ln (r p.1) (clv c.1),c.2):=by rw[qE,hc];rfl
   refine fQ p.1 hB (eG hu) (eG hv) hb (T.hsz t k hz).2.1 (by rw[cU,e1]) (AP l) (Ft _ _ (by rw[cU,cU];omega)) hw' ?_
   rw[Do _ _ _ _ (by rw[cU,cU];omega),tB om]
   exact hk r (λ_=>rfl) Sm.rfl'
  |_=>cases h
 |some d=>
  cases op with
  |move x=>
   obtain ⟨v,hv,h⟩:=Option.bind_eq_some_iff.1 h;obtain ⟨h1,rfl⟩:=fo h;exact AG (eG hv) hw' h1 (hk r (λ_=>rfl) Sm.rfl')
  |assign x=>
   obtain ⟨v,hv,h⟩:=Option.bind_eq_some_iff.1 h;obtain ⟨h1,rfl⟩:=fo h;exact rK (eG hv) hw' h1 (hk r (λ_=>rfl) Sm.rfl')
  |extract x i=>
   obtain ⟨u,hu,h⟩:=Option.bind_eq_some_iff.1 h;obtain ⟨l,hl,h⟩:=Option.bind_eq_some_iff.1 h;obtain ⟨v,hv,h⟩:=Option.bind_eq_some_iff.1 h;obtain ⟨h1,rfl⟩:=fo h;rw[GD hl]at hu;exact DL (v:=dn r v) (eG hu) (by simp[hv]) hw' h1 (hk r (λ_=>rfl) Sm.rfl')
  |load t x=>
   obtain ⟨u,hu,h⟩:=Option.bind_eq_some_iff.1 h;obtain ⟨p,hp,h⟩:=Option.bind_eq_some_iff.1 h;obtain ⟨c,hc,h⟩:=Option.bind_eq_some_iff.1 h;obtain ⟨k,hz,h⟩:=Option.bind_eq_some_iff.1 h;obtain ⟨h2,h⟩:=fv h;obtain ⟨h1,rfl⟩:=fo h;rw[kH hp]at hu;have e2:=Nat.le_of_ble_eq_true h2;have hb:lkB (dL r s.2) p.1=some ((r p.1).1,ln (r p.1) (clv c.1),c.2):=by rw[qE,hc];rfl
   have hz':=T.hsz t k hz;exact aw p.1 (clv ((c.1.drop p.2).take k)) (eG hu) hb hz'.1 hz'.2.1 (by rw[cU,List.length_take,List.length_drop];omega) (λj u hj=>by rw[ur];exact zT _ (JD c.1 p.2 k e2 j u hj)) hw' h1 (hk r (λ_=>rfl) Sm.rfl')
  |fieldAddr t x f=>
   obtain ⟨u,hu,h⟩:=Option.bind_eq_some_iff.1 h;obtain ⟨p,hp,h⟩:=Option.bind_eq_some_iff.1 h;obtain ⟨l,hl,h⟩:=Option.bind_eq_some_iff.1 h;obtain ⟨q,hq,h⟩:=Option.bind_eq_some_iff.1 h;obtain ⟨h1,rfl⟩:=fo h;rw[kH hp]at hu;obtain ⟨fields,hf,_,hi⟩:=T.hfs t l hl;obtain ⟨fd,m,g1,g2,g3,g4⟩:=hi f q hq;exact GY (vof (r p.1) (6*(p.2+q.1))) (eG hu) hf g1 g4 g3 (by rw[g2,ur,Nat.mul_add]) hw' h1 (hk r (λ_=>rfl) Sm.rfl')
  |alloc t=>
   obtain ⟨k,hz,h⟩:=Option.bind_eq_some_iff.1 h;obtain ⟨h2,h3,h⟩:=jC h;obtain ⟨h1,rfl⟩:=fo h;rw[iV,Bool.and_eq_true]at h2;refine dN d hB (T.hsz t k hz).2.2 hw' h1 (λb=> ?_) (by cases hq:fs.any (Nat.beq 2999999)<;>rw[hq]at h3<;>first|rfl|cases h3)
   have e:=hk (up r d b) (λh=>by cases h) (Sm.rfl'.up h1 b)
   rw[show dF (up r d b) ((d,Sum.inl (.inr (.inr (.inr (d,0)))))::s.1)=(d,.pointer (some ⟨(up r d b d).1,vof (up r d b d) 0,none⟩))::dF (up r d b) s.1 from O,show dL (up r d b) ((d,List.replicate k 0,t)::s.2)=(d,(up r d b d).1,ln (up r d b d) (clv (List.replicate k 0)),t)::dL (up r d b) s.2 from O,Md,Mr h2.1,Ll h2.2]at e;exact e
  |box t x=>
   obtain ⟨v,hv,h⟩:=Option.bind_eq_some_iff.1 h;obtain ⟨l,hl,h⟩:=Option.bind_eq_some_iff.1 h;obtain ⟨h2,h⟩:=fv h;obtain ⟨h1,rfl⟩:=fo h;rw[qJ hl]at hv;rw[iV,Bool.and_eq_true]at h2;refine Aj d hB (eG hv) hw' h1 (λb=> ?_);have e:=hk (up r d b) (λh=>by cases h) (Sm.rfl'.up h1 b)
   rw[show dF (up r d b) ((d,Sum.inl (.inr (.inr (.inr (d,0)))))::s.1)=(d,.pointer (some ⟨(up r d b d).1,vof (up r d b d) 0,none⟩))::dF (up r d b) s.1 from O,show dL (up r d b) ((d,l,t)::s.2)=(d,(up r d b d).1,ln (up r d b d) (clv l),t)::dL (up r d b) s.2 from O,Md,Mr h2.1,Ll h2.2]at e;exact e
  |build t ps=>
   obtain ⟨k,hz,h⟩:=Option.bind_eq_some_iff.1 h;obtain ⟨q,hq,h⟩:=Option.bind_eq_some_iff.1 h;obtain ⟨o,ho,h⟩:=Option.bind_eq_some_iff.1 h;obtain ⟨h1,rfl⟩:=fo h;obtain ⟨pl⟩:=ps;obtain ⟨e1,e2⟩:=FA (r:=r) (l:=pl) hq;refine ek (ps:=pl) e1 (v:=.agg (clv o).toArray) (λw=> ?_) hw' h1 (hk r (λ_=>rfl) Sm.rfl');rw[e2,List.zip_map']
   cases hl:T.fs t with
   |some l=>
    rw[hl]at ho;obtain ⟨fields,hf,hm,_⟩:=T.hfs t l hl;exact gw (T.hsz t k hz).2.2 hf hm _ (pD ho) w
   |none=>
    rw[hl]at ho;obtain ⟨m,hm,ho⟩:=Option.bind_eq_some_iff.1 ho;obtain ⟨n,e,hu,hs⟩:=T.har t m hm;have hf:=uU ho;simp only[Instr.build,(T.hsz t k hz).2.2,run_underlying hu,hs,Sem.run_bind,Result.andThen_ok];rw[show (Value.agg (clv (List.replicate k 0)).toArray).cells=(clv (List.replicate k 0)).toArray from O,hf];rfl
  |pick c x y=>
   obtain ⟨u,hu,h⟩:=Option.bind_eq_some_iff.1 h;obtain ⟨b,hb,h⟩:=Option.bind_eq_some_iff.1 h;obtain ⟨v,hv,h⟩:=Option.bind_eq_some_iff.1 h;obtain ⟨z,hz,h⟩:=Option.bind_eq_some_iff.1 h;obtain ⟨h1,rfl⟩:=fo h;rw[na hb]at hu;have e:=hk r (λ_=>rfl) Sm.rfl';refine zU (b:=b) (eG hu) (eG hv) (eG hz) hw' h1 ?_
   cases b with
   |true=>exact e
   |false=>exact e
  |unOp op t x=>
   cases op with
   |not=>
    obtain ⟨u,hu,h⟩:=Option.bind_eq_some_iff.1 h;obtain ⟨b,hb,h⟩:=Option.bind_eq_some_iff.1 h;obtain ⟨h1,rfl⟩:=fo h;rw[na hb]at hu;exact bi (eG hu) (λ_=>a5 _) hw' h1 (hk r (λ_=>rfl) Sm.rfl')
   |_=>cases h
  |nilCheck x=>
   obtain ⟨u,hu,h⟩:=Option.bind_eq_some_iff.1 h;obtain ⟨p,hp,h⟩:=Option.bind_eq_some_iff.1 h;obtain ⟨h1,rfl⟩:=fo h;rw[kH hp]at hu;exact dz (eG hu) hw' h1 (hk r (λ_=>rfl) Sm.rfl')
  |_=>cases h
theorem Ji(T:Tb P G){d:Nat}{op:Op}{ty:TypeId}{pos:String}{af:Array Edge}{gd:Option (Nat×Bool)}{s:St}{r:Nat->Vw}{v:S1}{C:Cls}(h:VE T fs s op=some v)(hw':aT ops (dF r s.1) ⟨some d,op,ty,pos,af,gd⟩=some true)(h1:Nat.blt d N=true)(hk:Lx P G ro ops N ds (EE fs) Z rest ((d,dn1 r v)::dF r s.1) C):
 Lx P G ro ops N ds (EE fs) Z (⟨some d,op,ty,pos,af,gd⟩::rest) (dF r s.1) C:=by
 cases op with
 |call c=>
  obtain ⟨cal,args,at'⟩:=c
  cases cal with
  |value x=>
   cases x with
   |func f=>
    obtain ⟨h3,h⟩:=fv h;obtain ⟨a,ha,h⟩:=Option.bind_eq_some_iff.1 h;obtain ⟨g,hg,hv⟩:=qM h;obtain ⟨al⟩:=args;have hs:=T.hct _ hg;exact mK (al:=al) (by cases hq:fs.any (Nat.beq f)<;>rw[hq]at h3<;>first|rfl|cases h3) (Fs ha) hs.en (hs.ok a v r hv) hw' h1 hk
   |_=>cases h
  |_=>cases h
 |binOp op t x y yt=>
  obtain ⟨u,hu,h⟩:=Option.bind_eq_some_iff.1 h;obtain ⟨z,hz,h⟩:=Option.bind_eq_some_iff.1 h;rcases u with (a|a|a|a)|a<;>rcases z with (b|b|b|b)|b<;>first|(cases h;done)|skip
  ·obtain ⟨k,hs,h⟩:=Option.bind_eq_some_iff.1 h
   obtain ⟨h3,h⟩:=fv h;simp only[Bool.and_eq_true]at h3;obtain ⟨h3,h4,h5⟩:=h3;have e4:=Nat.eq_of_beq_eq_true h4;have e5:=Nat.eq_of_beq_eq_true h5;obtain ⟨g,d0,hd0,he⟩:=T.heq t k h3 hs
   cases op with
   |eql=>
    cases h
    refine cr (eG hu) (eG hz) (λw=>g .eql x y _ _ w) (λw=>(zD he hd0 (cel a) (cel b) (by rw[l5,e4]) (by rw[l5,e5]) w).trans ?_) hw' h1 hk
    rw[Aa (by rw[e4,e5])];rfl
   |neq=>
    cases h
    refine cr (eG hu) (eG hz) (λw=>g .neq x y _ _ w) (λw=>(KA he hd0 (cel a) (cel b) (by rw[l5,e4]) (by rw[l5,e5]) w).trans ?_) hw' h1 hk
    rw[Aa (by rw[e4,e5])];rfl
   |_=>cases h
  ·obtain ⟨h3,h⟩:=fv h
   have hb:=T.hbo t h3
   cases op with
   |eql=>
    cases h
    exact cr (eG hu) (eG hz) (λ_=>rfl) (λw=>iy t hb a b w) hw' h1 hk
   |neq=>
    cases h
    exact cr (eG hu) (eG hz) (λ_=>rfl) (λw=>uD t hb a b w) hw' h1 hk
   |_=>cases h
 |_=>cases h
theorem JQ(T:Tb P G){d:Nat}{op:Op}{ty:TypeId}{pos:String}{af:Array Edge}{gd:Option (Nat×Bool)}{s s':St}{p p':Pa}{cs:CB}{r:Nat->Vw}(h:Xy T fs N s p d op=some (s',p',cs))(hc:Ok cs)(hw':aT ops (dF r s.1) ⟨some d,op,ty,pos,af,gd⟩=some true)(hk:Lx P G ro ops N ds (EE fs) Z rest (dF r s'.1) (Hp B (dL r s'.2))):
 Lx P G ro ops N ds (EE fs) Z (⟨some d,op,ty,pos,af,gd⟩::rest) (dF r s.1) (Hp B (dL r s.2)):=by
 obtain ⟨v,hv,h⟩:=Option.bind_eq_some_iff.1 h;obtain ⟨s1,hs1,h⟩:=Option.map_eq_some_iff.1 h;have e1:s1=s':=congrArg Prod.fst h;have e2:(rs1 v p).2.2=cs:=congrArg (λz=>z.2.2) h;obtain ⟨h1,e3⟩:=fo hs1;have hk':=hk;rw[<-e1,e3]at hk';refine Ji T hv hw' h1 ?_;rw[<-OT r v p (by rw[e2];exact hc)]
 exact hk'
theorem y2(T:Tb P G)(hB:BOk G B){o:Oper}{s s':St}{p p':Pa}{cs:CB}(h:stp T fs N ops o s p=some (s',p',cs))(hc:Ok cs)(r:Nat->Vw)(hk: ∀r',(mks o.op=false->r'=r)->Sm N r r'->Lx P G ro ops N ds (EE fs) Z rest (dF r' s'.1) (Hp B (dL r' s'.2))):
 Lx P G ro ops N ds (EE fs) Z (o::rest) (dF r s.1) (Hp B (dL r s.2)):=by
 unfold stp at h
 cases hw:u1 ops s.1 o with
 |none=>rw[hw]at h;cases h
 |some q=>
  rw[hw]at h
  cases q with
  |false=>
   cases hd:o.dst with
   |none=>simp only[hd]at h;cases h
   |some d=>
    simp only[hd]at h
    cases hE:EE fs o with
    |true=>rw[hE]at h;cases h
    |false=>
     rw[hE]at h;obtain ⟨s1,hs1,h⟩:=Option.map_eq_some_iff.1 h;have e1:s1=s':=congrArg Prod.fst h;obtain ⟨h1,e3⟩:=fo hs1;have hk':=hk r (λ_=>rfl) Sm.rfl';rw[<-e1,e3]at hk';refine Ae hE (AD hw) (by rw[hd];exact h1) ?_
     rw[hd];exact hk'
  |true=>
   have hw':=AD (r:=r) hw;obtain ⟨dst,op,ty,pos,af,gd⟩:=o
   cases hv:isV op with
   |true=>
    simp only[hv,cond_true]at h
    cases dst with
    |none=>cases h
    |some d=>exact JQ T h hc hw' (hk r (λ_=>rfl) Sm.rfl')
   |false=>
    simp only[hv,cond_false]at h;obtain ⟨s1,hs1,h⟩:=Option.map_eq_some_iff.1 h;have e1:s1=s':=congrArg Prod.fst h;subst e1;exact Ix T hB hs1 hw' hk
end
section
open Go.RowKit
abbrev RS:=Option (S1×CB)
def IF(c:CB):RS->RS:=λr=>r.map λv=>(v.1,c++v.2)
theorem tX{c:CB}{r:RS}{v:S1}{cs:CB}(h:IF c r=some (v,cs)): ∃cs',r=some (v,cs')/\cs=c++cs':=by
 cases r with
 |none=>cases h
 |some q=>cases h;exact ⟨q.2,rfl,rfl⟩
/-! ### Lists of operations -/
def xO{P:Program}{G:Cls}(T:Tb P G)(fs:List Nat)(N:Nat)(ops:Array Oper):List Oper->St->Pa->(St->Pa->RS)->RS
 |[],s,p,k=>k s p
 |o::r,s,p,k=>(stp T fs N ops o s p).bind λq=>IF q.2.2 (xO T fs N ops r q.1 q.2.1 k)
theorem uQ(T:Tb P G)(hB:BOk G B){Z:Fr->Cls->Prop}{v:S1}{k:St->Pa->RS}{r0:Nat->Vw}(hk: ∀s' p' cs' r,Sm N r0 r->k s' p'=some (v,cs')->Ok cs'->Z (dF r s'.1) (Hp B (dL r s'.2))): ∀{l:List Oper} {s:St} {p:Pa} {cs:CB},xO T fs N ops l s p k=some (v,cs)->Ok cs->∀r,Sm N r0 r->Lx P G ro ops N ds (EE fs) Z l (dF r s.1) (Hp B (dL r s.2))
 |[],s,p,cs,h,hc,r,hr=>aa (hk s p cs r hr h hc)
 |o::l,s,p,cs,h,hc,r,hr=>by
  obtain ⟨q,h1,h⟩:=Option.bind_eq_some_iff.1 h;obtain ⟨cs',h2,e⟩:=tX h;rw[e]at hc;exact y2 T hB (s':=q.1) (p':=q.2.1) (cs:=q.2.2) h1 hc.l r (λr' _ hr'=>uQ T hB hk h2 hc.r r' (λn hn=>(hr' n hn).trans (hr n hn)))
/-! ### Stores beside reads of other variables -/
def ltS(ms:List Nat):SL->SL
 |[]=>[]
 |e::L=>bif ms.any (Nat.beq e.1)then ltS ms L else e::ltS ms L
theorem xP{ms:List Nat}{n:Nat}{x:List Zp×TypeId}: ∀{L:SL},lkL (ltS ms L) n=some x->lkL L n=some x/\ms.any (Nat.beq n)=false
 |[],h=>by cases h
 |(d,v)::L,h=>by
  unfold ltS at h
  cases hm:ms.any (Nat.beq d)with
  |true=>
   simp only[hm,cond_true]at h;obtain ⟨h1,h2⟩:=xP h;refine ⟨?_,h2⟩;show (bif Nat.beq d n then some v else lkL L n)=some x
   cases hb:Nat.beq d n with
   |true=>rw[Nat.eq_of_beq_eq_true hb,h2]at hm;cases hm
   |false=>exact h1
  |false=>
   simp only[hm,cond_false]at h;have h:(bif Nat.beq d n then some v else lkL (ltS ms L) n)=some x:=h
   show (bif Nat.beq d n then some v else lkL L n)=some x/\_
   cases hb:Nat.beq d n with
   |true=>
    rw[hb]at h;exact ⟨h,by rw[<-Nat.eq_of_beq_eq_true hb];exact hm⟩
   |false=>
    rw[hb]at h;exact xP h
def Xb(s:SF)(o:Oper):Option Nat:=
 match o with
 |⟨none,.store _ x _,_,_,_,_⟩=>(evS s x).bind λu=>(nv u).map (·.1)
 |_=>none
def BA(l:List Oper)(F:SF):Nat->Operand->Option Nat
 |0,_=>none
 |n+1,x=>match (evS F x).bind nv with
  |some p=>some p.1
  |none=>match x with
   | .tmp t=>(l.find? λo=>match o.dst with
    |some d=>Nat.beq d t
    |none=>false).bind λo=>match o.op with
    | .fieldAddr _ y _=>BA l F n y
    | .nilCheck y=>BA l F n y
    | .move y=>BA l F n y
    |_=>none
   |_=>none
def stoR(l:List Oper)(F:SF)(o:Oper):Option Nat:=
 match o with
 |⟨none,.store _ x _,_,_,_,_⟩=>BA l F 5 x
 |_=>none
def xQ{P:Program}{G:Cls}(T:Tb P G)(N:Nat)(ops:Array Oper)(ms:List Nat):List Oper->St->Pa->(St->Pa->RS)->RS
 |[],s,p,k=>k s p
 |o::r,s,p,k=>
  bif EE [] o then
   (Xb s.1 o).bind λb=>bif ms.any (Nat.beq b)then (stp T [] N ops o s p).bind λq=>IF q.2.2 (xQ T N ops ms r q.1 q.2.1 k)else none
  else (stp T [] N ops o (s.1,ltS ms s.2) p).bind λq=>IF q.2.2 (xQ T N ops ms r (q.1.1,s.2) q.2.1 k)
theorem EX(hB:BOk G B)(ms:List Nat)(r:Nat->Vw)(L:SL): ∀w,Hp B (dL r L) w->Hp B (dL r (ltS ms L)) w:=λw hw=>hw.less hB.r λn x h=>by
 rw[qE]at h⊢;obtain ⟨c,hc,e⟩:=Option.map_eq_some_iff.1 h;rw[(xP hc).1];exact congrArg some e
theorem Tq(T:Tb P G){o:Oper}{s s':St}{p p':Pa}{cs:CB}{b:Nat}{ms:List Nat}(hb:Xb s.1 o=some b)(hm:ms.any (Nat.beq b)=true)(h:stp T [] N ops o s p=some (s',p',cs)):ltS ms s'.2=ltS ms s.2:=by
 obtain ⟨dst,op,ty,pos,af,gd⟩:=o
 cases dst with
 |some d=>cases hb
 |none=>
  cases op with
  |store t x y=>
   obtain ⟨u,hu,hb⟩:=Option.bind_eq_some_iff.1 hb;obtain ⟨q,hq,e⟩:=Option.map_eq_some_iff.1 hb;unfold stp at h
   cases hw:u1 ops s.1 ⟨none,.store t x y,ty,pos,af,gd⟩with
   |none=>rw[hw]at h;cases h
   |some g=>
    rw[hw]at h
    cases g with
    |false=>cases h
    |true=>
     obtain ⟨s1,h0,e1⟩:=Option.map_eq_some_iff.1 (show (OQ T [] N s none (.store t x y)).map (λs'=>(s',p,([]:CB)))=some (s',p',cs)from h);clear h;have h:=h0;have e1:s1=s':=congrArg Prod.fst e1;subst e1;obtain ⟨u',hu',h⟩:=Option.bind_eq_some_iff.1 h;obtain ⟨q',hq',h⟩:=Option.bind_eq_some_iff.1 h;obtain ⟨v,hv,h⟩:=Option.bind_eq_some_iff.1 h;obtain ⟨l,hl,h⟩:=Option.bind_eq_some_iff.1 h;obtain ⟨c,hc,h⟩:=Option.bind_eq_some_iff.1 h;obtain ⟨k,hz,h⟩:=Option.bind_eq_some_iff.1 h;obtain ⟨h1,h2,h⟩:=jC h
     cases h
     cases hu.symm.trans hu'
     cases hq.symm.trans hq'
     show (bif ms.any (Nat.beq q.1)then ltS ms s.2 else _)=ltS ms s.2
     rw[show q.1=b from e,hm];rfl
  |_=>cases hb
theorem VZ{o:Oper}(h:EE [] o=false):mks o.op=false:=by
 obtain ⟨dst,op,ty,pos,af,gd⟩:=o
 cases op<;>first|rfl|cases h
theorem Gb(T:Tb P G)(hB:BOk G B){Z:Fr->Cls->Prop}{v:S1}{k:St->Pa->RS}{ms:List Nat}{L0:SL}{r:Nat->Vw}(hk: ∀s' p' cs',k s' p'=some (v,cs')->Ok cs'->Z (dF r s'.1) (Hp B (dL r s'.2))): ∀{l:List Oper} {s:St} {p:Pa} {cs:CB},xQ T N ops ms l s p k=some (v,cs)->Ok cs->ltS ms s.2=L0->LxK P G ro ops N ds (EE []) (λX=>X=Hp B (dL r L0)) (λ_=>true) eT Z l (dF r s.1) (Hp B (dL r s.2))
 |[],s,p,cs,h,hc,_=>fI (hk s p cs h hc)
 |o::l,s,p,cs,h,hc,hL=>by
  unfold xQ at h
  cases hE:EE [] o with
  |true=>
   rw[hE]at h;obtain ⟨b,hb,h⟩:=Option.bind_eq_some_iff.1 h;obtain ⟨hm,h⟩:=fv h;obtain ⟨q,h1,h⟩:=Option.bind_eq_some_iff.1 h;obtain ⟨cs',h2,e⟩:=tX h;rw[e]at hc;have hL':ltS ms q.1.2=L0:=(Tq T (s':=q.1) (p':=q.2.1) (cs:=q.2.2) hb hm h1).trans hL;refine fE hE (y2 T hB (s':=q.1) (p':=q.2.1) (cs:=q.2.2) h1 hc.l r λr' hr _=>aa ?_);have hr:r'=r:=hr (by
    obtain ⟨dst,op,ty,pos,af,gd⟩:=o
    cases dst with
    |some d=>cases hb
    |none=>cases op<;>first|rfl|cases hb)
   subst hr;refine ⟨λ_ X hX _=> ?_,Gb T hB hk h2 hc.r hL'⟩;rw[hX,<-hL'];exact EX hB ms r' q.1.2
  |false=>
   rw[hE]at h;obtain ⟨q,h1,h⟩:=Option.bind_eq_some_iff.1 h;obtain ⟨cs',h2,e⟩:=tX h;rw[e]at hc;refine kh (X:=Hp B (dL r (ltS ms s.2))) hE (EX hB ms r s.2) (λ_=>by rw[hL]) (y2 T hB (s:=(s.1,ltS ms s.2)) (s':=q.1) (p':=q.2.1) (cs:=q.2.2) h1 hc.l r λr' hr _=>aa ?_)
   have hr:r'=r:=hr (VZ hE);subst hr;exact Gb T hB hk (s:=(q.1.1,s.2)) h2 hc.r hL
/-! ### Regions that draw their order -/
def grd(ops:Array Oper):Nat->Array Bool->List Nat
 |0,_=>[]
 |n+1,listed=>
  let R:=Region.ready .any ops listed
  match (R.find? λi=>(ops[i]?).any λo=> !EE [] o).orElse (λ_=>R.head?)with
  |none=>[]
  |some i=>i::grd ops n (listed.setIfInBounds i true)
def alS{P:Program}{G:Cls}(T:Tb P G)(N:Nat):Nat->List Oper->Option (List (Nat×Nat×TypeId×Nat))
 |_,[]=>some []
 |k,o::r=>(alS T N (k+1) r).bind λq=>
  match o with
  |⟨some d,.alloc t,_,_,_,none⟩=>(T.sz t).bind λm=>bif Nat.blt d N then some ((k,d,t,m)::q)else none
  |⟨_,.alloc _,_,_,_,_⟩=>none
  |⟨_,.box _ _,_,_,_,_⟩=>none
  |_=>some q
def Wq(ops:Array Oper):List Nat->List Nat->List Nat
 |dep,[]=>dep
 |dep,i::r=>Wq ops (bif !dep.any (Nat.beq i) && dep.any (λj=>waits .any ops i j)then i::dep else dep) r
def AlS(a:Nat×Nat×TypeId×Nat):AL:=⟨a.1,a.2.1,a.2.2.1,clv (List.replicate a.2.2.2 0)⟩
def mkF(a:Nat×Nat×TypeId×Nat):Nat×S1:=(a.2.1,.inl (.inr (.inr (.inr (a.2.1,0)))))
def mkL(a:Nat×Nat×TypeId×Nat):Nat×List Zp×TypeId:=(a.2.1,List.replicate a.2.2.2 0,a.2.2.1)
def xR{P:Program}{G:Cls}(T:Tb P G)(N:Nat)(l:List Oper)(draw:Bool)(s:St)(p:Pa)(k:St->Pa->RS):RS:=
 bif draw then
  bif Region.noSelect l.toArray && db l.toArray then
   (alS T N 0 l).bind λAs=>
    match As with
    |[]=>
     let σ:=grd l.toArray l.length (Array.replicate l.toArray.size false)
     bif Nat.beq σ.length l.length && eQ .any l.toArray (EE []) σ (Array.replicate l.toArray.size false)then xO T [] N l.toArray (fT σ l) s p k else
     bif Nat.beq σ.length l.length && jB .any l.toArray (EE []) (λ_=>true) eT σ (Array.replicate l.toArray.size false)then xQ T N l.toArray (l.filterMap (stoR l s.1)) (fT σ l) s p k else none
    |A::As=>
     let ks:=(A::As).map (·.1)
     let dep:=Wq l.toArray ks (List.range l.length)
     let σ1:=(List.range l.length).filter λi=> !dep.any (Nat.beq i)
     let σ2:=(List.range l.length).filter λi=>dep.any (Nat.beq i) && !ks.any (Nat.beq i)
     let l0:=Array.replicate l.toArray.size false
     let l1:=fL ks (fL σ1 l0)
     bif Nat.beq (σ1.length+(ks.length+σ2.length)) l.length && nW .any l.toArray (EE [2999999]) σ1 l0 && nE .any l.toArray l1 ks.length ks (fL σ1 l0) && mz .any l.toArray l1 && eQ .any l.toArray (EE [2999999]) σ2 l1 && decide (((A::As).map (·.2.1)).Nodup)then
      xO T [2999999] N l.toArray (fT σ1 l) s p λs1 p1=>
       bif (A::As).all (λa=>iV a.2.1 s1 && (lkS s1.1 a.2.1).isNone && (lkL s1.2 a.2.1).isNone)then xO T [2999999] N l.toArray (fT σ2 l) ((A::As).map mkF++s1.1,(A::As).map mkL++s1.2) p1 k else none
     else none
  else none
 else xO T [] N l.toArray l s p k
def ups(ds:List Nat)(adr:Nat->Nat)(r:Nat->Vw):Nat->Vw:=λn=>bif ds.any (Nat.beq n)then (adr n,none)else r n
theorem Sm.ups{N:Nat}{r0 r:Nat->Vw}(h:Sm N r0 r){ds:List Nat}(hd: ∀d∈ds,Nat.blt d N=true)(adr:Nat->Nat):Sm N r0 (ups ds adr r):=λn hn=>by
 have k:ds.any (Nat.beq n)=false:=by
  rw[List.any_eq_false];intro d hd' hb;have h1:d<N:=by simpa using hd d hd'
  have:=Nat.eq_of_beq_eq_true hb;omega
 rw[YtjookodjbjabbaaGreatDoor.ups,k];exact h n hn
theorem DF{ds:List Nat}{adr:Nat->Nat}{r:Nat->Vw}{s:S0}(h: ∀d∈ds,noS d s=true):dn (ups ds adr r) s=dn r s:=by
 rcases s with l|c|v|p
 ·rfl
 ·rfl
 ·rfl
 ·show Value.pointer (some ⟨(ups ds adr r p.1).1,vof (ups ds adr r p.1) (6*p.2),none⟩)=.pointer (some ⟨(r p.1).1,vof (r p.1) (6*p.2),none⟩)
  have e:ds.any (Nat.beq p.1)=false:=by
   rw[List.any_eq_false];intro d hd;have h:(!Nat.beq p.1 d)=true:=h d hd
   cases hb:Nat.beq p.1 d<;>rw[hb]at h<;>first|exact Bool.false_ne_true|cases h
  rw[ups,e];rfl
theorem Kf{ds:List Nat}{adr:Nat->Nat}{r:Nat->Vw}{s:S1}(h: ∀d∈ds,I7 d s=true):dn1 (ups ds adr r) s=dn1 r s:=by
 rcases s with s|l
 ·exact DF h
 ·show Value.tuple (l.map (dn (ups ds adr r))).toArray=.tuple (l.map (dn r)).toArray
  rw[List.map_congr_left (λx hx=>DF (λd hd=>List.all_eq_true.1 (h d hd) x hx))]
theorem Pw{ds:List Nat}{adr:Nat->Nat}{r:Nat->Vw}{s:St}(h: ∀d∈ds,iV d s=true):dF (ups ds adr r) s.1=dF r s.1:=
 List.map_congr_left λe he=>by
  rw[Kf (λd hd=> ?_)];have:=h d hd;rw[iV,Bool.and_eq_true]at this;exact List.all_eq_true.1 this.1 e he
theorem O2{ds:List Nat}{adr:Nat->Nat}{r:Nat->Vw}{s:St}(h: ∀d∈ds,iV d s=true):dL (ups ds adr r) s.2=dL r s.2:=
 List.map_congr_left λe he=>by
  have k:ds.any (Nat.beq e.1)=false:=by
   rw[List.any_eq_false];intro d hd;have:=h d hd;rw[iV,Bool.and_eq_true]at this;have h:=List.all_eq_true.1 this.2 e he
   cases hb:Nat.beq e.1 d<;>rw[hb]at h<;>first|exact Bool.false_ne_true|cases h
  rw[show ups ds adr r e.1=r e.1 from by rw[ups,k];rfl]
theorem GF{ds:List Nat}{adr:Nat->Nat}{r:Nat->Vw}{n:Nat}(h:n∈ds):ups ds adr r n=(adr n,none):=by
 have e:ds.any (Nat.beq n)=true:=List.any_eq_true.2 ⟨n,h,Nat.beq_refl n⟩;rw[ups,e];rfl
section
variable {K:KK}
theorem NM{a:Bool}{α:Type}{x y:Option α}{z:α}(h:(bif a then x else y)=some z):(a=true/\x=some z)\/y=some z:=by
 cases a with
 |true=>exact .inl ⟨rfl,h⟩
 |false=>exact .inr h
theorem FE(T:Tb P G){ro:Option Nat}{l0:List Oper}: ∀{l:List Oper} {k:Nat} {As:List (Nat×Nat×TypeId×Nat)},(∀i o,l[i]? =some o->l0.toArray[k+i]? =some o)->alS T N k l=some As->∀x∈As.map AlS,k3 P ro l0.toArray (EE [2999999]) N x
 |[],k,As,_,h,x,hx=>by cases h;cases hx
 |o::l,k,As,hl,h,x,hx=>by
  obtain ⟨q,hq,h⟩:=Option.bind_eq_some_iff.1 h;have ih:=FE T (ro:=ro) (l0:=l0) (l:=l) (k:=k+1) (λi o' ho=>by rw[show k+1+i=k+(i+1) by omega];exact hl (i+1) o' ho) hq
  have h0:=hl 0 o O;rw[Nat.add_zero]at h0;split at h
  ·obtain ⟨m,hm,h⟩:=Option.bind_eq_some_iff.1 h
   obtain ⟨hd,h⟩:=fv h
   cases h
   rw[List.map_cons,List.mem_cons]at hx;rcases hx with rfl|hx
   ·exact bD h0 (T.hsz _ m hm).2.2 hd
   ·exact ih x hx
  ·cases h
  ·cases h
  ·cases h;exact ih x hx
theorem HQ(T:Tb P G): ∀{l:List Oper} {k:Nat} {As:List (Nat×Nat×TypeId×Nat)},alS T N k l=some As->∀a∈As,Nat.blt a.2.1 N=true
 |[],k,As,h,x,hx=>by cases h;cases hx
 |o::l,k,As,h,x,hx=>by
  obtain ⟨q,hq,h⟩:=Option.bind_eq_some_iff.1 h;have ih:=HQ T (l:=l) (k:=k+1) hq;split at h
  ·obtain ⟨m,hm,h⟩:=Option.bind_eq_some_iff.1 h
   obtain ⟨hd,h⟩:=fv h
   cases h
   rcases List.mem_cons.1 hx with rfl|hx
   ·exact hd
   ·exact ih x hx
  ·cases h
  ·cases h
  ·cases h;exact ih x hx
theorem WS(As:List (Nat×Nat×TypeId×Nat)):(As.map AlS).map (·.d)=As.map (·.2.1):=by rw[List.map_map];rfl
theorem DE(As:List (Nat×Nat×TypeId×Nat)):(As.map AlS).map (·.k)=As.map (·.1):=by rw[List.map_map];rfl
theorem US{As:List (Nat×Nat×TypeId×Nat)}{adr:Nat->Nat}{r:Nat->Vw}{s:St}(h: ∀a∈As,iV a.2.1 s=true):FS (As.map AlS) adr (dF r s.1)=dF (ups (As.map (·.2.1)) adr r) (As.map mkF++s.1):=by
 have hd: ∀d∈As.map (·.2.1),iV d s=true:=λd hd=>by
  obtain ⟨a,ha,rfl⟩:=List.mem_map.1 hd;exact h a ha
 show (As.map AlS).map _++dF r s.1=List.map _ (As.map mkF++s.1);rw[List.map_append,List.map_map,List.map_map];refine congr (congrArg _ (List.map_congr_left λa ha=> ?_)) (Pw hd).symm;show (a.2.1,Value.pointer (some ⟨adr a.2.1,0,none⟩))=(a.2.1,Value.pointer (some ⟨(ups (As.map (·.2.1)) adr r a.2.1).1,vof (ups (As.map (·.2.1)) adr r a.2.1) (6*0),none⟩));rw[GF (List.mem_map.2 ⟨a,ha,rfl⟩)];rfl
theorem Wc{As:List (Nat×Nat×TypeId×Nat)}{adr:Nat->Nat}{r:Nat->Vw}{s:St}(h: ∀a∈As,iV a.2.1 s=true):LS (As.map AlS) adr (dL r s.2)=dL (ups (As.map (·.2.1)) adr r) (As.map mkL++s.2):=by
 have hd: ∀d∈As.map (·.2.1),iV d s=true:=λd hd=>by
  obtain ⟨a,ha,rfl⟩:=List.mem_map.1 hd;exact h a ha
 show (As.map AlS).map _++dL r s.2=List.map _ (As.map mkL++s.2);rw[List.map_append,List.map_map,List.map_map];refine congr (congrArg _ (List.map_congr_left λa ha=> ?_)) (O2 hd).symm;show (a.2.1,adr a.2.1,clv (List.replicate a.2.2.2 0),a.2.2.1)=(a.2.1,(ups (As.map (·.2.1)) adr r a.2.1).1,ln (ups (As.map (·.2.1)) adr r a.2.1) (clv (List.replicate a.2.2.2 0)),a.2.2.1);rw[GF (List.mem_map.2 ⟨a,ha,rfl⟩)];rfl
theorem xR_X(T:Tb P G)(hm:P.follows .mixedOrders=true)(hB:BOk G B){id:Nat}{l:List Oper}{draw:Bool}{s:St}{p:Pa}{k:St->Pa->RS}{v:S1}{cs:CB}(h:xR T N l draw s p k=some (v,cs))(hc:Ok cs){r0:Nat->Vw}(hk: ∀s' p' cs' r,Sm N r0 r->k s' p'=some (v,cs')->Ok cs'->K .normal ds (dF r s'.1) (Hp B (dL r s'.2)))(r:Nat->Vw)(hr:Sm N r0 r):
 X P G ro N ds (.region id l.toArray draw) (dF r s.1) (Hp B (dL r s.2)) K:=by
 cases draw with
 |false=>exact bF (uQ T hB (Z:=K .normal ds) hk h hc r hr)
 |true=>
  obtain ⟨hs,hd,h⟩:=jC h;obtain ⟨As,hA,h⟩:=Option.bind_eq_some_iff.1 h
  cases As with
  |nil=>
   rcases NM h with ⟨h1,h⟩|h
   ·rw[Bool.and_eq_true]at h1
    exact Bo _ hm (Nat.eq_of_beq_eq_true h1.1) hs hd h1.2 (uQ T hB (Z:=K .normal ds) hk h hc r hr)
   ·obtain ⟨h1,h2,h⟩:=jC h
    exact ou _ _ _ _ hm (Nat.eq_of_beq_eq_true h1) hs hd h2 (Gb T hB (Z:=K .normal ds) (λs' p' cs'=>hk s' p' cs' r hr) h hc O)
  |cons A As=>
   obtain ⟨h1,h⟩:=fv h;generalize hq:A::As=AA at hA h h1;simp only[Bool.and_eq_true]at h1;obtain ⟨⟨⟨⟨⟨c1,c2⟩,c3⟩,c4⟩,c5⟩,c6⟩:=h1;refine A9 _ (AA.map AlS) _ hm (by rw[List.length_map];have:=Nat.eq_of_beq_eq_true c1;rw[List.length_map]at this;exact this) hs hd c2 (by rw[DE,List.length_map];rw[List.length_map]at c3;exact c3) (by rw[DE];exact c4) (by rw[DE];exact c5) (by rw[WS];exact of_decide_eq_true c6) (FE T (l0:=l) (λi o ho=>by rw[Nat.zero_add,List.getElem?_toArray];exact ho) hA) ?_
   refine uQ T hB (r0:=r0) (λs1 p1 cs1 r' hr' h hc=> ?_) h hc r hr;obtain ⟨hf,h⟩:=fv h;have hf': ∀a∈AA,iV a.2.1 s1=true/\lkS s1.1 a.2.1=none/\lkL s1.2 a.2.1=none:=λa ha=>by
    have:=List.all_eq_true.1 hf a ha;simp only[Bool.and_eq_true,Option.isNone_iff_eq_none]at this;exact ⟨this.1.1,this.1.2,this.2⟩
   refine ⟨B,dL r' s1.2,rfl,hB,λx hx=> ?_,λx hx=> ?_,λadr=> ?_⟩
   ·obtain ⟨a,ha,rfl⟩:=List.mem_map.1 hx
    show lk (dF r' s1.1) a.2.1=none;rw[rT,(hf' a ha).2.1];rfl
   ·obtain ⟨a,ha,rfl⟩:=List.mem_map.1 hx
    show lkB (dL r' s1.2) a.2.1=none;rw[qE,(hf' a ha).2.2];rfl
   ·rw[US (λa ha=>(hf' a ha).1),Wc (λa ha=>(hf' a ha).1)]
    exact uQ T hB (Z:=K .normal ds) hk h hc _ (hr'.ups (λd hd=>by
     obtain ⟨a,ha,rfl⟩:=List.mem_map.1 hd;exact HQ T hA a ha) adr)
end
/-! ### Code -/
abbrev KS:=St->Pa->RS
def xC{P:Program}{G:Cls}(T:Tb P G)(N:Nat):Code->St->Pa->KS->(Nat->KS)->KS->RS
 | .skip,s,p,kn,_,_=>kn s p
 | .region _ ops draw,s,p,kn,_,_=>xR T N ops.toList draw s p kn
 | .seq a b,s,p,kn,ke,kr=>xC T N a s p (λs' p'=>xC T N b s' p' kn ke kr) ke kr
 | .cond c a b,s,p,kn,ke,kr=>(evS s.1 c).bind λu=>(tL u).bind λq=>bif q then xC T N a s p kn ke kr else xC T N b s p kn ke kr
 | .block id c,s,p,kn,ke,kr=>xC T N c s p kn (λi s' p'=>bif Nat.beq i id then kn s' p' else ke i s' p') kr
 | .exit id,s,p,_,ke,_=>ke id s p
 | .ret,s,p,_,_,kr=>kr s p
 |_,_,_,_,_,_=>none
abbrev KOk(N:Nat)(r0:Nat->Vw)(B:Bs)(v:S1)(k:KS)(K:List Deferred->Fr->Cls->Prop):Prop:= ∀s' p' cs' r,Sm N r0 r->k s' p'=some (v,cs')->Ok cs'->K [] (dF r s'.1) (Hp B (dL r s'.2))
theorem y5(T:Tb P G)(hm:P.follows .mixedOrders=true)(hB:BOk G B){v:S1}{r0:Nat->Vw}: ∀(c:Code) {s:St} {p:Pa} {kn:KS} {ke:Nat->KS} {kr:KS} {cs:CB} {K:KK},xC T N c s p kn ke kr=some (v,cs)->Ok cs->
 KOk N r0 B v kn (K .normal)->(∀i,KOk N r0 B v (ke i) (K (.exit i)))->KOk N r0 B v kr (K .ret)->∀r,Sm N r0 r->X P G none N [] c (dF r s.1) (Hp B (dL r s.2)) K
 | .skip,s,p,kn,ke,kr,cs,K,h,hc,h1,h2,h3,r,hr=>ap (h1 s p cs r hr h hc)
 | .region id ops draw,s,p,kn,ke,kr,cs,K,h,hc,h1,h2,h3,r,hr=>by
  obtain ⟨l⟩:=ops;exact xR_X (l:=l) T hm hB h hc h1 r hr
 | .seq a b,s,p,kn,ke,kr,cs,K,h,hc,h1,h2,h3,r,hr=>ae (y5 T hm hB a (K:=rp (λds' F' C'=>X P G none N ds' b F' C' K) K) (kn:=λs' p'=>xC T N b s' p' kn ke kr) (ke:=ke) (kr:=kr) h hc (λs' p' cs' r' hr' hk hc'=>y5 T hm hB b hk hc' h1 h2 h3 r' hr') (λi=>h2 i) h3 r hr)
 | .cond c a b,s,p,kn,ke,kr,cs,K,h,hc,h1,h2,h3,r,hr=>by
  obtain ⟨u,hu,h⟩:=Option.bind_eq_some_iff.1 h;obtain ⟨q,hq,h⟩:=Option.bind_eq_some_iff.1 h;rw[na hq]at hu;refine bC (eG hu) (λe=> ?_) (λe=> ?_)
  ·rw[e]at h;exact y5 T hm hB a h hc h1 h2 h3 r hr
  ·rw[e]at h;exact y5 T hm hB b h hc h1 h2 h3 r hr
 | .block id c,s,p,kn,ke,kr,cs,K,h,hc,h1,h2,h3,r,hr=>ah (y5 T hm hB c (K:=tD id K) (kn:=kn) (ke:=λi s' p'=>bif Nat.beq i id then kn s' p' else ke i s' p') (kr:=kr) h hc h1 (λi s' p' cs' r' hr' hk hc'=>by
  show (bif Nat.beq i id then K .normal else K (.exit i)) [] _ _
  cases hb:Nat.beq i id with
  |true=>rw[hb]at hk;exact h1 s' p' cs' r' hr' hk hc'
  |false=>rw[hb]at hk;exact h2 i s' p' cs' r' hr' hk hc') h3 r hr)
 | .exit id,s,p,kn,ke,kr,cs,K,h,hc,h1,h2,h3,r,hr=>aU (h2 id s p cs r hr h hc)
 | .ret,s,p,kn,ke,kr,cs,K,h,hc,h1,h2,h3,r,hr=>ak (h3 s p cs r hr h hc)
 | .loop _,_,_,_,_,_,_,_,h,_,_,_,_,_,_=>by cases h
 | .rangeFunc _ _ _ _,_,_,_,_,_,_,_,h,_,_,_,_,_,_=>by cases h
 | .scope _,_,_,_,_,_,_,_,h,_,_,_,_,_,_=>by cases h
 | .label _,_,_,_,_,_,_,_,h,_,_,_,_,_,_=>by cases h
 | .goto _,_,_,_,_,_,_,_,h,_,_,_,_,_,_=>by cases h
end
section
open Go.RowKit
/-! ### Results -/
def FU{P:Program}{G:Cls}(T:Tb P G)(s:St):ResultVar->Option S0
 | .tmp t=>(lkS s.1 t).bind Ap
 | .cell t ty=>(lkS s.1 t).bind λu=>(nv u).bind λp=>(lkL s.2 p.1).bind λc=>(T.sz ty).bind λk=>bif Nat.beq p.2 0 && Nat.beq c.1.length k then some (.inl c.1)else none
def yo{P:Program}{G:Cls}(T:Tb P G)(s:St):List ResultVar->Option (List S0)
 |[]=>some []
 |x::r=>(FU T s x).bind λv=>(yo T s r).bind λl=>some (v::l)
def npS:S0->Bool
 | .inr (.inr (.inr _))=>false
 |_=>true
theorem Ng{s:S0}(h:npS s=true)(r r':Nat->Vw):dn r s=dn r' s:=by
 rcases s with l|c|v|p
 ·rfl
 ·rfl
 ·rfl
 ·cases h
def Ob{P:Program}{G:Cls}(T:Tb P G)(rs:List ResultVar)(s:St):Option S1:=(yo T s rs).bind λl=>bif !l.all npS then none else
 match l with
 |[v]=>some (.inl v)
 |l=>some (.inr l)
def rv(tmps:Array Value):ResultVar->Sem Value
 | .tmp t=>Sem.pure (tmps.getD t undef)
 | .cell a t=>do loadVar t (<-asAddr (tmps.getD a undef))
theorem ye(fn:Func)(tmps:Array Value):results fn tmps=(fn.results.mapM (rv tmps)).bind λvs=>Sem.pure (if h:vs.size=1 then vs[0]else .tuple vs):=by
 unfold results;refine congrArg (λg:ResultVar->Sem Value=>(fn.results.mapM g).bind λvs:Array Value=>Sem.pure (if h:vs.size=1 then vs[0]else Value.tuple vs)) ?_
 funext x
 cases x<;>rfl
theorem yL(T:Tb P G){s:St}{r:Nat->Vw}{x:ResultVar}{v:S0}(h:FU T s x=some v){a:Act}{w:World}(ha:Has N ds (dF r s.1) a)(hC:Hp B (dL r s.2) w):(rv a.tmps x).run P w=.ok (dn r v) w:=by
 cases x with
 |tmp t=>
  obtain ⟨u,hu,h⟩:=Option.bind_eq_some_iff.1 h;rw[qx h]at hu;have e:=ha.get t (dn r v) (by rw[rT,hu];rfl)
  show (Sem.pure (a.tmps.getD t undef)).run P w=_;rw[Array.getD_eq_getD_getElem?,e];rfl
 |cell t ty=>
  obtain ⟨u,hu,h⟩:=Option.bind_eq_some_iff.1 h;obtain ⟨p,hp,h⟩:=Option.bind_eq_some_iff.1 h;obtain ⟨c,hc,h⟩:=Option.bind_eq_some_iff.1 h;obtain ⟨k,hk,h⟩:=Option.bind_eq_some_iff.1 h;obtain ⟨h1,h2,h⟩:=jC h
  cases h
  rw[kH hp]at hu;have e1:=Nat.eq_of_beq_eq_true h1;have e2:=Nat.eq_of_beq_eq_true h2;have e:=ha.get t (.pointer (some ⟨(r p.1).1,vof (r p.1) 0,none⟩)) (by rw[rT,hu];show some (Value.pointer (some ⟨(r p.1).1,vof (r p.1) (6*p.2),none⟩))=_;rw[e1])
  have hb:lkB (dL r s.2) p.1=some ((r p.1).1,ln (r p.1) (clv c.1),c.2):=by rw[qE,hc];rfl
  have hl:=run_loadCells_list (P:=P) w ⟨(r p.1).1,vof (r p.1) 0,none⟩ (clv c.1) (λj v hv=>by
   rw[Addr.add_mid,ur,Nat.zero_add];have k:=aG (n:=p.1) hb w hC (vof (r p.1) j) v (zT _ hv);rw[Nat.zero_add]at k;exact k)
  rw[cU,e2]at hl;have hz:=T.hsz ty k hk;simp[rv,e,asAddr,loadVar,hz.1,hz.2.1,hl,dn]
theorem qg(T:Tb P G){s:St}{r:Nat->Vw}{a:Act}{w:World}(ha:Has N ds (dF r s.1) a)(hC:Hp B (dL r s.2) w): ∀{l:List ResultVar} {vs:List S0},yo T s l=some vs->(l.mapM (rv a.tmps)).run P w=.ok (vs.map (dn r)) w
 |[],vs,h=>by cases h;rfl
 |x::l,vs,h=>by
  obtain ⟨v,hv,h⟩:=Option.bind_eq_some_iff.1 h;obtain ⟨q,hq,h⟩:=Option.bind_eq_some_iff.1 h
  cases h
  have e1:=yL T hv ha hC;have e2:=qg T ha hC hq;rw[List.mapM_cons];simp only[Sem.run_bind,e1,Result.andThen_ok,e2,Sem.run_pure];rfl
theorem nY(T:Tb P G){fn:Func}{s:St}{r:Nat->Vw}{a:Act}{w:World}{v:S1}(h:Ob T fn.results.toList s=some v)(ha:Has N ds (dF r s.1) a)(hC:Hp B (dL r s.2) w)(r':Nat->Vw):(results fn a.tmps).run P w=.ok (dn1 r' v) w:=by
 obtain ⟨vs,hv,h⟩:=Option.bind_eq_some_iff.1 h;have e:=qg T ha hC hv
 cases hn:vs.all npS with
 |false=>rw[hn]at h;cases h
 |true=>
  rw[hn]at h;rw[List.map_congr_left (λx hx=>Ng (List.all_eq_true.1 hn x hx) r r')]at e;have e2:(fn.results.mapM (rv a.tmps)).run P w=.ok (vs.map (dn r')).toArray w:=by
   rw[Array.mapM_eq_mapM_toList];simp[e]
  rw[ye];show ((fn.results.mapM (rv a.tmps))>>=λvs=>Sem.pure (if h:vs.size=1 then vs[0]else .tuple vs)).run P w=_
  rw[Sem.run_bind,e2];rcases vs with _|⟨x,_|⟨y,t⟩⟩
  ·cases h;rfl
  ·cases h;rfl
  ·cases h
   simp only[Result.andThen_ok];rw[dif_neg sm];rfl
/-! ### Functions -/
def enS:Nat->List S0->SF
 |_,[]=>[]
 |k,v::r=>(k,.inl v)::enS (k+1) r
theorem xf(r:Nat->Vw): ∀(k:Nat) (l:List S0),dF r (enS k l)=kl k (l.map (dn r))
 |_,[]=>rfl
 |k,v::l=>by
  show (k,dn r v)::dF r (enS (k+1) l)=(k,dn r v)::kl (k+1) (l.map (dn r));rw[xf r (k+1) l]
def Qy{P:Program}{G:Cls}(T:Tb P G)(rs:List ResultVar):KS:=λs _=>(Ob T rs s).map λv=>(v,[])
def xF{P:Program}{G:Cls}(T:Tb P G)(fn:Func)(c:Code)(a:List S0)(p:Pa):RS:=xC T fn.ntmps c (enS 0 a,[]) p (Qy T fn.results.toList) (λ_ _ _=>none) (Qy T fn.results.toList)
theorem NC{P:Program}{G:Cls}(T:Tb P G)(hm:P.follows .mixedOrders=true)(hG: ∀w,G w->BOk G (pl w)){f:FuncId}{fn:Func}(hf:P.funcs[f]? =some fn){c:Code}(hb:fn.body=some c){a:List S0}{v:S1}{p:Pa}{cs:CB}(h:xF T fn c a p=some (v,cs))(hc:Ok cs)(hn:Nat.ble a.length fn.ntmps=true)(r:Nat->Vw):
 lZ P G f (a.map (dn r)) (dn1 r v):=λw hw=>by
 refine cu (G:=G) hf hb (by rw[List.length_map];exact hn) (Hp (pl w) []) (ci (pl w) trivial am) (ay (hG w hw)) ?_
 rw[<-xf];have K0: ∀s' p' cs' r',Sm fn.ntmps r r'->Qy T fn.results.toList s' p'=some (v,cs')->Ok cs'->([]:List Deferred)=[]/\∀a w1,Has fn.ntmps [] (dF r' s'.1) a->Hp (pl w) (dL r' s'.2) w1->∃u,(results fn a.tmps).run P w1=.ok u w1/\((Ending.returned u)=.returned (dn1 r v)/\Grow w w1):=λs' p' cs' r' _ hk _=>by
  obtain ⟨u,hu,e⟩:=Option.map_eq_some_iff.1 hk;have e:u=v:=congrArg Prod.fst e;rw[e]at hu;exact ⟨rfl,λa w1 ha hC=>⟨_,nY T hu ha hC r,rfl,ab hC⟩⟩
 exact y5 T hm (hG w hw) c (s:=(enS 0 a,[])) h hc (λs' p' cs' r' hr hk hc'=>K0 s' p' cs' r' hr hk hc') (λ_ _ _ _ _ _ hk=>by cases hk) (λs' p' cs' r' hr hk hc'=>K0 s' p' cs' r' hr hk hc') r Sm.rfl'
theorem aD:Ok []:=λ_ h=>by cases h
theorem ao{a b:Bool}{c:CB}(h:a=b)(k:Ok c):Ok ((a,b)::c):=λx hx=>by
 rcases List.mem_cons.1 hx with rfl|hx
 ·exact h
 ·exact k x hx
end
section
open Go.RowKit
structure Ag(α:Type) where
 of:S0->Option α
 dn:α->Value
 ok: ∀s x r,of s=some x->YtjookodjbjabbaaGreatDoor.dn r s=dn x
structure Rd(β:Type) where
 to:β->S1
 dn:β->Value
 ok: ∀y r,dn1 r (to y)=dn y
def c0{γ:Type}(R:Rd γ)(g:γ):List S0->Option S1
 |[]=>some (R.to g)
 |_=>none
def c1{α γ:Type}(A:Ag α)(R:Rd γ)(g:α->γ):List S0->Option S1
 |[x]=>(A.of x).bind λa=>some (R.to (g a))
 |_=>none
def c2{α β γ:Type}(A:Ag α)(B:Ag β)(R:Rd γ)(g:α->β->γ):List S0->Option S1
 |[x,y]=>(A.of x).bind λa=>(B.of y).bind λb=>some (R.to (g a b))
 |_=>none
def c3{α β δ γ:Type}(A:Ag α)(B:Ag β)(D:Ag δ)(R:Rd γ)(g:α->β->δ->γ):List S0->Option S1
 |[x,y,z]=>(A.of x).bind λa=>(B.of y).bind λb=>(D.of z).bind λd=>some (R.to (g a b d))
 |_=>none
def c5{α β δ ε ζ γ:Type}(A:Ag α)(B:Ag β)(D:Ag δ)(E:Ag ε)(F:Ag ζ)(R:Rd γ)(g:α->β->δ->ε->ζ->γ):List S0->Option S1
 |[x,y,z,u,t]=>(A.of x).bind λa=>(B.of y).bind λb=>(D.of z).bind λd=>(E.of u).bind λe=>(F.of t).bind λf=>some (R.to (g a b d e f))
 |_=>none
section
variable {f:Nat} {α β δ ε ζ γ:Type}
theorem Wx(A:Ag α)(B:Ag β)(D:Ag δ)(E:Ag ε)(F:Ag ζ)(R:Rd γ){g:α->β->δ->ε->ζ->γ}(en:ai P f)(h: ∀a b d e t,lZ P G f [A.dn a,B.dn b,D.dn d,E.dn e,F.dn t] (R.dn (g a b d e t))):Snd P G f (c5 A B D E F R g):=⟨en,λa v r e=>by
 unfold c5 at e;split at e
 ·obtain ⟨x,hx,e⟩:=Option.bind_eq_some_iff.1 e
  obtain ⟨y,hy,e⟩:=Option.bind_eq_some_iff.1 e;obtain ⟨z,hz,e⟩:=Option.bind_eq_some_iff.1 e;obtain ⟨u,hu,e⟩:=Option.bind_eq_some_iff.1 e;obtain ⟨t,ht,e⟩:=Option.bind_eq_some_iff.1 e
  cases e
  rw[R.ok,List.map_cons,List.map_cons,List.map_cons,List.map_cons,List.map_cons,A.ok _ _ r hx,B.ok _ _ r hy,D.ok _ _ r hz,E.ok _ _ r hu,F.ok _ _ r ht];exact h x y z u t
 ·cases e⟩
theorem vJ(R:Rd γ){g:γ}(en:ai P f)(h:lZ P G f [] (R.dn g)):Snd P G f (c0 R g):=⟨en,λa v r e=>by
 unfold c0 at e;split at e
 ·cases e;rw[R.ok];exact h
 ·cases e⟩
theorem gt(A:Ag α)(R:Rd γ){g:α->γ}(en:ai P f)(h: ∀a,lZ P G f [A.dn a] (R.dn (g a))):Snd P G f (c1 A R g):=⟨en,λa v r e=>by
 unfold c1 at e;split at e
 ·obtain ⟨x,hx,e⟩:=Option.bind_eq_some_iff.1 e
  cases e
  rw[R.ok,List.map_cons,A.ok _ _ r hx];exact h x
 ·cases e⟩
theorem gv(A:Ag α)(B:Ag β)(R:Rd γ){g:α->β->γ}(en:ai P f)(h: ∀a b,lZ P G f [A.dn a,B.dn b] (R.dn (g a b))):Snd P G f (c2 A B R g):=⟨en,λa v r e=>by
 unfold c2 at e;split at e
 ·obtain ⟨x,hx,e⟩:=Option.bind_eq_some_iff.1 e
  obtain ⟨y,hy,e⟩:=Option.bind_eq_some_iff.1 e
  cases e
  rw[R.ok,List.map_cons,List.map_cons,A.ok _ _ r hx,B.ok _ _ r hy];exact h x y
 ·cases e⟩
theorem VI(A:Ag α)(B:Ag β)(D:Ag δ)(R:Rd γ){g:α->β->δ->γ}(en:ai P f)(h: ∀a b d,lZ P G f [A.dn a,B.dn b,D.dn d] (R.dn (g a b d))):Snd P G f (c3 A B D R g):=⟨en,λa v r e=>by
 unfold c3 at e;split at e
 ·obtain ⟨x,hx,e⟩:=Option.bind_eq_some_iff.1 e
  obtain ⟨y,hy,e⟩:=Option.bind_eq_some_iff.1 e;obtain ⟨z,hz,e⟩:=Option.bind_eq_some_iff.1 e
  cases e
  rw[R.ok,List.map_cons,List.map_cons,List.map_cons,A.ok _ _ r hx,B.ok _ _ r hy,D.ok _ _ r hz];exact h x y z
 ·cases e⟩
end
/-! ### Forms -/
structure Sh(α:Type) where
 of:List Zp->Option α
 to:α->List Zp
 ok: ∀l x,of l=some x->to x=l
def Sh.ag{α:Type}(s:Sh α):Ag α where
 of:=λv=>match v with
  | .inl l=>s.of l
  |_=>none
 dn:=λx=>.agg (clv (s.to x)).toArray
 ok:=λv x r h=>by
  rcases v with l|b|u|p
  ·rw[s.ok l x h];rfl
  ·cases h
  ·cases h
  ·cases h
def Sh.rd{α:Type}(s:Sh α):Rd α where
 to:=λx=>.inl (.inl (s.to x))
 dn:=λx=>.agg (clv (s.to x)).toArray
 ok:=λ_ _=>rfl
def agU:Ag (BitVec 64) where
 of:=λv=>match v with
  | .inr (.inr (.inl (.int .u64 (.ofNat n))))=>bif Nat.blt n 18446744073709551616 then some (BitVec.ofNat 64 n)else none
  |_=>none
 dn:=λb=>U64 b
 ok:=λv x r h=>by
  split at h
  ·rename_i n
   obtain ⟨h1,h⟩:=fv h
   cases h
   have h1:n<18446744073709551616:=by simpa using h1
   show Value.int .u64 (Int.ofNat n)=U64 (BitVec.ofNat 64 n);simp[U64,BitVec.toNat_ofNat];omega
  ·cases h
def agL(m:Nat):Ag Unit where
 of:=λv=>match v with
  | .inr (.inr (.inl (.int .u64 (.ofNat n))))=>bif Nat.beq n m && Nat.blt m 18446744073709551616 then some ()else none
  |_=>none
 dn:=λ_=>U64 (BitVec.ofNat 64 m)
 ok:=λv x r h=>by
  split at h
  ·rename_i n
   obtain ⟨h1,h2,_⟩:=jC h;have e:=Nat.eq_of_beq_eq_true h1;have h2:m<18446744073709551616:=by simpa using h2
   show Value.int .u64 (Int.ofNat n)=U64 (BitVec.ofNat 64 m);rw[e];simp[U64,BitVec.toNat_ofNat];omega
  ·cases h
def rdB:Rd Bool:=⟨λb=>.inl (.inr (.inl b)),λb=>.bool b,λ_ _=>rfl⟩
def rdV:Rd Value:=⟨λb=>.inl (.inr (.inr (.inl b))),λb=>b,λ_ _=>rfl⟩
def Sh.rdB{α:Type}(s:Sh α):Rd (α×Bool):=⟨λx=>.inr [.inl (s.to x.1),.inr (.inl x.2)],λx=>.tuple #[.agg (clv (s.to x.1)).toArray,.bool x.2],λ_ _=>rfl⟩
def Sh.rdBB{α:Type}(s:Sh α):Rd (α×α×Bool):=⟨λx=>.inr [.inl (s.to x.1),.inl (s.to x.2.1),.inr (.inl x.2.2)],λx=>.tuple #[.agg (clv (s.to x.1)).toArray,.agg (clv (s.to x.2.1)).toArray,.bool x.2.2],λ_ _=>rfl⟩
def Sh.rd2{α:Type}(s:Sh α):Rd (α×α):=⟨λx=>.inr [.inl (s.to x.1),.inl (s.to x.2)],λx=>.tuple #[.agg (clv (s.to x.1)).toArray,.agg (clv (s.to x.2)).toArray],λ_ _=>rfl⟩
def q1:Sh Zp where
 of:=λl=>match l with
  |[x]=>some x
  |_=>none
 to:=λx=>[x]
 ok:=λl x h=>by
  split at h
  ·cases h;rfl
  ·cases h
def Sh.two{α β:Type}(s:Sh α)(t:Sh β)(n:Nat):Sh (α×β) where
 of:=λl=>(s.of (l.take n)).bind λx=>(t.of (l.drop n)).bind λy=>some (x,y)
 to:=λx=>s.to x.1++t.to x.2
 ok:=λl x h=>by
  obtain ⟨a,ha,h⟩:=Option.bind_eq_some_iff.1 h;obtain ⟨b,hb,h⟩:=Option.bind_eq_some_iff.1 h
  cases h
  rw[s.ok _ _ ha,t.ok _ _ hb,List.take_append_drop]
def q2:Sh (Zp×Zp):=q1.two q1 1
end
section
open Go.RowKit
def Rs{P:Program}{G:Cls}(T:Tb P G)(rs:List ResultVar)(t:TypeId):KS:=λs _=>(Ob T rs s).bind λv=>(Ap v).bind λu=>(lkL s.2 1000000).bind λc=>bif Nat.beq c.2 t then some (.inr [u,.inl c.1],[])else none
def xM{P:Program}{G:Cls}(T:Tb P G)(fn:Func)(c:Code)(a:List S0)(l:List Zp)(t:TypeId)(p:Pa):RS:=xC T fn.ntmps c (enS 0 (.inr (.inr (.inr (1000000,0)))::a),[(1000000,l,t)]) p (Rs T fn.results.toList t) (λ_ _ _=>none) (Rs T fn.results.toList t)
theorem Kj{P:Program}{G:Cls}(T:Tb P G)(hm:P.follows .mixedOrders=true){f:FuncId}{fn:Func}(hf:P.funcs[f]? =some fn){c:Code}(hb:fn.body=some c){a:List S0}{l l':List Zp}{t:TypeId}{u:S0}{p:Pa}{cs:CB}(h:xM T fn c a l t p=some (.inr [u,.inl l'],cs))(hc:Ok cs)(hn:Nat.ble (a.length+1) fn.ntmps=true)(hN:Nat.ble fn.ntmps 1000000=true)(ha:a.all npS=true)
 {b:Nat} {pre post:List Value} {w:World} (hG:BOk G (plM w (λk=>k=b))) (ho:OwnB w b (pre++(clv l++post)) t):
 Calls P f (.pointer (some ⟨b,pre.length,none⟩)::a.map (dn rid)).toArray w (λe w'=>e=.returned (dn rid u)/\Mod b w w'/\OwnB w' b (pre++(clv l'++post)) t):=by
 obtain ⟨r0,hr0⟩: ∃r0:Nat->Vw,r0=λn=>bif Nat.beq n 1000000 then (b,some (pre,post))else (n,none):=⟨_,rfl⟩
 have e0:r0 1000000=(b,some (pre,post)):=by rw[hr0];rfl
 refine cu (G:=G) hf hb (by rw[List.length_cons,List.length_map];exact hn) (Hp (plM w (λk=>k=b)) [(1000000,b,pre++(clv l++post),t)]) (H9 ho) (ay hG) ?_
 have eF:kl 0 (.pointer (some ⟨b,pre.length,none⟩)::a.map (dn rid))=dF r0 (enS 0 (.inr (.inr (.inr (1000000,0)))::a)):=by
  rw[xf,List.map_cons,List.map_congr_left (λx hx=>Ng (List.all_eq_true.1 ha x hx) r0 rid)];show _=kl 0 (.pointer (some ⟨(r0 1000000).1,vof (r0 1000000) (6*0),none⟩)::_);rw[e0];rfl
 have eL:([(1000000,b,pre++(clv l++post),t)]:Hl)=dL r0 [(1000000,l,t)]:=by
  show _=[(1000000,(r0 1000000).1,ln (r0 1000000) (clv l),t)];rw[e0];rfl
 rw[eF,eL];have K0: ∀s' p' cs' r',Sm fn.ntmps r0 r'->Rs T fn.results.toList t s' p'=some (.inr [u,.inl l'],cs')->Ok cs'->([]:List Deferred)=[]/\∀a w1,Has fn.ntmps [] (dF r' s'.1) a->Hp (plM w (λk=>k=b)) (dL r' s'.2) w1->∃z,(results fn a.tmps).run P w1=.ok z w1/\((Ending.returned z)=.returned (dn rid u)/\Mod b w w1/\OwnB w1 b (pre++(clv l'++post)) t):=λs' p' cs' r' hr hk _=>by
  obtain ⟨v,hv,hk⟩:=Option.bind_eq_some_iff.1 hk;obtain ⟨z,hz,hk⟩:=Option.bind_eq_some_iff.1 hk;obtain ⟨d,hd,hk⟩:=Option.bind_eq_some_iff.1 hk;obtain ⟨ht,hk⟩:=fv hk;have hk:=congrArg Prod.fst (Option.some.inj hk);have e2:z=u/\d.1=l':=by
   have q:=Sum.inr.inj hk;have q1:=(List.cons.inj q).1;have q2:=(List.cons.inj (List.cons.inj q).2).1;exact ⟨q1,Sum.inl.inj q2⟩
  have e3:v=.inl u:=by rw[qx hz,e2.1]
  rw[e3]at hv;have er:r' 1000000=(b,some (pre,post)):=(hr 1000000 (Nat.le_of_ble_eq_true hN)).trans e0;refine ⟨rfl,λa w1 ha hC=>⟨_,nY T hv ha hC rid,rfl,yX hC, ?_⟩⟩;have hl:lkB (dL r' s'.2) 1000000=some (b,pre++(clv l'++post),t):=by
   rw[qE,hd,<-e2.2,<-Nat.eq_of_beq_eq_true ht];show some ((r' 1000000).1,ln (r' 1000000) (clv d.1),d.2)=_;rw[er];rfl
  exact (hC.own 1000000 _ _ _ hl).1
 exact y5 T hm hG c (r0:=r0) (s:=(enS 0 (.inr (.inr (.inr (1000000,0)))::a),[(1000000,l,t)])) h hc (λs' p' cs' r' hr hk hc'=>K0 s' p' cs' r' hr hk hc') (λ_ _ _ _ _ _ hk=>by cases hk) (λs' p' cs' r' hr hk hc'=>K0 s' p' cs' r' hr hk hc') r0 Sm.rfl'
end
end Go.Proofs.YtjookodjbjabbaaGreatDoor
