/- L5 -/
import Derived.Test.YtfakhlafilbjkaaGreatDoorL4
set_option maxRecDepth 100000
set_option maxHeartbeats 1000000
namespace Go.Proofs.YtfakhlafilbjkaaGreatDoor
open Go.Proofs.Tryz
section
open Go.RowKit
open Sh
theorem vo{α:Type}{l:List α}{i:Nat}{x:α}(h:l[i]? =some x):l.drop i=x::l.drop (i+1):=by
 obtain ⟨h1,h2⟩:=List.getElem?_eq_some_iff.1 h;rw[List.drop_eq_getElem_cons h1,h2]
theorem Ix(l:List Int)(hl:l.length<=1000)(a:Option Addr)(cap:Nat)(w:World)(hw:Gt w)(hcl:CellsAt w a (l.map I)):CLS 48 [.slice a l.length cap].toArray w (λe w'=>e=.returned (.bool (grt l))/\Grow w w'):=by
 refine Hf func48 O hw<|λhGF=>Xp<|Asg O<|aa<|jR<|Xp<|Asg O<|aa<|ah<|lR<|ah<|Xp<|Mv O<|bv O (λ_=>aM underlying101 _ _ _ _) O O<|Mv O<|aa<|ar<|bV (ι:={i:Nat // i<=l.length/\grt (l.drop i)=grt l}) (λx=>[(3,.bool false),(6,.slice a l.length cap),(7,I (l.length:Int)),(8,I (x.1:Int))]) (λ_=>[]) (λx=>l.length-x.1) ⟨0,Nat.zero_le _,rfl⟩ hGF trv trivial<|?_;rintro ⟨i,hi,hgr⟩;dsimp only;refine Xp<|Bnr O O (λ_=>aI _ _ _)<|aa<|ah<|?_;refine cq O (λhc=> ?_) (λhc=> ?_)
 ·have hlt:i<l.length:=(by simp at hc;omega)
  clear hc;obtain ⟨x,hx⟩: ∃x,l[i]? =some x:=⟨_,List.getElem?_eq_getElem hlt⟩;have hdr:=vo hx;refine aw<|ah<|ar<|Xp<|?_;obtain ⟨ad,hae,hcell⟩:=hcl i (I x) (by rw[List.getElem?_map,hx];rfl)
  refine er (ad:=ad) i 1 (by rw[<-hae];rfl) O underlying101 sizeOf3 O hlt O O<|aQ (v:=I x) O isAgg3 (λw' h=>by rw[Nat.mul_one];exact ((ae h).cell (block_lt_of_cell hcell)).trans hcell) O O<|Asg O<|aa<|Xp<|Mv O<|aa<|ar<|Xp<|?_
  rcases Bool.eq_false_or_eq_true (decide (x=0))with hq|hq
  ·refine Bnb true O O (λ_=>cj _ x 0) (hq)<|Asg O<|aa<|aP O<|aw<|Xq<|Bnr (v:=I (((i+1:Nat):Int))) O O (λ_=>(ay _ _ _ aG).trans aE)<|Mv O<|aa<|?_
   repeat (refine bh ?_)
   exact aV<|⟨rfl,⟨i+1,hlt,by rw[<-hgr,hdr,grt,hq,cond_true]⟩,_,by show l.length-(i+1)<l.length-i;omega,rfl,trv,trivial⟩
  ·refine Bnb false O O (λ_=>cj _ x 0) (hq)<|Asg O<|aa<|aH O<|Xp<|Mv O<|Bnr (v:=.bool (decide (x>0))) O O (λ_=>cQ _ x 0)<|Asg O<|aa<|bj<|Xp<|Mv O<|Asg O<|aa<|ao<|?_
   repeat (first|refine cT ?_|refine cU ?_|refine fR ?_)
   exact au O O (λw' hw'=>⟨by rw[<-hgr,hdr,grt,hq];rfl,ae hw'⟩)
 ·have hie:i=l.length:=(by simp at hc;omega)
  clear hc;refine bj<|Xp<|Mv O<|Asg O<|aa<|ao<|?_
  repeat (first|refine cT ?_|refine cU ?_|refine fR ?_)
  exact au O O (λw' hw'=>⟨by rw[<-hgr,hie,List.drop_length];rfl,ae hw'⟩)
theorem K9(c:Cf)(hc_:c.Ok)(a b:Up)(ha:a.Ok)(hb:b.Ok)(hla:a.sy.bs.length<=1000)(hlb:b.sy.bs.length<=1000)(w:World)(hw:Gt w)(hca:CellsAt w a.sy.ba (a.sy.bs.map .bool))(hcb:CellsAt w b.sy.ba (b.sy.bs.map .bool)):CLS 49 [.agg c.cs.toArray,.agg a.cs.toArray,.agg b.cs.toArray].toArray w (λe w'=> ∃m,e=.returned (.slice (spt m) 8 8)/\Grow w w'/\w.heap.size<=m/\OwnB w' m ((Mk c a b).map I) 3):=by
 refine Hf func49 O hw<|λhGF=>Xp<|Bx 3 hGF O<|λb3=>Bx 4 hGF O<|λb4=>Bx 5 hGF O<|λb5=>Asg O<|aa<|cJ (E:=EE [2999999]) [0,1,2,3,4,5] [⟨6,7,145,ZSd⟩,⟨7,8,145,ZSd⟩] [8,9] db O kr kr kr kr kr kr aC (by intro x hx;simp only[List.mem_cons,List.not_mem_nil,or_false]at hx;rcases hx with rfl|rfl<;>exact bA O zv145 O)<|az (cs:=c.cs) O isAgg50 sizeOf50 (Cf.len hc_) (λw' hw' j v hv=>by have:=(av (n:=3) O w' hw') _ v (Cf.all j v hv);rwa [Nat.zero_add]at this) O O<|az (cs:=a.cs) O isAgg71 sizeOf71 (Up.len ha) (λw' hw' j v hv=>by have:=(av (n:=4) O w' hw') _ v (dN j v hv);rwa [Nat.zero_add]at this) O O<|Cc O ent85 (λw' hw' hG=>zg c hc_ a ha hla w' hG (hca.grow (ae hw')))<|az (cs:=c.cs) O isAgg50 sizeOf50 (Cf.len hc_) (λw' hw' j v hv=>by have:=(av (n:=3) O w' hw') _ v (Cf.all j v hv);rwa [Nat.zero_add]at this) O O<|az (cs:=b.cs) O isAgg71 sizeOf71 (Up.len hb) (λw' hw' j v hv=>by have:=(av (n:=5) O w' hw') _ v (dN j v hv);rwa [Nat.zero_add]at this) O O<|Cc O ent85 (λw' hw' hG=>zg c hc_ b hb hlb w' hG (hcb.grow (ae hw')))<|aa<|?_
 refine ⟨_,_,rfl,hGF,by intro x hx;simp only[List.mem_cons,List.not_mem_nil,or_false]at hx;rcases hx with rfl|rfl<;>rfl,by intro x hx;simp only[List.mem_cons,List.not_mem_nil,or_false]at hx;rcases hx with rfl|rfl<;>rfl,λadr1=> ?_⟩
 refine ai 7 hGF O O O sizeOf145 O O aE O<|ai 8 hGF O O O sizeOf145 O O aE O<|aa<|Xd []<|Fa 0 O underlying145 O sizeOf4<|aU 7 O O O isAgg4 O O<|Fa 0 O underlying145 O sizeOf4<|aU 8 O O O isAgg4 O O<|Cc O ent86 (λw' hw' hG=>xf (dh a.sy.bs) (dh b.sy.bs) w' hG)<|Fa 5 O underlying145 O sizeOf3<|aU 7 O O O isAgg3 O O<|Fa 5 O underlying145 O sizeOf3<|aU 8 O O O isAgg3 O O<|Cc O ent87 (λw' hw' hG=>Fs (a.fb) (b.fb) w' hG)<|Fa 1 O underlying145 O sizeOf4<|aU 7 O O O isAgg4 O O<|Fa 1 O underlying145 O sizeOf4<|aU 8 O O O isAgg4 O O<|Cc O ent86 (λw' hw' hG=>xf (a.rip c) (b.rip c) w' hG)<|Fa 2 O underlying145 O sizeOf4<|aU 7 O O O isAgg4 O O<|Fa 2 O underlying145 O sizeOf4<|aU 8 O O O isAgg4 O O<|Cc O ent86 (λw' hw' hG=>xf (a.isf) (b.isf) w' hG)<|Fa 3 O underlying145 O sizeOf4<|aU 7 O O O isAgg4 O O<|Fa 3 O underlying145 O sizeOf4<|aU 8 O O O isAgg4 O O<|Cc O ent86 (λw' hw' hG=>xf (a.isf && a.nea c) (b.isf && b.nea c) w' hG)<|Fa 4 O underlying145 O sizeOf3<|aU 7 O O O isAgg3 O O<|Fa 4 O underlying145 O sizeOf3<|aU 8 O O O isAgg3 O O<|Cc O ent87 (λw' hw' hG=>Fs ((onN a.sy.bs:Int)) ((onN b.sy.bs:Int)) w' hG)<|Fa 6 O underlying145 O sizeOf22<|aU 8 O O O isAgg22 O O<|Fa 6 O underlying145 O sizeOf22<|aU 7 O O O isAgg22 O O<|Cc O ent88 (λw' hw' hG=>En (b.at_.s) (a.at_.s) w' hG)<|Fa 7 O underlying145 O sizeOf22<|?_;refine aU 8 O O O isAgg22 O O<|Fa 7 O underlying145 O sizeOf22<|aU 7 O O O isAgg22 O O<|Cc O ent88 (λw' hw' hG=>En (b.sl) (a.sl) w' hG)<|iq 55 ((Mk c a b).map I) hGF O O O aC aC underlying101 sizeOf3 zeroValue3 O O O<|λb55=>Asg O<|aa<|ao<|Rr<|?_;exact au O O (λw' hw'=>⟨b55,rfl,ae hw',(hw'.own 55 _ _ _ O).2.elim id False.elim,(hw'.own 55 _ _ _ O).1⟩)
theorem Hy(c:Cf)(a b:Up)(hc_:c.Ok)(ha:a.Ok)(hb:b.Ok)(hla:a.sy.bs.length<=1000)(hlb:b.sy.bs.length<=1000)(w:World)(hw:Gt w)(hca:CellsAt w a.sy.ba (a.sy.bs.map .bool))(hcb:CellsAt w b.sy.ba (b.sy.bs.map .bool)):CLS 17 [.agg c.cs.toArray,.agg a.cs.toArray,.agg b.cs.toArray].toArray w (λe w'=>e=.returned (.bool (B8 c a b))/\Grow w w'):=by
 refine Hf func17 O hw<|λhGF=>Xp<|?_;rcases Bool.eq_false_or_eq_true c.rt with hrt|hrt
 ·refine Bx 3 hGF O<|λb3=>Bx 4 hGF O<|λb4=>Bx 5 hGF O<|λb5=>Asg O<|aa<|am (E:=EE [49,2000049])<|az (cs:=c.cs) O isAgg50 sizeOf50 (Cf.len hc_) (λw' hw' j v hv=>by have:=(av (n:=3) O w' hw') _ v (Cf.all j v hv);rwa [Nat.zero_add]at this) O O<|Cc O ent37 (λw' hw' hG=>qJ c hc_ w' hG)<|Bnb true O O (λ_=>cj _ c.chk 0) (by rw[Cf.chk,hrt];rfl)<|Mv O<|az (cs:=c.cs) O isAgg50 sizeOf50 (Cf.len hc_) (λw' hw' j v hv=>by have:=(av (n:=3) O w' hw') _ v (Cf.all j v hv);rwa [Nat.zero_add]at this) O O<|az (cs:=a.cs) O isAgg71 sizeOf71 (Up.len ha) (λw' hw' j v hv=>by have:=(av (n:=4) O w' hw') _ v (dN j v hv);rwa [Nat.zero_add]at this) O O<|az (cs:=b.cs) O isAgg71 sizeOf71 (Up.len hb) (λw' hw' j v hv=>by have:=(av (n:=5) O w' hw') _ v (dN j v hv);rwa [Nat.zero_add]at this) O O<|?_
  refine ff O O ent49 O O (λw' hw'=>(K9 c hc_ a b ha hb hla hlb w' (hGF.g _ _ _ hw') (hca.grow (ae hw')) (hcb.grow (ae hw'))).mono λe1 w2 h=> ?_);obtain ⟨m,rfl,hgm,hnm,hom⟩:=h;refine ⟨_,_,rfl,aT hGF,hw'.news aL hgm [(14,m,(Mk c a b).map I,3)] (Dt hnm hom) de,ef aL O, ?_⟩;clear hw' hgm hnm hom;refine Cc O ent48 (λw' hw' hG=>Ix (Mk c a b) (by show 8<=1000;decide) _ 8 w' hG (CellsAt.range (av (n:=14) O w' hw')))<|Pk O O O<|Asg O<|aa<|ao<|Rr<|?_
  exact au O O (λw' hw'=>⟨by rw[B8,hrt,cond_true,<-Gb];rfl,ae hw'⟩)
 ·refine Bx 3 hGF O<|λb3=>Bx 4 hGF O<|λb4=>Bx 5 hGF O<|λb5=>Asg O<|aa<|Xp<|az (cs:=c.cs) O isAgg50 sizeOf50 (Cf.len hc_) (λw' hw' j v hv=>by have:=(av (n:=3) O w' hw') _ v (Cf.all j v hv);rwa [Nat.zero_add]at this) O O<|Cc O ent37 (λw' hw' hG=>qJ c hc_ w' hG)<|Bnb false O O (λ_=>cj _ c.chk 0) (by rw[Cf.chk,hrt];rfl)<|Mv O<|Sk<|Sk<|Sk<|Sk<|Sk<|Pk O O O<|Asg O<|aa<|ao<|Rr<|?_
  exact au O O (λw' hw'=>⟨by rw[B8,hrt];rfl,ae hw'⟩)
end
section
open Go.RowKit
open Sh
theorem ent187:aJ prog 187:=λ_ _=>kr
theorem ent156:aJ prog 156:=λ_ _=>kr
theorem ent157:aJ prog 157:=λ_ _=>kr
def Chain(w:World)(S:Nat->Prop):List L8->Option Addr->Prop
 |[],p=>p=none
 |x::r,p=> ∃q a c pa,p=some ⟨q,0,none⟩/\w.rangeAt q 0 [.slice a x.length c,.pointer pa]/\BytesAt w a x/\S q/\(∀k,Of a k->S k)/\Chain w S r pa
theorem Chain.mm{M S S':Nat->Prop}{w w':World}(hm:MM M w w')(hS: ∀k,S k->¬M k/\S' k): ∀(ps:List L8) (p:Option Addr),Chain w S ps p->Chain w' S' ps p
 |[],_,h=>h
 |x::r,p,h=>by
  obtain ⟨q,a,c,pa,e,h1,h2,h3,h4,h5⟩:=h;exact ⟨q,a,c,pa,e,hm.range h1 (hS q h3).1,hm.bytes h2 (λad e=>(hS _ (h4 _ ⟨ad,e,rfl⟩)).1),(hS q h3).2,λk hk=>(hS k (h4 k hk)).2,Chain.mm hm hS r pa h5⟩
def WrAt(S:Nat->Prop)(w:World)(b:Nat)(xs:L8):Prop:= ∃ps p,OwnB w b [.pointer p,I (xs.length:Int)] 210/\Chain w S ps p/\ps.reverse.flatten=xs/\¬S b
theorem WrAt.mm{M S S':Nat->Prop}{w w':World}{b:Nat}{xs:L8}(h:WrAt S w b xs)(hm:MM M w w')(hb: ¬M b)(hS: ∀k,S k->¬M k/\S' k)(hb': ¬S' b):WrAt S' w' b xs:=by
 obtain ⟨ps,p,h1,h2,h3,_⟩:=h;exact ⟨ps,p,hm.own h1 hb,h2.mm hm hS,h3,hb'⟩
theorem WrAt.grow{S:Nat->Prop}{w w':World}{b:Nat}{xs:L8}(h:WrAt S w b xs)(hg:Grow w w'):WrAt S w' b xs:=by
 have hb:=h;obtain ⟨_,_,_,_,_,hb⟩:=hb;exact h.mm (M:=λ_=>False) (aY hg) id (λk hk=>⟨id,hk⟩) hb
theorem WrAt.lt{S:Nat->Prop}{w:World}{b:Nat}{xs:L8}(h:WrAt S w b xs):b<w.heap.size:=by
 obtain ⟨_,_,h1,_⟩:=h;exact h1.lt
theorem WrAt.out{S:Nat->Prop}{w:World}{b:Nat}{xs:L8}(h:WrAt S w b xs): ¬S b:=by
 obtain ⟨_,_,_,_,_,h1⟩:=h;exact h1
theorem bldP(a:Option Addr)(n c:Nat)(p:Option Addr)(w:World):(Instr.build 250 #[(0,.slice a n c),(1,.pointer p)]).run prog w=.ok (.agg [.slice a n c,.pointer p].toArray) w:=by
 simp[Instr.build,zeroValue250,run_underlying underlying250,sizeOf123,sizeOf208,Value.cells,Instr.fill]
theorem JP(b:Nat)(p:Option Addr)(xs ys:L8)(a:Option Addr)(cap:Nat)(w:World)(hw:Gt w)(hbl:6<=b)(ho:OwnB w b [.pointer p,I (xs.length:Int)] 210)(hl:xs.length<=1000000)(hl2:ys.length<=1000000):CLS 187 [pnt b,.slice a ys.length cap].toArray w (λr w'=> ∃q,r=.returned (.tuple #[])/\MM (λk=>k=b) w w'/\OwnB w' b [pnt q,I ((xs++ys).length:Int)] 210/\(w.heap.size<=q/\q<w'.heap.size)/\w'.rangeAt q 0 [.slice a ys.length cap,.pointer p]):=by
 have hGF:BOk Gt (plM w (λk=>k=b)):=nj gt_low hw (λm e=>e▸hbl);exact ew (G:=Gt) func187 O O (Hp (plM w (λk=>k=b)) [(0,b,[.pointer p,I (xs.length:Int)],210)]) (iW ho O) (aT hGF)<|Xp<|Mv O<|Mv O<|Mv O<|aW O O O<|Fa 0 O underlying210 O sizeOf208<|aU 0 O O O isAgg208 O O<|ce (ps:=[(0,.tmp 5),(1,.tmp 9)]) (vs:=[.slice a ys.length cap,.pointer p]) O (λw=>bldP a ys.length cap p w) O O<|Bx 11 hGF O<|λb11=>aW O O O<|Fa 0 O underlying210 O sizeOf208<|cL 0 hGF O O O sizeOf208 O (by simp[*]) O<|aa<|Xq<|Mv O<|aW O O O<|Fa 1 O underlying210 O sizeOf3<|aU 0 O O O isAgg3 O O<|Mv O<|bv O (λ_=>aM underlying123 _ _ _ _) O O<|Bnr (v:=I (((xs++ys).length:Int))) O O (λ_=>(ay _ _ _ aG).trans (by rw[List.length_append];rfl))<|aW O O O<|Fa 1 O underlying210 O sizeOf3<|cL 0 hGF O O O sizeOf3 O (by simp[*]) O<|aa<|(by first|exact ei O (λw' hw'=>⟨b11,rfl,jT hw',(hw'.own 0 _ _ _ O).1,⟨(hw'.own 11 _ _ _ O).2.elim id (λh=>by obtain rfl:b11=b:=h;exact absurd (hw'.inj 11 0 _ _ _ _ _ O O) aC),(hw'.own 11 _ _ _ O).1.lt⟩,(hw'.own 11 _ _ _ O).1.range⟩)|exact dU O (λw' hw'=>⟨b11,rfl,jT hw',(hw'.own 0 _ _ _ O).1,⟨(hw'.own 11 _ _ _ O).2.elim id (λh=>by obtain rfl:b11=b:=h;exact absurd (hw'.inj 11 0 _ _ _ _ _ O O) aC),(hw'.own 11 _ _ _ O).1.lt⟩,(hw'.own 11 _ _ _ O).1.range⟩))
theorem yc(S:Nat->Prop)(b:Nat)(xs ys:L8)(a:Option Addr)(len cap:Nat)(hlen:ys.length=len)(hl:xs.length<=1000000)(hl2:len<=1000000)(w:World)(hw:Gt w)(hbl:6<=b)(hr:WrAt S w b xs)(hy:BytesAt w a ys)(ha: ¬Of a b):CLS 187 [pnt b,.slice a len cap].toArray w (λr w'=>r=.returned (.tuple #[])/\MM (λk=>k=b) w w'/\WrAt (λk=>S k\/Of a k\/(w.heap.size<=k/\k<w'.heap.size)) w' b (xs++ys)):=by
 subst hlen;obtain ⟨ps,p,ho,hc,he,hb⟩:=hr;refine (JP b p xs ys a cap w hw hbl ho hl hl2).mono λr w' ⟨q,h1,h2,h3,h4,h5⟩=>⟨h1,h2,ys::ps,_,h3,⟨q,a,cap,p,rfl,h5,h2.bytes hy (λad e h=>ha ⟨ad,e,h.symm⟩),.inr (.inr h4),λk hk=>.inr (.inl hk),hc.mm h2 (λk hk=>⟨λh=>hb (h▸hk),.inl hk⟩)⟩,by rw[List.reverse_cons,List.flatten_append,he];simp, ?_⟩
 rintro (h|h|h)
 ·exact hb h
 ·exact ha h
 ·have:=ho.lt;omega
theorem yS(S:Nat->Prop)(b:Nat)(xs ys:L8)(a:Option Addr)(cap:Nat)(hl:xs.length<=1000000)(hl2:ys.length<=1000000)(w:World)(hw:Gt w)(hbl:6<=b)(hr:WrAt S w b xs)(hy:BytesAt w a ys):CLS 156 [pnt b,.slice a ys.length cap].toArray w (λr w'=>r=.returned (.tuple #[])/\MM (λk=>k=b) w w'/\WrAt (λk=>S k\/(w.heap.size<=k/\k<w'.heap.size)) w' b (xs++ys)):=by
 refine Hf func156 O hw<|λhGF=>am (E:=EE [187])<|Mv O<|bv O (λ_=>aM underlying123 _ _ _ _) O O<|gJ (l:=ys.length) (m:=ys.length) (c:=(List.replicate (ys.length) 0#8).map U8) 7 hGF O O (Nat.le_refl _) underlying123 ti5 ⟨om,om,om⟩ (by rw[Nat.mul_one];exact yZ _) O O<|λb7=>Asg O<|aa<|am (E:=EE [187])<|Mv O<|Mv O<|ed (cs:=ys) 7 hGF O O O underlying123 kr (Nat.min_self _).symm (λw' h=>hy.grow (ae h)) aB O O<|?_
 rw[dg _ _ aB];refine aa<|cm (E:=EE [187])<|Mv O<|Mv O<|?_;refine cw O O ent187 O O (λw3 hC=>(yc S b xs ys (spt b7) _ ys.length O hl hl2 w3 (hGF.g _ _ _ hC) hbl (hr.grow (ae hC)) (BytesAt.range (av (n:=7) O w3 hC)) (λ⟨ad,e,hb⟩=>by cases e;dsimp only at hb;have h1:w.heap.size<=b7:=(hC.own 7 _ _ _ O).2.elim id False.elim;have:=hr.lt;omega)).mono λe1 w4 h=> ?_)
 obtain ⟨rfl,hm,hW⟩:=h;have hg3:=ae hC;have hnb:w.heap.size<=b7:=(hC.own 7 _ _ _ O).2.elim id False.elim;have hnl:b7<w3.heap.size:=(hC.own 7 _ _ _ O).1.lt;have hg4:Gt w4:=gt_low.same w3 w4 (λk hk=>hm.keep k (Nat.lt_of_lt_of_le hk (gt_low.size w3 (hGF.g _ _ _ hC))) λh=>om) (hGF.g _ _ _ hC);refine ⟨_,Hp (pl w4) [],rfl,aT (gt_low.plain hg4),cI (pl w4) trivial aL, ?_⟩;refine aa ?_
 first|exact ei O (λw' hw'=>⟨rfl,((aY hg3).trans hm).trans (aY (ae hw')),(hW.grow (ae hw')).mm (M:=λ_=>False) (aY (Grow.refl w')) id (λk hk=>⟨id,by rcases hk with h|⟨ad,e,h⟩|h;exact .inl h;exact .inr (by cases e;dsimp only at h;have:=hm.size;have:=(ae hw').size;omega);exact .inr (by have:=hg3.size;have:=(ae hw').size;omega)⟩) (λh=>h.elim hr.out (by have:=hr.lt;omega))⟩)|exact dU O (λw' hw'=>⟨rfl,((aY hg3).trans hm).trans (aY (ae hw')),(hW.grow (ae hw')).mm (M:=λ_=>False) (aY (Grow.refl w')) id (λk hk=>⟨id,by rcases hk with h|⟨ad,e,h⟩|h;exact .inl h;exact .inr (by cases e;dsimp only at h;have:=hm.size;have:=(ae hw').size;omega);exact .inr (by have:=hg3.size;have:=(ae hw').size;omega)⟩) (λh=>h.elim hr.out (by have:=hr.lt;omega))⟩)
theorem cutW(b s e:Nat):(if e=s then some (⟨b,0,none⟩:Addr)else (some (⟨b,0,none⟩:Addr)).map (·.add (s*1)))=some ⟨b,if e=s then 0 else s,none⟩:=by
 split
 ·rfl
 ·simp[Addr.add]
  intro h;exact h.symm
theorem DQ{z x t:L8}{s e o:Nat}(ho:o=if e=s then 0 else s)(he:e=s+x.length)(hz:z=List.replicate e 0#8):lay o (x.map U8) ((z++t).map U8)=((List.replicate s 0#8++x)++t).map U8:=by
 subst hz;by_cases h:e=s
 ·have hx:x=[]:=List.eq_nil_of_length_eq_zero om
  subst hx;rw[h];simp[lay]
 ·rw[if_neg h]at ho
  subst ho;rw[gU _ _ _ (by simp;omega)]
  simp only[<-List.map_take,<-List.map_drop,<-List.map_append,List.length_map];congr 1;rw[List.take_append_of_le_length (by simp;omega),List.take_replicate,Nat.min_eq_left om,<-he,List.drop_append_of_le_length aB,List.drop_replicate,Nat.sub_self]
  simp
structure LaV(w:World)(S:Nat->Prop)(ps:List L8) where
 (d r:List L8) (p:Option Addr)
 h:d++r=ps
 c:Chain w S r p
theorem xA(S:Nat->Prop)(b:Nat)(xs:L8)(hl:xs.length<=1000000)(w:World)(hw:Gt w)(hr:WrAt S w b xs):CLS 157 [pnt b].toArray w (λe w'=> ∃v,e=.returned v/\Grow w w'/\Fr8 w w' v xs):=by
 obtain ⟨ps,p0,ho,hch,he,_⟩:=hr;refine Hf func157 O hw<|λhGF=>Xp<|Asg O<|aa<|Xp<|Mv O<|aW O O O<|Fa 1 O underlying210 O sizeOf3<|aQ O isAgg3 (λw' h=>((ho.grow (ae h)).cell 1).trans O) O O<|gJ (l:=xs.length) (m:=xs.length) (c:=(List.replicate (xs.length) 0#8).map U8) 11 hGF O O (Nat.le_refl _) underlying123 ti5 ⟨om,om,om⟩ (by rw[Nat.mul_one];exact yZ _) O O<|λb11=>Asg O<|aa<|Xp<|Mv O<|bv O (λ_=>aM underlying123 _ _ _ _) O O<|Asg O<|aa<|ah<|Xp<|Mv O<|aW O O O<|Fa 0 O underlying210 O sizeOf208<|aQ O isAgg208 (λw' h=>((ho.grow (ae h)).cell 0).trans O) O O<|Asg O<|aa<|ar<|bV (ι:=LaV w S ps) (λy=>[(0,pnt b),(3,.slice (spt b11) xs.length xs.length),(4,I ((y.r.reverse.flatten).length:Int)),(5,.pointer y.p)]) (λy=>[(11,b11,((List.replicate (y.r.reverse.flatten).length 0#8++y.d.reverse.flatten).map U8),5)]) (λy=>y.r.length) ⟨[],ps,p0,rfl,hch⟩ hGF ⟨rfl,rfl,by rw[he];rfl,rfl,trivial⟩ ⟨by rw[he];simp;rfl,trivial⟩<|?_
 rintro ⟨d,r,p,hdr,hc⟩;dsimp only;have hc2:=hc;clear hc;refine ah<|Xp<|Mv O<|Bnr O O (λw'=>yx underlying208 _ w')<|aa<|?_;refine cq O (λhc=> ?_) (λhc=> ?_)
 ·obtain ⟨x,r,rfl⟩: ∃x r',r=x::r':=by
   cases r with
   |nil=>rw[show p=none from hc2]at hc;cases hc
   |cons x r=>exact ⟨x,r,rfl⟩
  clear hc;obtain ⟨q,a,c,pa,rfl,hrg,hby,hSq,hSa,hc6⟩:=hc2;have hr0:=hrg 0 _ O;have hr1:=hrg 1 _ O;have hlen:((x::r).reverse.flatten).length=(r.reverse.flatten).length+x.length:=by rw[List.reverse_cons,List.flatten_append,List.length_append];simp
  have htot:((x::r).reverse.flatten).length+(d.reverse.flatten).length=xs.length:=by rw[<-he,<-hdr,List.reverse_append,List.flatten_append,List.length_append]
  have hcl:(List.replicate ((x::r).reverse.flatten).length 0#8++d.reverse.flatten).length=xs.length:=by rw[List.length_append,List.length_replicate,htot]
  refine aw<|ah<|ar<|Xp<|Mv O<|Mv O<|aW O O O<|Fa 0 O underlying250 O sizeOf123<|aQ O isAgg123 (λw' h=>((ae h).cell (block_lt_of_cell hr0)).trans hr0) O O<|bv O (λ_=>aM underlying123 _ _ _ _) O O<|Bnr (v:=I (((r.reverse.flatten).length:Int))) O O (λ_=>(bu _ _ _ aG).trans (by congr 2;omega))<|Asg O<|aa<|Xd []<|Mv O<|Mv O<|Mv O<|Mv O<|oC (l:=(r.reverse.flatten).length) (h':=((x::r).reverse.flatten).length) (m:=((x::r).reverse.flatten).length) O underlying123 sizeOf5 O O O ⟨om,Nat.le_refl _,om⟩ O O<|?_
  rw[cutW];refine Mv O<|aW O O O<|Fa 0 O underlying250 O sizeOf123<|aQ O isAgg123 (λw' h=>((ae h).cell (block_lt_of_cell hr0)).trans hr0) O O<|ed (cs:=x) 11 hGF O O O underlying123 kr (by rw[hlen,Nat.add_sub_cancel_left];exact (Nat.min_self _).symm) (λw' h=>hby.grow (ae h)) (by split<;>simp<;>omega) O O<|?_
  rw[DQ (t:=d.reverse.flatten) O hlen O];refine aa<|Xq<|Mv O<|Asg O<|aa<|Xq<|Mv O<|aW O O O<|Fa 1 O underlying250 O sizeOf208<|aQ O isAgg208 (λw' h=>((ae h).cell (block_lt_of_cell hr1)).trans hr1) O O<|Asg O<|aa<|?_
  repeat (refine bh ?_)
  exact aV<|⟨rfl,⟨d++[x],r,pa,by rw[List.append_assoc];exact hdr,hc6⟩,_,by show r.length<r.length+1;omega,rfl,trv,⟨by rw[List.reverse_append];simp[List.append_assoc];rfl,trivial⟩⟩
 ·have hrn:r=[]:=by
   cases r with
   |nil=>rfl
   |cons x r=>obtain ⟨_,_,_,_,rfl,_⟩:=hc2;cases hc
  subst hrn;rw[List.append_nil]at hdr;subst hdr;refine bj<|Xp<|Mv O<|Asg O<|aa<|ao<|Rr<|?_;exact au O O (λw' hw'=>⟨_,rfl,ae hw',wy (n:=11) hw' (by rw[<-he];rfl)⟩)
end
section
open Go.RowKit
open Sh
def FRK(v:L8)(g:Rt):Rt:=P2 (dY v) g
def DOM(c:Cf):Rt:=[7#8,0#8,0#8,0#8]++(FRK c.v c.g).take 28
def MSG(c:Cf)(h:Hd):Rt:=P2 h.rt (DOM c)
theorem wT(v:L8)(g:Rt):(FRK v g).length=32:=da _ _
theorem CU(c:Cf):(DOM c).length=32:=by rw[DOM,List.length_append,List.length_take,wT];rfl
theorem Cf.at_g{c:Cf}(j:Nat)(v:Value)(h:(c.g.map U8)[j]? =some v):c.cs[0+j]? =some v:=by
 rw[Nat.zero_add,Cf.cs,List.getElem?_append_left (List.getElem?_eq_some_iff.1 h).1];exact h
theorem Cf.at_v{c:Cf}(k:c.Ok)(j:Nat)(v:Value)(h:(c.v.map U8)[j]? =some v):c.cs[32+j]? =some v:=by
 rw[Cf.cs,List.getElem?_append_right (by rw[List.length_map,k.g];omega),List.length_map,k.g,Nat.add_sub_cancel_left,List.getElem?_append_left (List.getElem?_eq_some_iff.1 h).1];exact h
def Jw(w w':World)(e:Ending)(xs:L8)(n:Nat):Prop:= ∃b cs cap,e=.returned (.slice (spt b) n cap)/\Grow w w'/\w.heap.size<=b/\OwnB w' b cs 5/\cs.length=cap/\n<=cap/\cs.take n=xs.map U8
end
section
open Go.RowKit
open Sh
theorem ent79:aJ prog 79:=λ_ _=>kr
theorem ent119:aJ prog 119:=λ_ _=>kr
theorem ent83:aJ prog 83:=λ_ _=>kr
theorem ent82:aJ prog 82:=λ_ _=>kr
theorem ent40:aJ prog 40:=λ_ _=>kr
theorem ent43:aJ prog 43:=λ_ _=>kr
theorem iJ(l:List Rt)(hl:AllR l)(hln:l.length<=65536)(a:Option Addr)(cap:Nat)(w:World)(hw:Gt w)(hr:RtsAt w a l):CLS 79 [.slice a l.length cap].toArray w (λe w'=>e=.returned (.agg ((Tor l).map U8).toArray)/\Grow w w'):=by
 refine Hf func79 O hw<|λhGF=>Xp<|Al 2 hGF zv28<|λb2=>aa<|Xp<|Mv O<|Mv O<|bv O (λ_=>aM underlying86 _ _ _ _) O O<|Cc O ent114 (λw' hw' hG=>wX (l.length:Int) om l hl l.length O hln a cap (by rw[Int.toNat_natCast];omega) w' hG (hr.grow (ae hw')))<|?_
 rw[Int.toNat_natCast,show tre P2 Z0 (dep l.length) l=Tor l from O];refine Mv O<|Exq O O<|Exq O O<|Al 3 hGF zv27<|λb3=>ai 3 hGF O O O sizeOf27 (by rw[List.length_map];exact cv hl) (by rw[List.length_map];exact cH) (bp _) O<|Asg O<|aa<|Xp<|aq 3 O O isAgg27 sizeOf27 (by rw[List.length_map];exact cv hl) O O<|ai 2 hGF O O O sizeOf28 (by rw[List.length_map];exact cv hl) (by rw[List.length_map];exact cH) (bp _) O<|aa<|ao<|Rr<|?_
 exact aF 2 O O O isAgg28 sizeOf28 (by rw[List.length_map];exact cv hl) (λw' hw'=>⟨rfl,ae hw'⟩)
theorem DJ:BR8 []=Tor []:=by rw[BR8,show chs []=[]from O]
theorem IP(a:Option Addr)(cap:Nat)(w:World)(hw:Gt w):CLS 119 [.slice a 0 cap].toArray w (λe w'=>e=.returned (.agg ((BR8 []).map U8).toArray)/\Grow w w'):=by
 refine Hf func119 O hw<|λhGF=>am (E:=EE [151])<|Al 2 hGF zv28<|λb2=>aa<|am (E:=EE [151])<|Mv O<|?_;refine cw O O ent151 O O (λw' hw'=>(nc [] a cap aC (Nat.zero_le _) w' (hGF.g _ _ _ hw') (jv _ _)).mono λe1 w2 h=> ?_);obtain ⟨_,rfl,hg,a9,c9,rfl,hs9,hn9⟩:=h;refine ⟨_,_,rfl,aT hGF,hw'.news aL hg [] (λ_ _ _ _ h=>by cases h) (λ_ _ _ _ _ _ _ h=>by cases h), ?_⟩
 clear hw' hg hs9 hn9;refine Cc O ent79 (λw' hw' hG=>iJ [] (λ_ h=>by simp at h) aC a9 c9 w' hG (q9 _ _)) ?_
 rw[<-DJ];refine ai 2 hGF O O O sizeOf28 (by rw[List.length_map];exact dy []) (by rw[List.length_map];exact cH) (bp _) O<|aa<|ao<|Rr<|?_
 exact aF 2 O O O isAgg28 sizeOf28 (by rw[List.length_map];exact dy []) (λw' hw'=>⟨rfl,ae hw'⟩)
theorem IA(bs:By)(h0:0<bs.length)(hl:bs.length<=1000000)(a:Option Addr)(cap:Nat)(hc:bs.length<=cap)(w:World)(hw:Gt w)(hb:BytesAt w a bs):CLS 119 [.slice a bs.length cap].toArray w (λe w'=>e=.returned (.agg ((BR8 bs).map U8).toArray)/\Grow w w'):=by
 refine Hf func119 O hw<|λhGF=>am (E:=EE [151])<|Al 2 hGF zv28<|λb2=>aa<|am (E:=EE [151])<|Mv O<|?_;refine cw O O ent151 O O (λw' hw'=>(nc bs a cap hl hc w' (hGF.g _ _ _ hw') (hb.grow (ae hw'))).mono λe1 w2 h=> ?_);obtain ⟨_,rfl,hg,a9,c9,rfl,hs9,hn9⟩:=h;unfold SlR at hs9;rw[s4,<-gF]at hs9;obtain ⟨b9,cs9,rfl,ho9,hl9,hc9,_,ht9⟩:=hs9.resolve_left (λh=>by have h3:=h.2.2.1;rw[gF]at h3;unfold cks at h3;omega)
 refine ⟨_,_,rfl,aT hGF,hw'.news aL hg [(4,b9,cs9,27)] ?_ de, ?_⟩
 ·intro n' b' c' t' hl
  rcases bx hl with ⟨_,e⟩|⟨_,hl⟩
  ·cases e;exact ⟨hn9 _ O,ho9⟩
  ·cases hl
 rw[<-gF];rw[List.length_map,cR _ (gI bs)]at ht9;clear hw' hg hn9 ho9;refine Cc O ent79 (λw' hw' hG=>iJ (chs bs) (gI bs) (by rw[gF];unfold cks;omega) _ c9 w' hG (ij (n:=4) (gI bs) O ht9 w' hw')) ?_
 rw[show Tor (chs bs)=BR8 bs from O];refine ai 2 hGF O O O sizeOf28 (by rw[List.length_map];exact dy bs) (by rw[List.length_map];exact cH) (bp _) O<|aa<|ao<|Rr<|?_
 exact aF 2 O O O isAgg28 sizeOf28 (by rw[List.length_map];exact dy bs) (λw' hw'=>⟨rfl,ae hw'⟩)
theorem xH(bs:By)(hl:bs.length<=1000000)(a:Option Addr)(cap:Nat)(hc:bs.length<=cap)(w:World)(hw:Gt w)(hb:BytesAt w a bs):CLS 119 [.slice a bs.length cap].toArray w (λe w'=>e=.returned (.agg ((BR8 bs).map U8).toArray)/\Grow w w'):=by
 rcases Nat.eq_zero_or_pos bs.length with h0|h0
 ·obtain rfl:bs=[]:=List.eq_nil_of_length_eq_zero h0
  exact IP a cap w hw
 ·exact IA bs h0 hl a cap hc w hw hb
theorem Fb(k:By)(hk:k.length=48)(w:World)(hw:Gt w):CLS 83 [.agg (k.map U8).toArray].toArray w (λe w'=>e=.returned (.agg ((BR8 k).map U8).toArray)/\Grow w w'):=by
 refine Hf func83 O hw<|λhGF=>Xp<|Bx 1 hGF O<|λb1=>Al 2 hGF zv28<|λb2=>aa<|Xp<|d7 (n:=48) O underlying33 sizeOf5 aC O O<|Cc O ent119 (λw' hw' hG=>by rw[<-hk];exact xH k (by rw[hk];decide) _ k.length (Nat.le_refl _) w' hG (BytesAt.range (av (n:=1) O w' hw')))<|ai 2 hGF O O O sizeOf28 (by rw[List.length_map];exact dy _) (by rw[List.length_map];exact cH) (bp _) O<|aa<|ao<|Rr<|?_
 exact aF 2 O O O isAgg28 sizeOf28 (by rw[List.length_map];exact dy _) (λw' hw'=>⟨rfl,ae hw'⟩)
structure RwS(n:Nat)(f:Nat->By) where
 (k:Nat) (c:List Value)
 hk:k<=n
 hc:c.length=32*n
 ht:c.take (32*k)=(RW 32 f k).map U8
theorem tO{n k:Nat}{f:Nat->By}{c:List Value}(hk:k<n)(hc:c.length=32*n)(ht:c.take (32*k)=(RW 32 f k).map U8)(hf:(f k).length=32):(lay (0+32*k) ((f k).map U8) c).take (32*(k+1))=(RW 32 f (k+1)).map U8:=by
 rw[Nat.zero_add,gU _ _ _ (by rw[List.length_map,hf,hc];omega),n9 f k hf,List.map_append,<-ht,List.take_append_of_le_length (by simp[hc,hf];omega)]
 exact List.take_of_length_le (by simp[hf];omega)
def sV(n:Nat)(f:Nat->By):RwS n f:=⟨0,(List.replicate (32*n) 0#8).map U8,Nat.zero_le _,aB,by simp[RW]⟩
theorem uh(ks:List By)(hl: ∀r∈ks,r.length=48)(hln:ks.length<=1000)(a:Option Addr)(cap:Nat)(w:World)(hw:Gt w)(hr:RwsAt 48 w a ks):CLS 82 [.slice a ks.length cap].toArray w (λe w'=>e=.returned (.agg ((Tor (krs ks ks.length)).map U8).toArray)/\Grow w w'):=by
 refine Hf func82 O hw<|λhGF=>Xp<|Al 2 hGF zv28<|λb2=>aa<|Xp<|Mv O<|bv O (λ_=>aM underlying31 _ _ _ _) O O<|gJ (l:=ks.length) (m:=ks.length) (c:=(List.replicate (32*ks.length) 0#8).map U8) 8 hGF O O (Nat.le_refl _) underlying86 tiR ⟨om,om,om⟩ (oE _) O O<|λb8=>Asg O<|aa<|ah<|Xp<|Mv O<|bv O (λ_=>aM underlying31 _ _ _ _) O O<|Mv O<|aa<|ar<|bV (ι:=RwS ks.length (λi=>BR8 (ks.getD i Z48))) (λx=>[(0,.slice a ks.length cap),(2,pnt b2),(3,.slice (spt b8) ks.length ks.length),(9,.slice a ks.length cap),(10,I (ks.length:Int)),(11,I (x.k:Int))]) (λx=>[(2,b2,Z0.map U8,28),(8,b8,x.c,27)]) (λx=>ks.length-x.k) (sV _ _) hGF trv trv<|?_;rintro ⟨k,c2,hk,hc2,ht2⟩;dsimp only;refine Xp ?_;rcases Nat.lt_or_ge k ks.length with hlt|hge
 ·obtain ⟨y,hiy⟩: ∃y,ks[k]? =some y:=⟨_,List.getElem?_eq_getElem hlt⟩
  have hy:y.length=48:=hl y (List.mem_of_getElem? hiy);obtain ⟨ad,hka,hyc⟩:=hr k y hiy;have hfy:(λi=>BR8 (ks.getD i Z48)) k=(BR8 y):=by show BR8 (ks.getD k Z48)=_;rw[List.getD_eq_getElem?_getD,hiy];rfl
  have hfk:(BR8 y).length=32:=dy y;refine Bnb true O O (λ_=>aI _ _ _) (by simp;omega)<|aa<|ah<|aP O<|aw<|ah<|ar<|Xp<|Mv O<|er (ad:=ad) k 48 (by rw[<-hka];rfl) O underlying31 sizeOf33 O hlt O O<|bB (cs:=y.map U8) O isAgg33 sizeOf33 (by rw[List.length_map];exact hy) (λw' h j v hv=>((ae h).cell (block_lt_of_cell (hyc j v hv))).trans (hyc j v hv)) O O<|Al 5 hGF zvK<|λb5=>Asg O<|ai 5 hGF O O O sizeOf33 (by rw[List.length_map];exact hy) (by rw[List.length_map];rfl) (bp _) O<|aa<|Xq<|Mv O<|Mv O<|aq 5 O O isAgg33 sizeOf33 (by rw[List.length_map];exact hy) O O<|Cc O ent83 (λw' hw' hG=>Fb y hy w' hG)<|iE (s:=32) k O O underlying86 sizeOf27 O hlt O O<|fL (vs:=((BR8 y)).map U8) (o:=0+32*k) 8 hGF O O O sizeOf27 (by rw[List.length_map];exact hfk) (bp _) (by rw[List.length_map,hfk,hc2];omega) O<|aa<|Xq<|Bnr (v:=I (((k+1:Nat):Int))) O O (λ_=>(ay _ _ _ aG).trans aE)<|Mv O<|aa<|?_
  repeat (refine bh ?_)
  exact aV<|⟨rfl,⟨k+1,lay (0+32*k) (((BR8 y)).map U8) c2,hlt,by rw[fu];exact hc2,by rw[<-hfy]at hfk⊢;exact tO hlt hc2 ht2 hfk⟩,_,by show ks.length-(k+1)<ks.length-k;omega,rfl,trv,trv⟩
 ·obtain rfl:k=ks.length:=om
  rw[sS]at ht2;have hAl:=eX ks ks.length;have hLn:(krs ks ks.length).length=ks.length:=iS _ _;have ht2:c2.take (32*(krs ks ks.length).length)=(krs ks ks.length).flatten.map U8:=by rw[iS];exact ht2
  refine Bnb false O O (λ_=>aI _ _ _) (by rw[decide_eq_false_iff_not];omega)<|aa<|ah<|aH O<|bj<|Xp<|Mv O<|Cc O ent79 (λw' hw' hG=>by have:=iJ (krs ks ks.length) (eX _ _) (by rw[iS];omega) _ ks.length w' hG (ij (n:=8) hAl O ht2 w' hw');rw[hLn]at this;exact this)<|ai 2 hGF O O O sizeOf28 (by rw[List.length_map];exact cv (eX _ _)) (by rw[List.length_map];exact cH) (bp _) O<|aa<|ao<|Rr<|?_
  exact aF 2 O O O isAgg28 sizeOf28 (by rw[List.length_map];exact cv (eX _ _)) (λw' hw'=>⟨rfl,ae hw'⟩)
theorem Hd.c0{h:Hd}: ∀j v,[U64 h.s][j]? =some v->h.cs[0+j]? =some v:=eo (pre:=[]) (post:=U64 h.p::(h.a.map U8++(h.b.map U8++h.c.map U8))) O
theorem Hd.c1{h:Hd}: ∀j v,[U64 h.p][j]? =some v->h.cs[1+j]? =some v:=eo (pre:=[U64 h.s]) (post:=h.a.map U8++(h.b.map U8++h.c.map U8)) O
theorem EY(h:Hd)(hk:h.Ok)(w:World)(hw:Gt w):CLS 40 [.agg h.cs.toArray].toArray w (λe w'=>e=.returned (.agg ((h.rt).map U8).toArray)/\Grow w w'):=by
 refine Hf func40 O hw<|λhGF=>am (E:=EE [2999998])<|Bx 1 hGF O<|λb1=>Al 2 hGF zv28<|λb2=>aa<|Xd [2999998]<|Fa 0 O underlying30 O sizeOf22<|aQ (v:=U64 h.s) O isAgg22 (λw' hw'=>by have:=(av (n:=1) O w' hw') _ _ (Hd.c0 0 _ O);exact this) O O<|Cc O ent80 (λw' hw' hG=>qh h.s w' hG)<|?_
 rw[show dY (le8 h.s 8)=nR h.s from O];obtain ⟨r5,hr5⟩: ∃x,x=nR h.s:=⟨_,rfl⟩;rw[<-hr5];have hl5:r5.length=32:=by rw[hr5];exact mV _
 refine Fa 1 O underlying30 O sizeOf22<|aQ (v:=U64 h.p) O isAgg22 (λw' hw'=>by have:=(av (n:=1) O w' hw') _ _ (Hd.c1 0 _ O);exact this) O O<|Cc O ent80 (λw' hw' hG=>qh h.p w' hG)<|?_
 rw[show dY (le8 h.p 8)=nR h.p from O];obtain ⟨r8,hr8⟩: ∃x,x=nR h.p:=⟨_,rfl⟩;rw[<-hr8];have hl8:r8.length=32:=by rw[hr8];exact mV _
 refine Fa 2 O underlying30 O sizeOf28<|az (cs:=h.a.map U8) O isAgg28 sizeOf28 (by rw[List.length_map];exact hk.a) (λw' hw' j v hv=>by have:=(av (n:=1) O w' hw') _ v (Hd.at_a j v hv);rwa [Nat.zero_add]at this) O O<|Fa 34 O underlying30 O sizeOf28<|az (cs:=h.b.map U8) O isAgg28 sizeOf28 (by rw[List.length_map];exact hk.b) (λw' hw' j v hv=>by have:=(av (n:=1) O w' hw') _ v ((Hd.at_b hk) j v hv);rwa [Nat.zero_add]at this) O O<|Fa 66 O underlying30 O sizeOf28<|az (cs:=h.c.map U8) O isAgg28 sizeOf28 (by rw[List.length_map];exact hk.c) (λw' hw' j v hv=>by have:=(av (n:=1) O w' hw') _ v ((Hd.at_c hk) j v hv);rwa [Nat.zero_add]at this) O O<|j4 (uf:=U8) (s:=32) 15 (λi=>([r5,r8,h.a,h.b,h.c]).getD i []) (List.replicate 32 0#8) hGF O O O (λi hi=>(cM hl5 (cM hl8 (cM hk.a (cM hk.b (cM hk.c jD))))) _ (mE hi)) aC aC underlying86 sizeOf27 O zv27 O O<|?_
 intro b15;rw[show RW 32 (λi=>([r5,r8,h.a,h.b,h.c]).getD i []) 5=([r5,r8,h.a,h.b,h.c]).flatten from i8 ([r5,r8,h.a,h.b,h.c]) (cM hl5 (cM hl8 (cM hk.a (cM hk.b (cM hk.c jD)))))];refine mw O O ent79 (λw' hw' hG=>iJ [r5,r8,h.a,h.b,h.c] (cM hl5 (cM hl8 (cM hk.a (cM hk.b (cM hk.c jD))))) (by show 5<=65536;decide) _ 5 w' hG (ij (n:=15) (cM hl5 (cM hl8 (cM hk.a (cM hk.b (cM hk.c jD))))) O (List.take_of_length_le (by rw[List.length_map,cR _ (cM hl5 (cM hl8 (cM hk.a (cM hk.b (cM hk.c jD)))))];exact Nat.le_refl _)) w' hw')) O O<|ai 2 hGF O O O sizeOf28 (by rw[List.length_map];exact cv (cM hl5 (cM hl8 (cM hk.a (cM hk.b (cM hk.c jD)))))) (by rw[List.length_map];exact cH) (bp _) O<|aa<|ao<|Rr<|?_
 exact aF 2 O O O isAgg28 sizeOf28 (by rw[List.length_map];exact cv (cM hl5 (cM hl8 (cM hk.a (cM hk.b (cM hk.c jD)))))) (λw' hw'=>⟨by rw[hr5,hr8];rfl,ae hw'⟩)
theorem Lg(c:Co)(hk:c.Ok)(hn:c.ks.length<=1000)(w:World)(hw:Gt w)(hks:RwsAt 48 w c.ka c.ks):CLS 43 [.agg c.cs.toArray].toArray w (λe w'=>e=.returned (.agg ((c.rt c.ks.length).map U8).toArray)/\Grow w w'):=by
 refine Hf func43 O hw<|λhGF=>am (E:=EE [2999998])<|Bx 1 hGF O<|λb1=>Al 2 hGF zv28<|λb2=>aa<|Xd [2999998]<|Fa 0 O underlying35 O sizeOf31<|aQ (v:=.slice c.ka c.ks.length c.kc) O isAgg31 (λw' hw'=>by have:=(av (n:=1) O w' hw') _ _ (Co.a0 0 _ O);exact this) O O<|Cc O ent82 (λw' hw' hG=>uh c.ks hk.ks hn c.ka c.kc w' hG (hks.grow (ae hw')))<|?_
 obtain ⟨r5,hr5⟩: ∃x,x=Tor (krs c.ks c.ks.length):=⟨_,rfl⟩;rw[<-hr5];have hl5:r5.length=32:=by rw[hr5];exact cv (eX _ _)
 refine Fa 1 O underlying35 O sizeOf33<|az (cs:=c.sum.map U8) O isAgg33 sizeOf33 (by rw[List.length_map];exact hk.sum) (λw' hw' j v hv=>by have:=(av (n:=1) O w' hw') _ v (Co.a_sum j v hv);rwa [Nat.zero_add]at this) O O<|Cc O ent83 (λw' hw' hG=>Fb c.sum hk.sum w' hG)<|?_
 obtain ⟨r8,hr8⟩: ∃x,x=BR8 c.sum:=⟨_,rfl⟩;rw[<-hr8];have hl8:r8.length=32:=by rw[hr8];exact dy _
 refine j4 (uf:=U8) (s:=32) 9 (λi=>([r5,r8]).getD i []) (List.replicate 32 0#8) hGF O O O (λi hi=>(cM hl5 (cM hl8 jD)) _ (mE hi)) aC aC underlying86 sizeOf27 O zv27 O O ?_;intro b9;rw[show RW 32 (λi=>([r5,r8]).getD i []) 2=([r5,r8]).flatten from i8 ([r5,r8]) (cM hl5 (cM hl8 jD))];refine mw O O ent79 (λw' hw' hG=>iJ [r5,r8] (cM hl5 (cM hl8 jD)) (by show 2<=65536;decide) _ 2 w' hG (ij (n:=9) (cM hl5 (cM hl8 jD)) O (List.take_of_length_le (by rw[List.length_map,cR _ (cM hl5 (cM hl8 jD))];exact Nat.le_refl _)) w' hw')) O O<|ai 2 hGF O O O sizeOf28 (by rw[List.length_map];exact cv (cM hl5 (cM hl8 jD))) (by rw[List.length_map];exact cH) (bp _) O<|aa<|ao<|Rr<|?_
 exact aF 2 O O O isAgg28 sizeOf28 (by rw[List.length_map];exact cv (cM hl5 (cM hl8 jD))) (λw' hw'=>⟨by rw[hr5,hr8];rfl,ae hw'⟩)
end
section
open Go.RowKit
open Sh
theorem ent39:aJ prog 39:=λ_ _=>kr
theorem ent44:aJ prog 44:=λ_ _=>kr
theorem ent42:aJ prog 42:=λ_ _=>kr
theorem ent36:aJ prog 36:=λ_ _=>kr
theorem ent38:aJ prog 38:=λ_ _=>kr
theorem ent41:aJ prog 41:=λ_ _=>kr
def FnA(w:World)(v:Value)(a:Int):Prop:= ∃f ft cl,v=.func (.func f) (ft:List Value).toArray (cl:List Value).toArray/\aJ prog f/\∀w1,Grow w w1->Gt w1->CLS f (ft++[]++cl).toArray w1 (λe w2=>e=.returned (I a)/\Grow w1 w2)
def Fst(w:World):List Value->Int->Prop
 |[],r=>r=0
 |v::l,r=> ∃a,FnA w v a/\((a=0/\Fst w l r)\/(a≠0/\r=a))
theorem FnA.ok{w:World}{v:Value}{l:List Value}{r:Int}(h:FnA w v 0)(hl:Fst w l r):Fst w (v::l) r:=⟨0,h,.inl ⟨rfl,hl⟩⟩
theorem FnA.no{w:World}{v:Value}{l:List Value}{r:Int}(h:FnA w v r)(hr:r≠0):Fst w (v::l) r:=⟨r,h,.inr ⟨hr,rfl⟩⟩
theorem mo(b:Bool)(k:Int)(w:World)(hw:Gt w):CLS 39 [.bool b,I k].toArray w (λe w'=>e=.returned (I (bif b then 0 else k))/\Grow w w'):=by
 cases b
 ·refine Hf func39 O hw<|λhGF=>Xp<|Asg O<|aa<|ah<|Xp<|Mv O<|aa<|aH O<|aw<|Xp<|Mv O<|Asg O<|aa<|ao<|Rr<|?_
  exact au O O (λw' hw'=>⟨rfl,ae hw'⟩)
 ·refine Hf func39 O hw<|λhGF=>Xp<|Asg O<|aa<|ah<|Xp<|Mv O<|aa<|aP O<|Xp<|Asg O<|aa<|ao<|Rr<|?_
  exact au O O (λw' hw'=>⟨rfl,ae hw'⟩)
theorem E7(l:List Value)(hl:l.length<=1000)(a:Option Addr)(cap:Nat)(r:Int)(w:World)(hw:Gt w)(hcl:CellsAt w a l)(hF:Fst w l r):CLS 44 [.slice a l.length cap].toArray w (λe w'=>e=.returned (I r)/\Grow w w'):=by
 refine Hf func44 O hw<|λhGF=>Xp<|Asg O<|aa<|jR<|Xp<|Asg O<|aa<|ah<|lR<|ah<|Xp<|Mv O<|bv O (λ_=>aM underlying142 _ _ _ _) O O<|Mv O<|aa<|ar<|bV (ι:={i:Nat // i<=l.length/\Fst w (l.drop i) r}) (λx=>[(3,I 0),(6,.slice a l.length cap),(7,I (l.length:Int)),(8,I (x.1:Int))]) (λ_=>[]) (λx=>l.length-x.1) ⟨0,Nat.zero_le _,hF⟩ hGF trv trivial<|?_;rintro ⟨i,hi,hFi⟩;dsimp only;refine Xp<|Bnr O O (λ_=>aI _ _ _)<|aa<|ah<|?_;refine cq O (λhc=> ?_) (λhc=> ?_)
 ·have hlt:i<l.length:=(by simp at hc;omega)
  clear hc;obtain ⟨y,hx⟩: ∃y,l[i]? =some y:=⟨_,List.getElem?_eq_getElem hlt⟩;rw[vo hx]at hFi;obtain ⟨x,⟨f,ft,cl,rfl,hen,hfp⟩,hca⟩:=hFi;refine aw<|ah<|ar<|Xp<|?_;obtain ⟨ad,hae,hcell⟩:=hcl i _ hx;refine er (ad:=ad) i 1 (by rw[<-hae];rfl) O underlying142 sizeOf92 O hlt O O<|aQ (v:=.func (.func f) ft.toArray cl.toArray) O isAgg92 (λw' h=>by rw[Nat.mul_one];exact ((ae h).cell (block_lt_of_cell hcell)).trans hcell) O O<|Asg O<|aa<|Xp<|Mv O<|AZ (v:=I x) O O hen (λw' hw' hG=>hfp w' (ae hw') hG) hGF O O O<|Asg O<|aa<|Xp<|Mv O<|aa<|ar<|Xp<|?_
  rcases hca with ⟨hx0,hrest⟩|⟨hx0,hrx⟩
  ·refine Bnb true O O (λ_=>cj _ x 0) (decide_eq_true hx0)<|Asg O<|aa<|aP O<|aw<|Xq<|Bnr (v:=I (((i+1:Nat):Int))) O O (λ_=>(ay _ _ _ aG).trans aE)<|Mv O<|aa<|?_
   repeat (refine bh ?_)
   exact aV<|⟨rfl,⟨i+1,hlt,hrest⟩,_,by show l.length-(i+1)<l.length-i;omega,rfl,⟨by rw[hx0];rfl,rfl,rfl,rfl,trivial⟩,trivial⟩
  ·refine Bnb false O O (λ_=>cj _ x 0) (decide_eq_false hx0)<|Asg O<|aa<|aH O<|bj<|Xp<|Mv O<|Asg O<|aa<|ao<|?_
   repeat (first|refine cT ?_|refine cU ?_|refine fR ?_)
   exact au O O (λw' hw'=>⟨by rw[hrx],ae hw'⟩)
 ·have hie:i=l.length:=(by simp at hc;omega)
  clear hc;rw[hie,List.drop_length]at hFi;refine bj<|Xp<|Mv O<|Asg O<|aa<|ao<|?_
  repeat (first|refine cT ?_|refine cU ?_|refine fR ?_)
  exact au O O (λw' hw'=>⟨by rw[show r=0 from hFi],ae hw'⟩)
theorem K1(lf:Rt)(hlf:lf.length=32)(l:List Rt)(hl:AllR l)(hln:l.length<=1000)(a:Option Addr)(cap:Nat)(ix:BitVec 64)(st:Rt)(hst_:st.length=32)(w:World)(hw:Gt w)(hr:RtsAt w a l):CLS 42 [.agg (lf.map U8).toArray,.slice a l.length cap,U64 ix,.agg (st.map U8).toArray].toArray w (λe w'=>e=.returned (.bool (vfy lf l ix st))/\Grow w w'):=by
 refine Hf func42 O hw<|λhGF=>Xp<|Bx 4 hGF O<|λb4=>Bx 7 hGF O<|λb7=>Asg O<|aa<|Xp<|Mv O<|bv O (λ_=>aM underlying96 _ _ _ _) O O<|gJ (l:=l.length) (m:=l.length) (c:=(List.replicate (32*l.length) 0#8).map U8) 14 hGF O O (Nat.le_refl _) underlying86 tiR ⟨om,om,om⟩ (oE _) O O<|λb14=>Asg O<|aa<|ah<|Xp<|Mv O<|bv O (λ_=>aM underlying96 _ _ _ _) O O<|Mv O<|aa<|ar<|bV (ι:=RwS l.length (λi=>l.getD i [])) (λx=>[(1,.slice a l.length cap),(2,U64 ix),(4,pnt b4),(7,pnt b7),(9,.slice (spt b14) l.length l.length),(15,.slice a l.length cap),(16,I (l.length:Int)),(17,I (x.k:Int))]) (λx=>[(4,b4,lf.map U8,28),(7,b7,st.map U8,28),(14,b14,x.c,27)]) (λx=>l.length-x.k) (sV _ _) hGF trv trv<|?_;rintro ⟨k,c2,hk,hc2,ht2⟩;dsimp only;refine Xp ?_;rcases Nat.lt_or_ge k l.length with hlt|hge
 ·obtain ⟨y,hiy⟩: ∃y,l[k]? =some y:=⟨_,List.getElem?_eq_getElem hlt⟩
  have hy:y.length=32:=hl y (List.mem_of_getElem? hiy);obtain ⟨ad,hka,hyc⟩:=hr k y hiy;have hfy:(λi=>l.getD i []) k=y:=by show l.getD k []=_;rw[List.getD_eq_getElem?_getD,hiy];rfl
  refine Bnb true O O (λ_=>aI _ _ _) (by simp;omega)<|aa<|ah<|aP O<|aw<|ah<|ar<|Xp<|Mv O<|er (ad:=ad) k 32 (by rw[<-hka];rfl) O underlying96 sizeOf28 O hlt O O<|bB (cs:=y.map U8) O isAgg28 sizeOf28 (by rw[List.length_map];exact hy) (λw' h j v hv=>((ae h).cell (block_lt_of_cell (hyc j v hv))).trans (hyc j v hv)) O O<|Al 11 hGF zv28<|λb11=>Asg O<|ai 11 hGF O O O sizeOf28 (by rw[List.length_map];exact hy) (by rw[List.length_map];rfl) (bp _) O<|aa<|Xq<|Mv O<|Mv O<|aq 11 O O isAgg28 sizeOf28 (by rw[List.length_map];exact hy) O O<|iE (s:=32) k O O underlying86 sizeOf27 O hlt O O<|fL (vs:=y.map U8) (o:=0+32*k) 14 hGF O O O sizeOf27 (by rw[List.length_map];exact hy) (bp _) (by rw[List.length_map,hy,hc2];omega) O<|aa<|Xq<|Bnr (v:=I (((k+1:Nat):Int))) O O (λ_=>(ay _ _ _ aG).trans aE)<|Mv O<|aa<|?_
  repeat (refine bh ?_)
  exact aV<|⟨rfl,⟨k+1,lay (0+32*k) (y.map U8) c2,hlt,by rw[fu];exact hc2,by have hy2:=hy;rw[<-hfy]at hy2⊢;exact tO hlt hc2 ht2 hy2⟩,_,by show l.length-(k+1)<l.length-k;omega,rfl,trv,trv⟩
 ·obtain rfl:k=l.length:=om
  rw[i8 l hl]at ht2;refine Bnb false O O (λ_=>aI _ _ _) (by rw[decide_eq_false_iff_not];omega)<|aa<|ah<|aH O<|bj<|Xp<|az (cs:=lf.map U8) O isAgg28 sizeOf28 (by rw[List.length_map];exact hlf) (λw' hw' j v hv=>by have:=(av (n:=4) O w' hw') _ v (dN j v hv);rwa [Nat.zero_add]at this) O O<|Mv O<|Mv O<|az (cs:=st.map U8) O isAgg28 sizeOf28 (by rw[List.length_map];exact hst_) (λw' hw' j v hv=>by have:=(av (n:=7) O w' hw') _ v (dN j v hv);rwa [Nat.zero_add]at this) O O<|Cc O ent81 (λw' hw' hG=>uL lf hlf l hl om _ l.length ix st hst_ w' hG (ij (n:=14) hl O ht2 w' hw'))<|Asg O<|aa<|ao<|Rr<|?_
  exact au O O (λw' hw'=>⟨rfl,ae hw'⟩)
theorem Hr{lf st:Rt}{br:By}{n:Nat}(hn:n<=1000)(hb:br.length=32*n)(hlf:lf.length=32)(hst:st.length=32){x:BitVec 64}{V:Bool}(hV:vfy lf (di br n) x st=V)(a:Option Addr)(cap:Nat)(w:World)(hw:Gt w)(h:BytesAt w a br):CLS 42 [.agg (lf.map U8).toArray,.slice a n cap,U64 x,.agg (st.map U8).toArray].toArray w (λe w'=>e=.returned (.bool V)/\Grow w w'):=by
 have e:(di br n).length=n:=fM _ _;have h1:=K1 lf hlf (di br n) (ee hb) (by rw[e];exact hn) a cap x st hst w hw (qZ hb h)
 rw[e,hV]at h1;exact h1
theorem eU{w w':World}{b:Nat}{cs vs:List Value}{o:Nat}(h:w.rangeAt b 0 cs)(hg:Grow w w')(hat: ∀j v,vs[j]? =some v->cs[o+j]? =some v): ∀j v,vs[j]? =some v->w'.cell? ((⟨b,o,none⟩:Addr).add j)=some v:=λj v hv=>by
 have h1:=h _ v (hat j v hv);rw[Nat.zero_add]at h1;rw[Addr.add_mid];exact (hg.cell (block_lt_of_cell h1)).trans h1
theorem ib{w w':World}{b:Nat}{cs:List Value}{o:Nat}{v:Value}(h:w.rangeAt b 0 cs)(hg:Grow w w')(hat:cs[o]? =some v):w'.cell? ⟨b,o,none⟩=some v:=by
 have h1:=h _ v hat;rw[Nat.zero_add]at h1;exact (hg.cell (block_lt_of_cell h1)).trans h1
theorem cE{w w':World}{b:Nat}{cs:List Value}(h:w.rangeAt b 0 cs)(hg:Grow w w'):w'.rangeAt b 0 cs:=λj v hv=>(hg.cell (block_lt_of_cell (h j v hv))).trans (h j v hv)
theorem Km(c:Cf)(hc_:c.Ok)(p:Nat)(w:World)(hw:Gt w)(hr:w.rangeAt p 0 c.cs):CLS 36 [pnt p].toArray w (λe w'=>e=.returned (I c.chk)/\Grow w w'):=by
 refine Hf func36 O hw<|λhGF=>Xp<|Asg O<|aa<|Xp<|bB (cs:=c.cs) O isAgg50 sizeOf50 (Cf.len hc_) (λw' h=>eU hr (ae h) (dN)) O O<|Cc O ent37 (λw' hw' hG=>qJ c hc_ w' hG)<|Asg O<|aa<|ao<|Rr<|?_;exact au O O (λw' hw'=>⟨rfl,ae hw'⟩)
theorem Kt(b:Bo)(hb:b.Ok)(t:Rt)(ht:t.length=32)(p q:Nat)(w:World)(hw:Gt w)(hr:w.rangeAt p 0 b.cs)(hs:w.rangeAt q 0 (t.map U8)):CLS 38 [pnt p,pnt q].toArray w (λe w'=>e=.returned (I (bif decide (b.hd.rt=t)then 0 else 230))/\Grow w w'):=by
 refine Hf func38 O hw<|λhGF=>Xp<|Asg O<|aa<|Xd []<|Fa 0 O underlying38 O sizeOf30<|bB (cs:=b.hd.cs) O isAgg30 sizeOf30 (Hd.len hb.hd) (λw' h=>eU hr (ae h) ((Bo.l1))) O O<|Cc O ent40 (λw' hw' hG=>EY b.hd hb.hd w' hG)<|bB (cs:=t.map U8) O isAgg28 sizeOf28 (by rw[List.length_map];exact ht) (λw' h=>eU hs (ae h) (dN)) O O<|du (v:=.bool (decide (b.hd.rt=t))) O O (λw'=>Jg _ _ _ _ _ w') (λw'=>xa Af aC b.hd.rt t (Hd.rt_len hb.hd) ht w') O O<|Cc O ent39 (λw' hw' hG=>mo (decide (b.hd.rt=t)) 230 w' hG)<|Asg O<|aa<|ao<|Rr<|?_
 exact au O O (λw' hw'=>⟨rfl,ae hw'⟩)
theorem IQ(b:Bo)(hb:b.Ok)(hks:b.nw.ks.length<=1000)(p:Nat)(w:World)(hw:Gt w)(hr:w.rangeAt p 0 b.cs)(hrw:RwsAt 48 w b.nw.ka b.nw.ks):CLS 41 [pnt p].toArray w (λe w'=>e=.returned (I (bif vfy (b.nw.rt b.nw.ks.length) (di b.br 5) 22#64 b.hd.b then 0 else 231))/\Grow w w'):=by
 refine Hf func41 O hw<|λhGF=>Xp<|Asg O<|aa<|Xd []<|Fa 98 O underlying38 O sizeOf35<|bB (cs:=b.nw.cs) O isAgg35 sizeOf35 (Co.len hb.nw) (λw' h=>eU hr (ae h) ((Bo.l2 hb))) O O<|Cc O ent43 (λw' hw' hG=>Lg b.nw hb.nw hks w' hG (hrw.grow (ae hw')))<|Fa 147 O underlying38 O sizeOf36<|d7 (n:=5) O underlying36 sizeOf28 aC O O<|Fa 0 O underlying38 O sizeOf30<|Fa 34 O underlying30 O sizeOf28<|bB (cs:=b.hd.b.map U8) O isAgg28 sizeOf28 (by rw[List.length_map];exact hb.hd.b) (λw' h=>eU hr (ae h) ((bg (o:=0) (p:=34) (Bo.l1) (Hd.at_b hb.hd)))) O O<|Cc O ent42 (λw' hw' hG=>Hr (n:=5) aC hb.br (Co.rt_len _ _) hb.hd.b O _ 5 w' hG (λj v hv=>⟨_,rfl,eU hr (ae hw') (Bo.l3 hb) j v hv⟩))<|Cc O ent39 (λw' hw' hG=>mo (vfy (b.nw.rt b.nw.ks.length) (di b.br 5) 22#64 b.hd.b) 231 w' hG)<|Asg O<|aa<|ao<|Rr<|?_
 exact au O O (λw' hw'=>⟨rfl,ae hw'⟩)
theorem Dd{c:Cf}{t:Rt}{b:Bo}{p q r:Nat}{w:World}(hc_:c.Ok)(ht:t.length=32)(hb:b.Ok)(hks:b.nw.ks.length<=1000)(hp:w.rangeAt p 0 c.cs)(hq:w.rangeAt q 0 (t.map U8))(hr:w.rangeAt r 0 b.cs)(hrw:RwsAt 48 w b.nw.ka b.nw.ks):
 Fst w [.func (.func 36) #[] #[pnt p],.func (.func 38) #[] #[pnt r,pnt q],.func (.func 41) #[] #[pnt r]] (bif c.rt then ld t b else 210):=by
 have h1:FnA w (.func (.func 36) #[] #[pnt p]) c.chk:=⟨_,[],[pnt p],rfl,ent36,λw1 hg hG=>Km c hc_ p w1 hG (cE hp hg)⟩;have h2:FnA w (.func (.func 38) #[] #[pnt r,pnt q]) (bif decide (b.hd.rt=t)then 0 else 230):=⟨_,[],[pnt r,pnt q],rfl,ent38,λw1 hg hG=>Kt b hb t ht r q w1 hG (cE hr hg) (cE hq hg)⟩
 have h3:FnA w (.func (.func 41) #[] #[pnt r]) (bif vfy (b.nw.rt b.nw.ks.length) (di b.br 5) 22#64 b.hd.b then 0 else 231):=⟨_,[],[pnt r],rfl,ent41,λw1 hg hG=>IQ b hb hks r w1 hG (cE hr hg) (hrw.grow hg)⟩
 rcases Bool.eq_false_or_eq_true c.rt with hrt|hrt
 ·rw[show c.chk=0 from by rw[Cf.chk,hrt];rfl]at h1
  rw[hrt,cond_true];refine h1.ok ?_;by_cases e:b.hd.rt=t
  ·rw[decide_eq_true e]at h2
   refine h2.ok ?_;rcases Bool.eq_false_or_eq_true (vfy (b.nw.rt b.nw.ks.length) (di b.br 5) 22#64 b.hd.b)with hv|hv
   ·rw[hv]at h3;rw[v4 (decide_eq_true e) hv];exact h3.ok O
   ·rw[hv]at h3;rw[CA (decide_eq_true e) hv];exact h3.no aC
  ·rw[decide_eq_false e]at h2
   rw[BJ (decide_eq_false e)];exact h2.no aC
 ·rw[show c.chk=210 from by rw[Cf.chk,hrt];rfl]at h1
  rw[hrt];exact h1.no aC
theorem F9(c:Cf)(t:Rt)(b:Bo)(hc_:c.Ok)(ht:t.length=32)(hb:b.Ok)(hks:b.nw.ks.length<=1000)(w:World)(hw:Gt w)(hrw:RwsAt 48 w b.nw.ka b.nw.ks):CLS 14 [.agg c.cs.toArray,.agg (t.map U8).toArray,.agg b.cs.toArray].toArray w (λe w'=>e=.returned (I (bif c.rt then ld t b else 210))/\Grow w w'):=by
 refine Hf func14 O hw<|λhGF=>Xp<|Bx 3 hGF O<|λb3=>Bx 4 hGF O<|λb4=>Bx 5 hGF O<|λb5=>Asg O<|aa<|Xp<|dL O O O O<|Asg O<|aa<|Xp<|dL O O O O<|Asg O<|aa<|Xp<|dL O O O O<|Asg O<|aa<|Xp<|Mv O<|Mv O<|Mv O<|iq 16 [.func (.func 36) #[] #[pnt b3],.func (.func 38) #[] #[pnt b5,pnt b4],.func (.func 41) #[] #[pnt b5]] hGF O O O aC aC underlying142 sizeOf92 zeroValue92 O O O<|λb16=>Cc O ent44 (λw' hw' hG=>E7 [.func (.func 36) #[] #[pnt b3],.func (.func 38) #[] #[pnt b5,pnt b4],.func (.func 41) #[] #[pnt b5]] (by show 3<=1000;decide) _ 3 (bif c.rt then ld t b else 210) w' hG (CellsAt.range (av (n:=16) O w' hw')) (Dd hc_ ht hb hks (av (n:=3) O w' hw') (av (n:=4) O w' hw') (av (n:=5) O w' hw') (hrw.grow (ae hw'))))<|Asg O<|aa<|ao<|Rr<|?_
 exact au O O (λw' hw'=>⟨rfl,ae hw'⟩)
end
section
open Go.RowKit
open Sh
theorem ent154:aJ prog 154:=λ_ _=>kr
theorem ent129:aJ prog 129:=λ_ _=>kr
def SlsAt(w:World)(a:Option Addr)(ls:List By):Prop:= ∀i x,ls[i]? =some x->∃ad p c,a=some ad/\w.cell? (ad.add i)=some (.slice p x.length c)/\BytesAt w p x/\x.length<=c
theorem SlsAt.grow{w w':World}{a:Option Addr}{ls:List By}(h:SlsAt w a ls)(hg:Grow w w'):SlsAt w' a ls:=λi x hx=>by
 obtain ⟨ad,p,c,e,h1,h2,h3⟩:=h i x hx;exact ⟨ad,p,c,e,(hg.cell (block_lt_of_cell h1)).trans h1,h2.grow hg,h3⟩
theorem wi{w:World}{b:Nat}{ls:List By}{vs:List Value}(h:w.rangeAt b 0 vs)(hv: ∀(i:Nat) (x:By),ls[i]? =some x->∃p c,vs[i]? =some (Value.slice p x.length c)/\BytesAt w p x/\x.length<=c):SlsAt w (spt b) ls:=λi x hx=>by
 obtain ⟨p,c,h1,h2,h3⟩:=hv i x hx;exact ⟨_,p,c,rfl,by rw[Addr.add_mid];exact h i _ h1,h2,h3⟩
theorem pck1(x:By)(h0:0<x.length)(h32:x.length<=32)(a:Option Addr)(cap:Nat)(hc:x.length<=cap)(w:World)(hw:Gt w)(hb:BytesAt w a x):CLS 151 [.slice a x.length cap].toArray w (λe w'=> ∃b c1,e=.returned (.slice (spt b) 1 c1)/\Grow w w'/\w.heap.size<=b/\w'.rangeAt b 0 ((dY x).map U8)):=
 (nc x a cap om hc w hw hb).mono λe w' ⟨v,h1,h2,a2,c2,h3,hs,hn⟩=>by
  have hk:cks x=1:=by unfold cks;omega
  rw[hk]at h3 hs;have hx:ck x 0=dY x:=by rw[ck,Nat.mul_zero,List.drop_zero,List.take_of_length_le h32]
  have e1:RW 32 (ck x) 1=dY x:=by rw[n9 (ck x) 0 (jM x 0),hx];rfl
  unfold SlR at hs;rw[e1]at hs;obtain ⟨b,hb2,hr⟩:=hs.at (λh=>by have:=congrArg List.length h;rw[List.length_map,eJ h32]at this;cases this)
  subst hb2;exact ⟨b,c2,by rw[h1,h3],h2,hn _ O,hr⟩
theorem D2{w:World}{a:Option Addr}{cap:Nat}{l:List Rt}(hl:AllR l)(h:SlR w a cap l.length (λi=>l.getD i [])):RtsAt w a l:=by
 unfold SlR at h;rw[i8 l hl]at h;rcases h with ⟨_,_,h3,_⟩|⟨b,c,rfl,ho,_,_,_,h4⟩
 ·obtain rfl:l=[]:=List.eq_nil_of_length_eq_zero h3
  exact q9 _ _
 ·exact nP hl ho.range (by rw[List.length_map,cR _ hl]at h4;exact h4)
theorem zC: ∀(ls:List By),(∀x∈ls,x.length<=1000)->ls.flatten.length<=1000*ls.length
 |[],_=>Nat.le_refl _
 |x::l,h=>by
  rw[List.flatten_cons,List.length_append,List.length_cons];have:=h x List.mem_cons_self;have:=zC l (λy hy=>h y (List.mem_cons_of_mem _ hy));omega
theorem Ct{ls:List By}{k:Nat}{x:By}(h:ls[k]? =some x):(ls.take (k+1)).flatten=(ls.take k).flatten++x:=by
 rw[List.take_add_one,h,List.flatten_append];simp
def pds(ls:List By):List Rt:=ls.map dY
theorem wR{ls:List By}(h: ∀x∈ls,0<x.length/\x.length<=32):AllR (pds ls):=λr hr=>by
 obtain ⟨x,hx,rfl⟩:=List.mem_map.1 hr;exact eJ (h x hx).2
theorem rT(ls:List By):(pds ls).length=ls.length:=List.length_map ..
theorem zj{ls:List By}{k:Nat}{x:By}(h:ls[k]? =some x):(pds ls).getD k []=dY x:=by
 rw[List.getD_eq_getElem?_getD,pds,List.getElem?_map,h];rfl
theorem zvW(w:World):(zeroValue 210).run prog w=.ok (.agg ([.pointer none,I 0]:List Value).toArray) w:=zeroValue210 w
theorem qL(ls:List By)(hf: ∀x∈ls,0<x.length/\x.length<=32)(hn:ls.length<=1000)(a:Option Addr)(cap:Nat)(w:World)(hw:Gt w)(hs:SlsAt w a ls):CLS 154 [.slice a ls.length cap].toArray w (λe w'=>e=.returned (.agg ((Tor (pds ls)).map U8).toArray)/\Grow w w'):=by
 refine Hf func154 O hw<|λhGF=>am (E:=EE [151])<|Al 2 hGF zv28<|λb2=>aa<|am (E:=EE [151])<|Asg O<|aa<|ah<|?_;refine iK gt_low (λw3 hC g3=> ?_);have hO:=(hC.own 2 _ _ _ O).1;have h1w:w.heap.size<=b2:=(hC.own 2 _ _ _ O).2.elim id False.elim;have hg3:=ae hC;have hs3:=hs.grow hg3;clear hC;have hGF:=gt_low.plain g3;refine am (E:=EE [151])<|Mv O<|bv O (λ_=>aM underlying207 _ _ _ _) O O<|Mv O<|aa<|ar<|kh gt_low (ι:={x:Nat×World×Option Addr×Nat // x.1<=ls.length/\ApR w3 x.2.1 x.2.2.1 x.2.2.2 x.1 (λi=>(pds ls).getD i [])/\OwnB x.2.1 b2 (Z0.map U8) 28}) (λx=>[(0,.slice a ls.length cap),(2,pnt b2),(3,.slice x.1.2.2.1 x.1.1 x.1.2.2.2),(8,.slice a ls.length cap),(9,I (ls.length:Int)),(10,I (x.1.1:Int))]) (λx=>x.1.2.1) (λx=>ls.length-x.1.1) ⟨(0,w3,none,0),Nat.zero_le _,⟨g3,Grow.refl w3,.inl ⟨rfl,rfl,rfl,rfl⟩,λ_ h=>by cases h⟩,hO⟩ (λx=>x.2.2.1.g) O trv<|?_
 have hO3:=hO.lt;clear hO;rintro ⟨⟨k,wk,ak,ck'⟩,hk,hA,hO⟩;dsimp only at hk hA hO⊢;have hGF:BOk Gt (pl wk):=gt_low.plain hA.g;refine am (E:=EE [151]) ?_;rcases Nat.lt_or_ge k ls.length with hlt|hge
 ·obtain ⟨x,hx⟩: ∃x,ls[k]? =some x:=⟨_,List.getElem?_eq_getElem hlt⟩
  have hxm:=List.mem_of_getElem? hx;have hx0:=(hf x hxm).1;have hx32:=(hf x hxm).2;obtain ⟨ad,p,c,rfl,hcell,hxb,hxc⟩:=(hs3.grow hA.m) k x hx;refine Bnb true O O (λ_=>aI _ _ _) (by simp;omega)<|aa<|ah<|aP O<|aw<|ah<|ar<|am (E:=EE [151])<|g9 k O O underlying207 sizeOf123 O hlt O O<|aQ (v:=.slice p x.length c) O isAgg123 (λw' h=>((ae h).cell (block_lt_of_cell hcell)).trans hcell) O O<|Asg O<|aa<|cm (E:=EE [151])<|Mv O<|Mv O<|?_
  refine fj gt_low (M:=λ_=>False) (λk h=>h.elim) O O ent151 O O hGF (Q:=λw1 w2 v=> ∃b c1,v=.slice (spt b) 1 c1/\w1.heap.size<=b/\w2.rangeAt b 0 ((dY x).map U8)) (λw1 h1 g1=>(pck1 x hx0 hx32 p c hxc w1 g1 (hxb.grow h1)).mono λe w2 ⟨b,c1,h1,h2,h3,h4⟩=>⟨_,h1,aY h2,b,c1,rfl,h3,h4⟩) (λw5 w6 v hg5 hm6 g6 hq=> ?_);obtain ⟨b6,c6,rfl,hb6,hr6⟩:=hq;have hGF:BOk Gt (pl w6):=gt_low.plain g6;have hg6:=hm6.grow (λ_ _ h=>h);refine kq (ys:=(dY x).map U8) gt_low (λw' h=>hGF.g _ _ _ h) O O underlying86 underlying86 tiR (by simp[Value.cells]) (λw' h=>hA.s.grow ((hg5.trans hg6).trans (ae h))) (hA.low g3) (by rw[List.length_map];exact eJ hx32) (λw' h j v hv=>((ae h).cell (block_lt_of_cell (hr6 j v hv))).trans (hr6 j v hv)) (bp _) (λw' h hof=>absurd (hA.s.lt _ hof) (by have:=hg5.size;omega)) om om O O (λw7 w8 a1 cap1 hC g8 hm8 hs8 ho8=> ?_)
  rw[<-zj hx]at hs8;have hG7:=(hg5.trans hg6).trans (ae hC);have hA2:=hA.next (f:=(λi=>(pds ls).getD i [])) (by show ((pds ls).getD k []).length=32;rw[zj hx];exact eJ hx32) hG7 g8 hm8 hs8 ho8
  have hO8:=hm8.own (hO.grow hG7) (λ⟨ad,e,h⟩=>by have:=hA.o ad e;omega)
  have hGF:BOk Gt (pl w8):=gt_low.plain g8;refine Asg O<|aa<|cm (E:=EE [151])<|Bnr (v:=I (((k+1:Nat):Int))) O O (λ_=>(ay _ _ _ aG).trans aE)<|Mv O<|aa<|?_
  repeat (refine bh ?_)
  exact aV<|⟨rfl,⟨(k+1,w8,a1,cap1),hlt,hA2,hO8⟩,by show ls.length-(k+1)<ls.length-k;omega,rfl,trv⟩
 ·obtain rfl:k=ls.length:=om
  have hR:RtsAt wk ak (pds ls):=D2 (cap:=ck') (wR hf) (by rw[rT];exact hA.s)
  have hL:=wR hf;refine Bnb false O O (λ_=>aI _ _ _) (by rw[decide_eq_false_iff_not];omega)<|aa<|ah<|aH O<|bj<|am (E:=EE [151])<|Mv O<|Mv O<|bv O (λ_=>aM underlying86 _ _ _ _) O O<|Cc O ent114 (λw' hw' hG=>wX (ls.length:Int) om (pds ls) hL ls.length (rT ls) om ak ck' (by rw[Int.toNat_natCast];omega) w' hG (hR.grow (ae hw')))<|?_
  rw[Int.toNat_natCast,show tre P2 Z0 (dep ls.length) (pds ls)=Tor (pds ls)from by rw[Tor,rT]]
  refine Mv O<|Exq O O<|Exq O O<|Al 6 hGF zv27<|λb6=>ai 6 hGF O O O sizeOf27 (by rw[List.length_map];exact cv hL) (by rw[List.length_map];exact cH) (bp _) O<|Asg O<|aa<|am (E:=EE [151])<|aq 6 O O isAgg27 sizeOf27 (by rw[List.length_map];exact cv hL) O O<|?_
  refine fE (vs:=(Tor (pds ls)).map U8) gt_low (λw' h=>hGF.g _ _ _ h) (λw' h=>hO.grow (ae h)) (Nat.le_trans (gt_low.size w hw) h1w) O O sizeOf28 (by rw[List.length_map];exact cv hL) (bp _) (by rw[List.length_map,cv hL];decide) O (λw8a w8 hC8 g8 hm8 ho8=> ?_)
  rw[dg _ _ (by rw[List.length_map,cv hL];rfl)]at ho8
  have hW8:=hm8.grow0 (hg3.trans (hA.m.trans (ae hC8))) (λk hk=>hk▸h1w);have hGF:=gt_low.plain g8;clear hC8 hm8;refine aa<|ao<|Rr<|?_;exact dR O O isAgg28 sizeOf28 (by rw[List.length_map];exact cv hL) (λw' h=>(ho8.grow (ae h)).range) (λw' hw'=>⟨rfl,hW8.trans (ae hw')⟩)
theorem qT(ls:List By)(hf: ∀x∈ls,x.length<=1000)(hn:ls.length<=1000)(a:Option Addr)(cap:Nat)(w:World)(hw:Gt w)(hs:SlsAt w a ls):CLS 129 [.slice a ls.length cap].toArray w (λe w'=> ∃v,e=.returned v/\Grow w w'/\Fr8 w w' v ls.flatten):=by
 refine Hf func129 O hw<|λhGF=>am (E:=EE [156,157])<|Asg O<|aa<|am (E:=EE [156,157])<|Al 3 hGF zvW<|λb3=>aa<|ah<|?_;refine iK gt_low (λw3 hC g3=> ?_);have hW:=(hC.own 3 _ _ _ O).1;have h1w:w.heap.size<=b3:=(hC.own 3 _ _ _ O).2.elim id False.elim;have hg3:=ae hC;clear hC;have hGF:=gt_low.plain g3;have hWr:WrAt (λ_=>False) w3 b3 []:=⟨[],none,hW,rfl,rfl,id⟩;refine am (E:=EE [156,157])<|Mv O<|bv O (λ_=>aM underlying207 _ _ _ _) O O<|Mv O<|aa<|ar<|kh gt_low (ι:={x:Nat×World // x.1<=ls.length/\Gt x.2/\Grow w x.2/\∃S,WrAt S x.2 b3 (ls.take x.1).flatten}) (λx=>[(0,.slice a ls.length cap),(3,pnt b3),(6,.slice a ls.length cap),(7,I (ls.length:Int)),(8,I (x.1.1:Int))]) (λx=>x.1.2) (λx=>ls.length-x.1.1) ⟨(0,w3),Nat.zero_le _,g3,hg3,_,hWr⟩ (λx=>x.2.2.1) O trv<|?_;clear hWr hW;rintro ⟨⟨k,wk⟩,hk,gk,hgk,S,hWr⟩;dsimp only at hk gk hgk hWr⊢;have hGF:BOk Gt (pl wk):=gt_low.plain gk;refine am (E:=EE [156,157]) ?_;rcases Nat.lt_or_ge k ls.length with hlt|hge
 ·obtain ⟨x,hx⟩: ∃x,ls[k]? =some x:=⟨_,List.getElem?_eq_getElem hlt⟩
  have hx10:=hf x (List.mem_of_getElem? hx);obtain ⟨ad,p,c,rfl,hcell,hxb,hxc⟩:=(hs.grow hgk) k x hx;have hkl:(ls.take k).flatten.length<=1000000:=by have:=zC (ls.take k) (λy hy=>hf y (List.mem_of_mem_take hy));rw[List.length_take]at this;omega
  refine Bnb true O O (λ_=>aI _ _ _) (by simp;omega)<|aa<|ah<|aP O<|aw<|ah<|ar<|am (E:=EE [156,157])<|g9 k O O underlying207 sizeOf123 O hlt O O<|aQ (v:=.slice p x.length c) O isAgg123 (λw' h=>((ae h).cell (block_lt_of_cell hcell)).trans hcell) O O<|Asg O<|aa<|cm (E:=EE [156,157])<|Mv O<|?_
  refine fj gt_low (M:=λk=>k=b3) (λk h=>h▸Nat.le_trans (gt_low.size w hw) h1w) O O ent156 O O hGF (Q:=λw1 w2 v=>v=.tuple #[]/\∃S,WrAt S w2 b3 ((ls.take k).flatten++x)) (λw1 h1 g1=>(yS S b3 _ x p c hkl om w1 g1 (Nat.le_trans (gt_low.size w hw) h1w) (hWr.grow h1) (hxb.grow h1)).mono λe w4 ⟨h1,h2,h4⟩=>⟨_,h1,h2,rfl,_,h4⟩) (λw4 w5 v hg4 hm5 g5 hq=> ?_);obtain ⟨rfl,S2,hWr2⟩:=hq;rw[<-Ct hx]at hWr2;have hG5:=hm5.grow0 (hgk.trans hg4) (λk hk=>hk▸h1w);have hGF:=gt_low.plain g5;refine aa<|cm (E:=EE [156,157])<|Bnr (v:=I (((k+1:Nat):Int))) O O (λ_=>(ay _ _ _ aG).trans aE)<|Mv O<|aa<|?_
  repeat (refine bh ?_)
  exact aV<|⟨rfl,⟨(k+1,w5),hlt,g5,hG5,S2,hWr2⟩,by show ls.length-(k+1)<ls.length-k;omega,rfl,trv⟩
 ·obtain rfl:k=ls.length:=om
  rw[List.take_length]at hWr;have hfl:=zC ls hf;refine Bnb false O O (λ_=>aI _ _ _) (by rw[decide_eq_false_iff_not];omega)<|aa<|ah<|aH O<|bj<|am (E:=EE [156,157])<|?_
  refine fj gt_low (M:=λ_=>False) (λk h=>h.elim) O O ent157 O O hGF (Q:=λw1 w2 v=>Fr8 w1 w2 v ls.flatten) (λw1 h1 g1=>(xA S b3 ls.flatten om w1 g1 (hWr.grow h1)).mono λe w4 ⟨v,h1,h2,h3⟩=>⟨v,h1,aY h2,h3⟩) (λw6 w7 v hg6 hm7 g7 hq=> ?_);obtain ⟨a9,c9,rfl,hs9,hn9⟩:=hq;have hg7:=hm7.grow (λ_ _ h=>h);have hG7:=(hgk.trans hg6).trans hg7;have hGF:=gt_low.plain g7;refine Asg O<|aa<|ao<|Rr<|?_;exact au O O (λw' hw'=>⟨_,rfl,hG7.trans (ae hw'),a9,c9,rfl,hs9.grow (ae hw'),λad e=>by have:=hn9 ad e;have:=(hgk.trans hg6).size;omega⟩)
end
section
open Go.RowKit
open Sh
theorem ent155:aJ prog 155:=λ_ _=>kr
theorem ent128:aJ prog 128:=λ_ _=>kr
theorem ent127:aJ prog 127:=λ_ _=>kr
theorem ent94:aJ prog 94:=λ_ _=>kr
theorem zvS(w:World):(zeroValue 123).run prog w=.ok (.slice none 0 0) w:=(zeroValue123 w).trans aE
theorem sD{w:World}{b:Nat}{p1 p2:Option Addr}{n1 n2 c1 c2:Nat}{x y:By}(h:w.rangeAt b 0 [.slice p1 n1 c1,.slice p2 n2 c2])(e1:x.length=n1)(e2:y.length=n2)(l1:n1<=c1)(l2:n2<=c2)(h1:BytesAt w p1 x)(h2:BytesAt w p2 y):SlsAt w (spt b) [x,y]:=wi h λi z hz=>by
 obtain rfl|rfl:i=0\/i=1:=by have:=(List.getElem?_eq_some_iff.1 hz).1;simp at this;omega
 ·cases Option.some.inj (show some x=some z from hz);exact ⟨p1,c1,by rw[e1];rfl,h1,om⟩
 ·cases Option.some.inj (show some y=some z from hz);exact ⟨p2,c2,by rw[e2];rfl,h2,om⟩
theorem De{w:World}{b:Nat}{p1:Option Addr}{n1 c1:Nat}{x:By}(h:w.rangeAt b 0 [.slice p1 n1 c1])(e1:x.length=n1)(l1:n1<=c1)(h1:BytesAt w p1 x):SlsAt w (spt b) [x]:=wi h λi z hz=>by
 obtain rfl:i=0:=by have:=(List.getElem?_eq_some_iff.1 hz).1;simp at this;omega
 cases Option.some.inj (show some x=some z from hz);exact ⟨p1,c1,by rw[e1];rfl,h1,om⟩
theorem LL(x y:By)(hy:y.length=32):Tor (pds [x,y])=P2 (dY x) y:=by
 rw[show pds [x,y]=[dY x,dY y]from O,CJ,show dY y=y from by rw[dY,hy];simp]
theorem wF{w w':World}{e:Ending}{xs:By}(n:Nat)(hn:xs.length=n)(h0:0<n)(h: ∃v,e=.returned v/\Grow w w'/\Fr8 w w' v xs):Jw w w' e xs n:=by
 subst hn;obtain ⟨_,rfl,hg,a,cap,rfl,hs,hn⟩:=h;rcases hs with ⟨_,h,_⟩|⟨b,c,rfl,ho,h1,h2,h3⟩
 ·have:=congrArg List.length h;rw[List.length_map]at this;simp at this;rw[this]at h0;cases h0
 ·rw[List.length_map]at h2 h3
  exact ⟨b,c,cap,rfl,hg,hn _ O,ho,h1,h2,h3⟩
theorem yq(v:By)(gn:Rt)(hv:v.length=4)(hg:gn.length=32)(w:World)(hw:Gt w):CLS 155 [.agg (v.map U8).toArray,.agg (gn.map U8).toArray].toArray w (λe w'=>e=.returned (.agg ((FRK v gn).map U8).toArray)/\Grow w w'):=by
 refine Hf func155 O hw<|λhGF=>Xp<|Bx 2 hGF O<|λb2=>Bx 3 hGF O<|λb3=>Al 4 hGF zv28<|λb4=>aa<|Xd []<|d7 (n:=4) O underlying48 sizeOf5 aC O O<|d7 (n:=32) O underlying28 sizeOf5 aC O O<|iq 7 [Value.slice (spt b2) 4 4,Value.slice (spt b3) 32 32] (z:=.slice none 0 0) hGF O O O aC aC underlying207 sizeOf123 zvS O O O<|λb7=>Cc O ent154 (λw' hw' hG=>qL [v,gn] (λz hz=>(List.mem_cons.1 hz).elim (λe=>by rw[e,hv];decide) (λhz=>by rw[List.mem_singleton.1 hz,hg];decide)) (by show 2<=1000;decide) (spt b7) 2 w' hG (sD (av (n:=7) O w' hw') hv hg (Nat.le_refl _) (Nat.le_refl _) (BytesAt.range (av (n:=2) O w' hw')) (BytesAt.range (av (n:=3) O w' hw'))))<|?_
 rw[LL _ _ hg];refine ai 4 hGF O O O sizeOf28 (by rw[List.length_map];exact da _ _) (by rw[List.length_map];exact cH) (bp _) O<|aa<|ao<|Rr<|?_
 exact aF 4 O O O isAgg28 sizeOf28 (by rw[List.length_map];exact da _ _) (λw' hw'=>⟨rfl,ae hw'⟩)
theorem xU(x y:Rt)(hx:x.length=32)(hy:y.length=32)(w:World)(hw:Gt w):CLS 127 [.agg (x.map U8).toArray,.agg (y.map U8).toArray].toArray w (λe w'=>e=.returned (.agg ((P2 x y).map U8).toArray)/\Grow w w'):=by
 refine Hf func127 O hw<|λhGF=>Xp<|Bx 2 hGF O<|λb2=>Bx 3 hGF O<|λb3=>Al 4 hGF zv28<|λb4=>aa<|Xd []<|d7 (n:=32) O underlying28 sizeOf5 aC O O<|d7 (n:=32) O underlying27 sizeOf5 aC O O<|iq 7 [Value.slice (spt b2) 32 32,Value.slice (spt b3) 32 32] (z:=.slice none 0 0) hGF O O O aC aC underlying207 sizeOf123 zvS O O O<|λb7=>Cc O ent154 (λw' hw' hG=>qL [x,y] (λz hz=>(List.mem_cons.1 hz).elim (λe=>by rw[e,hx];decide) (λhz=>by rw[List.mem_singleton.1 hz,hy];decide)) (by show 2<=1000;decide) (spt b7) 2 w' hG (sD (av (n:=7) O w' hw') hx hy (Nat.le_refl _) (Nat.le_refl _) (BytesAt.range (av (n:=2) O w' hw')) (BytesAt.range (av (n:=3) O w' hw'))))<|?_
 rw[LL _ _ hy];rw[show dY x=x from by rw[dY,hx];simp]
 refine ai 4 hGF O O O sizeOf28 (by rw[List.length_map];exact da _ _) (by rw[List.length_map];exact cH) (bp _) O<|aa<|ao<|Rr<|?_
 exact aF 4 O O O isAgg28 sizeOf28 (by rw[List.length_map];exact da _ _) (λw' hw'=>⟨rfl,ae hw'⟩)
theorem p8{w:World}{b n:Nat}{cs vs:List Value}(h:w.rangeAt b 0 cs)(ht:cs.take n=vs):w.rangeAt b 0 vs:=λj v hv=>h j v (by
 rw[<-ht,List.getElem?_take]at hv;split at hv
 ·exact hv
 ·cases hv)
theorem xZ(c:Cf)(hc:c.Ok)(w:World)(hw:Gt w):CLS 128 [.agg c.cs.toArray].toArray w (λe w'=>e=.returned (.agg ((DOM c).map U8).toArray)/\Grow w w'):=by
 refine Hf func128 O hw<|λhGF=>am (E:=EE [129,1000123])<|Bx 1 hGF O<|λb1=>Al 2 hGF zv27<|λb2=>aa<|am (E:=EE [129,1000123])<|Fa 32 O underlying50 O sizeOf48<|az (cs:=c.v.map U8) O isAgg48 sizeOf48 (by rw[List.length_map];exact hc.v) (λw' hw' j v hv=>by have:=(av (n:=1) O w' hw') _ v (Cf.at_v hc j v hv);rwa [Nat.zero_add]at this) O O<|Fa 0 O underlying50 O sizeOf28<|az (cs:=c.g.map U8) O isAgg28 sizeOf28 (by rw[List.length_map];exact hc.g) (λw' hw' j v hv=>by have:=(av (n:=1) O w' hw') _ v (Cf.at_g j v hv);rwa [Nat.zero_add]at this) O O<|Cc O ent155 (λw' hw' hG=>yq c.v c.g hc.v hc.g w' hG)<|?_
 obtain ⟨fx,hfx⟩: ∃x,FRK c.v c.g=x:=⟨_,rfl⟩;have fxl:fx.length=32:=by rw[<-hfx];exact wT _ _
 rw[hfx];refine Al 3 hGF zv28<|λb3=>ai 3 hGF O O O sizeOf28 (by rw[List.length_map];exact fxl) O (bp _) O<|aa<|am (E:=EE [129,1000123])<|jj 9 [7#8,0#8,0#8,0#8] hGF O O O aC aC underlying123 sizeOf5 (λw=>zeroValue5 w) O O<|λb9=>BI 9 O hGF O O underlying123 underlying5 O O<|ci (l:=0) (h':=28) O underlying28 sizeOf5 O O om om O O<|iq 12 [Value.slice (spt b9) 4 4,Value.slice (spt b3) 28 32] (z:=.slice none 0 0) hGF O O O aC aC underlying207 sizeOf123 zvS O O O<|?_
 intro b12;refine cw O O ent129 O O (λw' hw'=>(qT [[7#8,0#8,0#8,0#8],fx.take 28] (λz hz=>(List.mem_cons.1 hz).elim (λe=>by rw[e];decide) (λhz=>by rw[List.mem_singleton.1 hz,List.length_take];omega)) (by show 2<=1000;decide) (spt b12) 2 w' (hGF.g _ _ _ hw') (sD (av (n:=12) O w' hw') O (by rw[List.length_take,fxl];rfl) (Nat.le_refl _) aC (BytesAt.range (av (n:=9) O w' hw')) (oM (n:=3) O (by rw[List.length_take,fxl,List.map_take];rfl) w' hw'))).mono λe1 w2 h=> ?_)
 obtain ⟨b9,cs9,cap9,rfl,hg,hn9,ho9,hl9,hc9,ht9⟩:=wF 32 (by simp[fxl]) aC h
 rw[show ([[7#8,0#8,0#8,0#8],fx.take 28]:List By).flatten=[7#8,0#8,0#8,0#8]++fx.take 28 from by simp]at ht9
 refine ⟨_,_,rfl,aT hGF,hw'.news aL hg [(13,b9,cs9,5)] (Dt hn9 ho9) de, ?_⟩;clear hw' hg hn9 ho9 h;refine GG O underlying27 (Nat.le_refl _) O O<|az (cs:=([7#8,0#8,0#8,0#8]++fx.take 28).map U8) O isAgg27 sizeOf27 (by rw[List.length_map,List.length_append,List.length_take,fxl];rfl) (λw' hw'=>p8 (av (n:=13) O w' hw') ht9) O O<|ai 2 hGF O O O sizeOf27 (by rw[List.length_map,List.length_append,List.length_take,fxl];rfl) (by rw[List.length_map];exact cH) (bp _) O<|aa<|ao<|Rr<|?_
 exact aF 2 O O O isAgg27 sizeOf27 (by rw[List.length_map,List.length_append,List.length_take,fxl];rfl) (λw' hw'=>⟨by rw[DOM,hfx],ae hw'⟩)
theorem yl(c:Cf)(h:Hd)(hc:c.Ok)(hk:h.Ok)(w:World)(hw:Gt w):CLS 94 [.agg c.cs.toArray,.agg h.cs.toArray].toArray w (λe w'=>Jw w w' e (MSG c h) 32):=by
 refine Hf func94 O hw<|λhGF=>am (E:=EE [129,2999999])<|Bx 2 hGF O<|λb2=>Bx 3 hGF O<|λb3=>Asg O<|aa<|Xd [129,2999999]<|aq 3 O O isAgg30 sizeOf30 (Hd.len hk) O O<|Cc O ent40 (λw' hw' hG=>EY h hk w' hG)<|?_;obtain ⟨hr,hhr⟩: ∃x,h.rt=x:=⟨_,rfl⟩;have hrl:hr.length=32:=by rw[<-hhr];exact Hd.rt_len hk
 rw[hhr];refine aq 2 O O isAgg50 sizeOf50 (Cf.len hc) O O<|Cc O ent128 (λw' hw' hG=>xZ c hc w' hG)<|?_;obtain ⟨dx,hdx⟩: ∃x,DOM c=x:=⟨_,rfl⟩;have dxl:dx.length=32:=by rw[<-hdx];exact CU _
 rw[hdx];refine Cc O ent127 (λw' hw' hG=>xU hr dx hrl dxl w' hG) ?_;obtain ⟨sx,hsx⟩: ∃x,P2 hr dx=x:=⟨_,rfl⟩;have sxl:sx.length=32:=by rw[<-hsx];exact da _ _
 rw[hsx];refine mM 5 hGF zv28 O O O<|λb5=>ai 5 hGF O O O sizeOf28 (by rw[List.length_map];exact sxl) O (bp _) O<|aa<|am (E:=EE [129,2999999])<|d7 (n:=32) O underlying28 sizeOf5 aC O O<|iq 12 [Value.slice (spt b5) 32 32] (z:=.slice none 0 0) hGF O O O aC aC underlying207 sizeOf123 zvS O O O<|?_
 intro b12;refine cw O O ent129 O O (λw' hw'=>(qT [sx] (λz hz=>by rw[List.mem_singleton.1 hz,sxl];decide) (by show 1<=1000;decide) (spt b12) 1 w' (hGF.g _ _ _ hw') (De (av (n:=12) O w' hw') sxl (Nat.le_refl _) (BytesAt.range (av (n:=5) O w' hw')))).mono λe1 w2 h=> ?_)
 obtain ⟨b9,cs9,cap9,rfl,hg,hn9,ho9,hl9,hc9,ht9⟩:=wF 32 (by simp[sxl]) aC h
 rw[show ([sx]:List By).flatten=sx from by simp]at ht9
 refine ⟨_,_,rfl,aT hGF,hw'.news aL hg [(13,b9,cs9,5)] (Dt hn9 ho9) de, ?_⟩;clear hw' hg hn9 ho9;refine Asg O<|aa<|ao<|Rr<|?_;exact au O O (λw' hw'=>⟨b9,cs9,cap9,rfl,ae hw',(hw'.own 13 _ _ _ O).2.elim id False.elim,(hw'.own 13 _ _ _ O).1,hl9,hc9,by rw[MSG,hhr,hdx,hsx];exact ht9⟩)
end
section
open Go.RowKit
theorem oO(a:BitVec 64){P:Program}{w:World}:(Op.unary .neg (U64 a)).run P w=.ok (U64 (-a)) w:=by
 show (Op.intArith .sub .u64 0 (a.toNat:Int)).run P w=_;simp only[Op.intArith,Sem.run_pure];have h:=a.isLt;congr 2;simp only[BitVec.toNat_neg];congr 1;simp only[IntKind.wrap,IntKind.signed,IntKind.bits,Bool.false_and];simp;omega
theorem lN(n:BitVec 64):PUR 287 [U64 n] (U64 (IV n 5)):=by
 intro w hw;refine Hf func287 O hw<|λhGF=>Xp<|Asg O<|aa<|Xp<|Mv O<|Asg O<|aa<|ah<|Xp<|Mv O<|aa<|ar<|bV (ι:={i:Nat // i<=5}) (λx=>[(0,U64 n),(2,U64 0),(3,U64 (IV n x.1)),(5,I (x.1:Int))]) (λx=>[]) (λx=>5-x.1) ⟨0,om⟩ hGF trv trivial<|?_;rintro ⟨i,hi⟩;dsimp only;refine Xp<|Bnr O O (λ_=>aI _ _ _)<|aa<|ah<|?_;refine cq O (λhc=> ?_) (λhc=> ?_)
 ·simp only[decide_eq_true_eq]at hc
  refine aw<|ah<|ar<|Xq<|Mv O<|Mv O<|Mv O<|Bnr O O (λ_=>cr _ _ _)<|Bnr O O (λ_=>iT _ _ _)<|Bnr O O (λ_=>cr _ _ _)<|Asg O<|aa<|Xq<|Bnr O O (λ_=>ay _ _ _ aG)<|Mv O<|aa<|?_
  repeat (refine bh ?_)
  exact aV<|⟨rfl,⟨i+1,om⟩,_,by show 5-(i+1)<5-i;omega,rfl,trv,trivial⟩
 ·obtain rfl:i=5:=by simp at hc;omega
  refine bj<|Xp<|Mv O<|Asg O<|aa<|ao<|Rr<|?_;exact au O O (λw hw=>⟨rfl,ae hw⟩)
theorem Ii:(prog.info? 22).map (·.size)=some 1:=kr
theorem xp(a:L6)(h:a.length=6):lay 0 (a.map U64) ((List.replicate 12 0#64).map U64)=(a++List.replicate 6 0).map U64:=by
 rw[gU _ _ _ (by simp[h])]
 simp[h]
theorem mR(a b m:L6)(ha:a.length=6)(hb:b.length=6)(hm:m.length=6):PUR 239 [bd (a),bd (b),bd (m)] (bd (lL a b m)):=by
 intro w hw;refine Hf func239 O hw ?_;intro hGF;by_cases h0:m.getD 0 0 % 2=0
 ·refine Xp<|Bx 3 hGF O<|λb3=>Bx 4 hGF O<|λb4=>Bx 5 hGF O<|λb5=>Al 6 hGF zv119<|λb6=>aa<|ah<|Xp<|Ia (0) O O underlying119 sizeOf22<|Lmq 5 U64 0 O O isAgg22 (by rw[hm];omega)<|Bnr O O (λ_=>fI _ _ _ aC)<|Bnr (v:=.bool true) O O (λw=>(bC _ _ _).trans (congrArg (λb=>Result.ok (Value.bool b) w) (beq_iff_eq.2 h0)))<|aa<|aP O<|Xp<|d8 zv119 underlying119 sizeOf22 O O<|Sw 6 hGF O O O bR List.length_replicate<|aa<|ao<|Rr<|?_
  exact aF 6 O O O isAgg119 sizeOf119 (by rw[List.length_map,List.length_replicate]) (λw hw=>⟨by rw[lL,if_pos h0];rfl,ae hw⟩)
 cases h1:LT a m 6 with
 |true=>
  refine Xp<|Bx 3 hGF O<|λb3=>Bx 4 hGF O<|λb4=>Bx 5 hGF O<|λb5=>Al 6 hGF zv119<|λb6=>aa<|ah<|Xp<|Ia (0) O O underlying119 sizeOf22<|Lmq 5 U64 0 O O isAgg22 (by rw[hm];omega)<|Bnr O O (λ_=>fI _ _ _ aC)<|Bnr (v:=.bool false) O O (λw=>(bC _ _ _).trans (congrArg (λb=>Result.ok (Value.bool b) w) (beq_eq_false_iff_ne.2 h0)))<|aa<|aH O<|aw<|ah<|Xp<|Lw 3 O O bR ha<|Lw 5 O O bR hm<|Ca O (kE a m ha hm)<|bU (v:=.bool false) O (λ_=>(bM _).trans (by rw[h1];rfl)) O O<|aa<|aH O<|aw<|Xp<|Ia (0) O O underlying119 sizeOf22<|Lmq 5 U64 0 O O isAgg22 (by rw[hm];omega)<|Ca O (lN _)<|bU O (λ_=>oO _) O O<|Asg O<|?_
  generalize hcl: -(IV (m.getD 0 0) 5)=cl;refine aa<|Xp<|Al 9 hGF zv119<|λb9=>aa<|Xp<|Asg O<|aa<|ah<|Xp<|Lw 3 O O bR ha<|Mv O<|aa<|ar<|bV (ι:={i:Nat // i<=6}) (λx=>[(4,pnt b4),(5,pnt b5),(6,pnt b6),(8,U64 cl),(9,pnt b9),(10,U64 (MO a b m cl x.1).2),(38,bd (a)),(39,I (x.1:Int))]) (λx=>[(4,b4,b.map U64,119),(5,b5,m.map U64,119),(6,b6,(List.replicate 6 0#64).map U64,119),(9,b9,(MO a b m cl x.1).1.map U64,119)]) (λx=>6-x.1) ⟨0,om⟩ hGF trv trv<|?_;rintro ⟨i,hi⟩;dsimp only;refine Xp<|Bnr O O (λ_=>aI _ _ _)<|aa<|ah<|?_;refine cq O (λhc=> ?_) (λhc=> ?_)
  ·simp only[decide_eq_true_eq]at hc
   refine aw<|ah<|ar<|Xp<|kB U64 0 (i) O O underlying119 sizeOf22 isAgg22 om om (ha) O O<|Asg O<|aa<|Xp<|Asg O<|Asg O<|aa<|ah<|Xp<|Lw 4 O O bR hb<|Mv O<|aa<|ar<|bV (ι:={i:Nat // i<=6}) (λx=>[(4,pnt b4),(5,pnt b5),(6,pnt b6),(8,U64 cl),(9,pnt b9),(10,U64 (MO a b m cl i).2),(38,bd (a)),(39,I (i:Int)),(12,U64 (a.getD i 0)),(13,U64 (MJ (a.getD i 0) b (MO a b m cl i).1 x.1).2),(14,U64 0),(42,bd (b)),(43,I (x.1:Int))]) (λx=>[(4,b4,b.map U64,119),(5,b5,m.map U64,119),(6,b6,(List.replicate 6 0#64).map U64,119),(9,b9,(MJ (a.getD i 0) b (MO a b m cl i).1 x.1).1.map U64,119)]) (λx=>6-x.1) ⟨0,om⟩ hGF trv trv<|?_;rintro ⟨j,hj⟩;dsimp only;refine Xp<|Bnr O O (λ_=>aI _ _ _)<|aa<|ah<|?_;refine cq O (λhc=> ?_) (λhc=> ?_)
   ·simp only[decide_eq_true_eq]at hc
    refine aw<|ah<|ar<|Xp<|Mv O<|kB U64 0 (j) O O underlying119 sizeOf22 isAgg22 om om (hb) O O<|Asg O<|Asg O<|aa<|Xq<|Mv O<|Mv O<|Mv O<|Mv O<|Ia (j) O O underlying119 sizeOf22<|Lmq 9 U64 0 O O isAgg22 (by rw[kg,eH];omega)<|Mv O<|Ca O (fN _ _ _ _)<|Mv O<|Exq O O<|Exq O O<|Ia (j) O O underlying119 sizeOf22<|bK 9 U64 hGF O O O sizeOf22 O (by rw[kg,eH];omega) O<|Asg O<|aa<|Xq<|Bnr O O (λ_=>ay _ _ _ aG)<|Mv O<|aa<|?_
    repeat (refine bh ?_)
    exact aV<|⟨rfl,⟨j+1,om⟩,_,by show 6-(j+1)<6-j;omega,rfl,trv,trv⟩
   ·obtain rfl:j=6:=by simp at hc;omega
    generalize hS:MJ (a.getD i 0) b (MO a b m cl i).1 6=S1;have hSl:S1.1.length=6:=by rw[<-hS,kg,eH]
    refine bj<|Xp<|Mv O<|Mv O<|bH O O (λw=>dH _ _ _ aC w) O O<|Mv O<|Exq O O<|Exq O O<|Asg O<|Asg O<|aa<|Xp<|Ia (0) O O underlying119 sizeOf22<|Lmq 9 U64 0 O O isAgg22 (by rw[hSl];omega)<|Mv O<|Bnr O O (λ_=>cr _ _ _)<|Asg O<|aa<|Xp<|Mv O<|Ia (0) O O underlying119 sizeOf22<|Lmq 5 U64 0 O O isAgg22 (by rw[hm];omega)<|Ia (0) O O underlying119 sizeOf22<|Lmq 9 U64 0 O O isAgg22 (by rw[hSl];omega)<|Ca O (fN _ _ _ _)<|Mv O<|Exq O O<|Exq O O<|Asg O<|aa<|ah<|Xp<|Asg O<|aa<|ar<|bV (ι:={i:Nat // i<=5}) (λx=>[(4,pnt b4),(5,pnt b5),(6,pnt b6),(8,U64 cl),(9,pnt b9),(10,U64 (ADC (MO a b m cl i).2 S1.2 0).1),(38,bd (a)),(39,I (i:Int)),(14,U64 (ADC (MO a b m cl i).2 S1.2 0).2),(17,U64 (S1.1.getD 0 0*cl)),(13,U64 (MR (S1.1.getD 0 0*cl) m S1.1 x.1).2),(18,I ((x.1+1:Nat):Int))]) (λx=>[(4,b4,b.map U64,119),(5,b5,m.map U64,119),(6,b6,(List.replicate 6 0#64).map U64,119),(9,b9,(MR (S1.1.getD 0 0*cl) m S1.1 x.1).1.map U64,119)]) (λx=>5-x.1) ⟨0,om⟩ hGF trv trv<|?_
    rintro ⟨r,hr⟩;dsimp only;refine ah<|Xp<|Mv O<|Bnr O O (λ_=>aI _ _ _)<|aa<|?_;refine cq O (λhc=> ?_) (λhc=> ?_)
    ·simp only[decide_eq_true_eq]at hc
     refine aw<|ah<|ar<|Xe []<|Mv O<|Bnr (v:=I (r:Int)) O O (λ_=>(bu _ _ _ aG).trans (by rw[show (((r+1:Nat):Int)-1)=(r:Int) by omega]))<|Mv O<|Mv O<|Ia ((r+1)) O O underlying119 sizeOf22<|Lmq 5 U64 0 O O isAgg22 (by rw[hm];omega)<|Mv O<|Ia ((r+1)) O O underlying119 sizeOf22<|Lmq 9 U64 0 O O isAgg22 (by rw[jg,hSl];omega)<|Mv O<|Ca O (fN _ _ _ _)<|Mv O<|Exq O O<|Exq O O<|Ia (r) O O underlying119 sizeOf22<|bK 9 U64 hGF O O O sizeOf22 O (by rw[jg,hSl];omega) O<|Asg O<|aa<|Xq<|Mv O<|Bnr O O (λ_=>ay _ _ _ aG)<|Asg O<|aa<|?_
     repeat (refine bh ?_)
     exact aV<|⟨rfl,⟨r+1,om⟩,_,by show 5-(r+1)<5-r;omega,rfl,trv,trv⟩
    ·obtain rfl:r=5:=by simp at hc;omega
     generalize hM:MR (S1.1.getD 0 0*cl) m S1.1 5=R1;have hRl:R1.1.length=6:=by rw[<-hM,jg,hSl]
     refine bj<|Xp<|Mv O<|Mv O<|bH O O (λw=>dH _ _ _ aC w) O O<|Mv O<|Exq O O<|Exq O O<|Ia (5) O O underlying119 sizeOf22<|bK 9 U64 hGF O O O sizeOf22 O (by rw[hRl];omega) O<|Asg O<|aa<|Xq<|Mv O<|Mv O<|Bnr O O (λ_=>aO _ _ _)<|Asg O<|aa<|Xq<|Bnr O O (λ_=>ay _ _ _ aG)<|Mv O<|aa<|?_
     repeat (refine bh ?_)
     exact aV<|⟨rfl,⟨i+1,om⟩,_,by show 6-(i+1)<6-i;omega,rfl,⟨rfl,rfl,rfl,rfl,rfl,by rw[nX a b m cl i hS hM];rfl,rfl,rfl,trivial⟩,⟨rfl,rfl,rfl,by rw[nX a b m cl i hS hM];rfl,trivial⟩⟩
  ·obtain rfl:i=6:=by simp at hc;omega
   refine bj<|Xp<|Lw 9 O O bR (eH _ _ _ _ _)<|Mv O<|Lw 5 O O bR hm<|Ca O (pS _ _ _ (eH _ _ _ _ _) hm)<|Sw 6 hGF O O O bR (jz _ _ _ (eH _ _ _ _ _))<|aa<|ao<|Rr<|?_;exact aF 6 O O O isAgg119 sizeOf119 (by rw[List.length_map];exact jz _ _ _ (eH _ _ _ _ _)) (λw hw=>⟨by rw[lL,if_neg h0,if_pos h1,MN,hcl],ae hw⟩)
 |false=>
  refine Xp<|Bx 3 hGF O<|λb3=>Bx 4 hGF O<|λb4=>Bx 5 hGF O<|λb5=>Al 6 hGF zv119<|λb6=>aa<|ah<|Xp<|Ia (0) O O underlying119 sizeOf22<|Lmq 5 U64 0 O O isAgg22 (by rw[hm];omega)<|Bnr O O (λ_=>fI _ _ _ aC)<|Bnr (v:=.bool false) O O (λw=>(bC _ _ _).trans (congrArg (λb=>Result.ok (Value.bool b) w) (beq_eq_false_iff_ne.2 h0)))<|aa<|aH O<|aw<|ah<|Xp<|Lw 3 O O bR ha<|Lw 5 O O bR hm<|Ca O (kE a m ha hm)<|bU (v:=.bool true) O (λ_=>(bM _).trans (by rw[h1];rfl)) O O<|aa<|aP O<|Xp<|Al 7 hGF zv342<|λb7=>aa<|Xd []<|ci (l:=0) (h':=12) O underlying342 sizeOf22 O O om om O O<|ci (l:=0) (h':=6) O underlying119 sizeOf22 O O om om O O<|wr (cs:=a.map U64) 7 hGF O O O underlying58 Ii (by rw[List.length_map,ha];rfl) (λw' h j v hv=>by rw[Addr.add_mid];exact av (n:=3) O w' h j v hv) (aZ _) (by rw[List.length_map,List.length_map,ha];decide) O O<|?_
  rw[xp a ha];refine aa<|Xq<|aq 7 O O isAgg342 sizeOf342 (by rw[List.length_map,List.length_append,ha,List.length_replicate]) O O<|Lw 5 O O bR hm<|Ca O (yI (a++List.replicate 6 0) m (by rw[List.length_append,ha];rfl) hm)<|ai 3 hGF O O O sizeOf119 (by rw[List.length_map,rB _ _]) (by rw[List.length_map,ha]) (aZ _) O<|aa<|Xp<|Ia (0) O O underlying119 sizeOf22<|Lmq 5 U64 0 O O isAgg22 (by rw[hm];omega)<|Ca O (lN _)<|bU O (λ_=>oO _) O O<|Asg O<|?_
  generalize hcl: -(IV (m.getD 0 0) 5)=cl;refine aa<|Xp<|Al 9 hGF zv119<|λb9=>aa<|Xp<|Asg O<|aa<|ah<|Xp<|Lw 3 O O bR (rB _ _)<|Mv O<|aa<|ar<|bV (ι:={i:Nat // i<=6}) (λx=>[(4,pnt b4),(5,pnt b5),(6,pnt b6),(8,U64 cl),(9,pnt b9),(10,U64 (MO (MOD (a++List.replicate 6 0) m) b m cl x.1).2),(38,bd ((MOD (a++List.replicate 6 0) m))),(39,I (x.1:Int))]) (λx=>[(4,b4,b.map U64,119),(5,b5,m.map U64,119),(6,b6,(List.replicate 6 0#64).map U64,119),(9,b9,(MO (MOD (a++List.replicate 6 0) m) b m cl x.1).1.map U64,119)]) (λx=>6-x.1) ⟨0,om⟩ hGF trv trv<|?_;rintro ⟨i,hi⟩;dsimp only;refine Xp<|Bnr O O (λ_=>aI _ _ _)<|aa<|ah<|?_;refine cq O (λhc=> ?_) (λhc=> ?_)
  ·simp only[decide_eq_true_eq]at hc
   refine aw<|ah<|ar<|Xp<|kB U64 0 (i) O O underlying119 sizeOf22 isAgg22 om om (rB _ _) O O<|Asg O<|aa<|Xp<|Asg O<|Asg O<|aa<|ah<|Xp<|Lw 4 O O bR hb<|Mv O<|aa<|ar<|bV (ι:={i:Nat // i<=6}) (λx=>[(4,pnt b4),(5,pnt b5),(6,pnt b6),(8,U64 cl),(9,pnt b9),(10,U64 (MO (MOD (a++List.replicate 6 0) m) b m cl i).2),(38,bd ((MOD (a++List.replicate 6 0) m))),(39,I (i:Int)),(12,U64 ((MOD (a++List.replicate 6 0) m).getD i 0)),(13,U64 (MJ ((MOD (a++List.replicate 6 0) m).getD i 0) b (MO (MOD (a++List.replicate 6 0) m) b m cl i).1 x.1).2),(14,U64 0),(42,bd (b)),(43,I (x.1:Int))]) (λx=>[(4,b4,b.map U64,119),(5,b5,m.map U64,119),(6,b6,(List.replicate 6 0#64).map U64,119),(9,b9,(MJ ((MOD (a++List.replicate 6 0) m).getD i 0) b (MO (MOD (a++List.replicate 6 0) m) b m cl i).1 x.1).1.map U64,119)]) (λx=>6-x.1) ⟨0,om⟩ hGF trv trv<|?_;rintro ⟨j,hj⟩;dsimp only;refine Xp<|Bnr O O (λ_=>aI _ _ _)<|aa<|ah<|?_;refine cq O (λhc=> ?_) (λhc=> ?_)
   ·simp only[decide_eq_true_eq]at hc
    refine aw<|ah<|ar<|Xp<|Mv O<|kB U64 0 (j) O O underlying119 sizeOf22 isAgg22 om om (hb) O O<|Asg O<|Asg O<|aa<|Xq<|Mv O<|Mv O<|Mv O<|Mv O<|Ia (j) O O underlying119 sizeOf22<|Lmq 9 U64 0 O O isAgg22 (by rw[kg,eH];omega)<|Mv O<|Ca O (fN _ _ _ _)<|Mv O<|Exq O O<|Exq O O<|Ia (j) O O underlying119 sizeOf22<|bK 9 U64 hGF O O O sizeOf22 O (by rw[kg,eH];omega) O<|Asg O<|aa<|Xq<|Bnr O O (λ_=>ay _ _ _ aG)<|Mv O<|aa<|?_
    repeat (refine bh ?_)
    exact aV<|⟨rfl,⟨j+1,om⟩,_,by show 6-(j+1)<6-j;omega,rfl,trv,trv⟩
   ·obtain rfl:j=6:=by simp at hc;omega
    generalize hS:MJ ((MOD (a++List.replicate 6 0) m).getD i 0) b (MO (MOD (a++List.replicate 6 0) m) b m cl i).1 6=S1;have hSl:S1.1.length=6:=by rw[<-hS,kg,eH]
    refine bj<|Xp<|Mv O<|Mv O<|bH O O (λw=>dH _ _ _ aC w) O O<|Mv O<|Exq O O<|Exq O O<|Asg O<|Asg O<|aa<|Xp<|Ia (0) O O underlying119 sizeOf22<|Lmq 9 U64 0 O O isAgg22 (by rw[hSl];omega)<|Mv O<|Bnr O O (λ_=>cr _ _ _)<|Asg O<|aa<|Xp<|Mv O<|Ia (0) O O underlying119 sizeOf22<|Lmq 5 U64 0 O O isAgg22 (by rw[hm];omega)<|Ia (0) O O underlying119 sizeOf22<|Lmq 9 U64 0 O O isAgg22 (by rw[hSl];omega)<|Ca O (fN _ _ _ _)<|Mv O<|Exq O O<|Exq O O<|Asg O<|aa<|ah<|Xp<|Asg O<|aa<|ar<|bV (ι:={i:Nat // i<=5}) (λx=>[(4,pnt b4),(5,pnt b5),(6,pnt b6),(8,U64 cl),(9,pnt b9),(10,U64 (ADC (MO (MOD (a++List.replicate 6 0) m) b m cl i).2 S1.2 0).1),(38,bd ((MOD (a++List.replicate 6 0) m))),(39,I (i:Int)),(14,U64 (ADC (MO (MOD (a++List.replicate 6 0) m) b m cl i).2 S1.2 0).2),(17,U64 (S1.1.getD 0 0*cl)),(13,U64 (MR (S1.1.getD 0 0*cl) m S1.1 x.1).2),(18,I ((x.1+1:Nat):Int))]) (λx=>[(4,b4,b.map U64,119),(5,b5,m.map U64,119),(6,b6,(List.replicate 6 0#64).map U64,119),(9,b9,(MR (S1.1.getD 0 0*cl) m S1.1 x.1).1.map U64,119)]) (λx=>5-x.1) ⟨0,om⟩ hGF trv trv<|?_
    rintro ⟨r,hr⟩;dsimp only;refine ah<|Xp<|Mv O<|Bnr O O (λ_=>aI _ _ _)<|aa<|?_;refine cq O (λhc=> ?_) (λhc=> ?_)
    ·simp only[decide_eq_true_eq]at hc
     refine aw<|ah<|ar<|Xe []<|Mv O<|Bnr (v:=I (r:Int)) O O (λ_=>(bu _ _ _ aG).trans (by rw[show (((r+1:Nat):Int)-1)=(r:Int) by omega]))<|Mv O<|Mv O<|Ia ((r+1)) O O underlying119 sizeOf22<|Lmq 5 U64 0 O O isAgg22 (by rw[hm];omega)<|Mv O<|Ia ((r+1)) O O underlying119 sizeOf22<|Lmq 9 U64 0 O O isAgg22 (by rw[jg,hSl];omega)<|Mv O<|Ca O (fN _ _ _ _)<|Mv O<|Exq O O<|Exq O O<|Ia (r) O O underlying119 sizeOf22<|bK 9 U64 hGF O O O sizeOf22 O (by rw[jg,hSl];omega) O<|Asg O<|aa<|Xq<|Mv O<|Bnr O O (λ_=>ay _ _ _ aG)<|Asg O<|aa<|?_
     repeat (refine bh ?_)
     exact aV<|⟨rfl,⟨r+1,om⟩,_,by show 5-(r+1)<5-r;omega,rfl,trv,trv⟩
    ·obtain rfl:r=5:=by simp at hc;omega
     generalize hM:MR (S1.1.getD 0 0*cl) m S1.1 5=R1;have hRl:R1.1.length=6:=by rw[<-hM,jg,hSl]
     refine bj<|Xp<|Mv O<|Mv O<|bH O O (λw=>dH _ _ _ aC w) O O<|Mv O<|Exq O O<|Exq O O<|Ia (5) O O underlying119 sizeOf22<|bK 9 U64 hGF O O O sizeOf22 O (by rw[hRl];omega) O<|Asg O<|aa<|Xq<|Mv O<|Mv O<|Bnr O O (λ_=>aO _ _ _)<|Asg O<|aa<|Xq<|Bnr O O (λ_=>ay _ _ _ aG)<|Mv O<|aa<|?_
     repeat (refine bh ?_)
     exact aV<|⟨rfl,⟨i+1,om⟩,_,by show 6-(i+1)<6-i;omega,rfl,⟨rfl,rfl,rfl,rfl,rfl,by rw[nX (MOD (a++List.replicate 6 0) m) b m cl i hS hM];rfl,rfl,rfl,trivial⟩,⟨rfl,rfl,rfl,by rw[nX (MOD (a++List.replicate 6 0) m) b m cl i hS hM];rfl,trivial⟩⟩
  ·obtain rfl:i=6:=by simp at hc;omega
   refine bj<|Xp<|Lw 9 O O bR (eH _ _ _ _ _)<|Mv O<|Lw 5 O O bR hm<|Ca O (pS _ _ _ (eH _ _ _ _ _) hm)<|Sw 6 hGF O O O bR (jz _ _ _ (eH _ _ _ _ _))<|aa<|ao<|Rr<|?_;exact aF 6 O O O isAgg119 sizeOf119 (by rw[List.length_map];exact jz _ _ _ (eH _ _ _ _ _)) (λw hw=>⟨by rw[lL,if_neg h0,if_neg (by rw[h1];decide),MN,hcl],ae hw⟩)
end
section
open Go.RowKit
theorem PLl:PL.length=6:=rfl
theorem mr:TWO.length=6:=rfl
theorem mD:ONE.length=6:=rfl
theorem N1l:N1.length=6:=rfl
theorem lO:IVP.length=6:=rfl
theorem lT:HFP.length=6:=rfl
theorem mA:RTP.length=6:=rfl
attribute [local simp] dO fH bN bq dr cx cy bX dV PLl mr mD N1l lO lT mA
abbrev EV(x:Zp):Value:=bd (fe x)
abbrev NV(n:L6):Value:=bd n
theorem zv189(w:World):(zeroValue 189).run prog w=.ok (bd (List.replicate 6 (0#64))) w:=(zeroValue189 w).trans aE
theorem Bc(op:BinOp)(x y:Operand)(xs ys:Array Value)(w:World):(eqGuard op 119 x y (.agg xs) (.agg ys)).run prog w=.ok () w:=run_eqGuard_agg w op 119 x y xs ys kr
theorem Bq(xs ys:L6)(h:xs.length=6)(h':ys.length=6)(w:World):(binOp .eql 119 (bd xs) (bd ys)).run prog w=.ok (.bool (decide (xs=ys))) w:=pC underlying119 underlying22 sizeOf22 isAgg22 xs ys h h' w
theorem qd(x y:Zp):decide (fe x=fe y)=decide (x=y):=decide_eq_decide.2 HL
theorem E3{x y:BitVec 64}(h:(x==y)=true):x=y:=beq_iff_eq.1 h
theorem Fh{x y:BitVec 64}(h:(x==y)=false): ¬x=y:=beq_eq_false_iff_ne.1 h
theorem ent190:aJ prog 190:=λ_ _=>kr
theorem ent244:aJ prog 244:=λ_ _=>kr
theorem ent194:aJ prog 194:=λ_ _=>kr
theorem ent292:aJ prog 292:=λ_ _=>kr
theorem ent321:aJ prog 321:=λ_ _=>kr
theorem bz(x y:Zp):PUR 290 [EV x,EV y] (EV (x*y)):=by
 intro w hw;refine Hf func290 O hw<|λhGF=>Xp<|Bx 2 hGF O<|λb2=>Bx 3 hGF O<|λb3=>Al 4 hGF zv189<|λb4=>aa<|Xp<|Fa 0 O underlying189 O sizeOf119<|La 2 O O bR<|Fa 0 O underlying189 O sizeOf119<|La 3 O O bR<|mF hGF isAgg119 sizeOf119 aB (λ_ h=>h.g0) O O<|Ca O (mR _ _ _ aB aB aB)<|dn O aB underlying189 O sizeOf119 zv189 O O<|Sa 4 hGF O O O aR<|aa<|ao<|Rr<|?_;exact aF 4 O O O isAgg189 sizeOf189 aB (λw hw=>⟨by rw[DD],ae hw⟩)
theorem oP(n:L6)(hn:n.length=6):PUR 212 [NV n] (EV (zp (V n 6))):=by
 intro w hw;refine Hf func212 O hw<|λhGF=>Xp<|Bx 1 hGF O<|λb1=>Al 2 hGF zv189<|λb2=>aa<|Xp<|mF hGF isAgg119 sizeOf119 (by first|(simp;done)|simp[hn]) (λ_ h=>h.g2) O O<|aq 1 O O isAgg119 sizeOf119 (by first|(simp;done)|simp[hn]) O O<|mF hGF isAgg119 sizeOf119 (by first|(simp;done)|simp[hn]) (λ_ h=>h.g0) O O<|Ca O (mR _ _ _ (by first|(simp;done)|simp[hn]) (by first|(simp;done)|simp[hn]) (by first|(simp;done)|simp[hn]))<|dn O (by first|(simp;done)|simp[hn]) underlying189 O sizeOf119 zv189 O O<|ai 2 hGF O O O sizeOf189 (by first|(simp;done)|simp[hn]) (by first|(simp;done)|simp[hn]) (aZ _) O<|aa<|ao<|Rr<|?_
 exact aF 2 O O O isAgg189 sizeOf189 (by first|(simp;done)|simp[hn]) (λw hw=>⟨by rw[Aq],ae hw⟩)
theorem rV(x:Zp):PUR 293 [EV x] (NV (nm x)):=by
 intro w hw;refine Hf func293 O hw<|λhGF=>Xp<|Bx 1 hGF O<|λb1=>Al 2 hGF zv119<|λb2=>aa<|Xp<|Fa 0 O underlying189 O sizeOf119<|La 1 O O bR<|gt 1 O underlying119 sizeOf22 zv119 O O<|mF hGF isAgg119 sizeOf119 aB (λ_ h=>h.g0) O O<|Ca O (mR _ _ _ aB aB aB)<|Sa 2 hGF O O O bR<|aa<|ao<|Rr<|?_;exact aF 2 O O O isAgg119 sizeOf119 aB (λw hw=>⟨by rw[<-zz];rfl,ae hw⟩)
theorem vA(n:BitVec 64): ∀k,V (n::List.replicate 5 0) (k+1)=n.toNat
 |0=>by rw[ut,V,Nat.mul_zero,Nat.pow_zero,Nat.mul_one,Nat.zero_add];rfl
 |k+1=>by
  have h0:(n::List.replicate 5 (0:BitVec 64)).getD (k+1) 0=0:=by
   rw[List.getD_eq_getElem?_getD,List.getElem?_cons_succ,List.getElem?_replicate];split<;>rfl
  rw[ut,vA n k,h0,show (0:BitVec 64).toNat=0 from O,Nat.zero_mul,Nat.add_zero]
theorem Da(n:BitVec 64):V (n::List.replicate 5 0) 6=n.toNat:=vA n 5
theorem sP(n:BitVec 64):PUR 232 [U64 n] (EV (zp n.toNat)):=by
 intro w hw;refine Hf func232 O hw<|λhGF=>Xp<|Al 2 hGF zv189<|λb2=>aa<|Xp<|Mv O<|gt n O underlying119 sizeOf22 zv119 O O<|Ca O (oP _ aB)<|Sa 2 hGF O O O aR<|aa<|ao<|Rr<|?_;exact aF 2 O O O isAgg189 sizeOf189 aB (λw hw=>⟨by rw[Da],ae hw⟩)
theorem fK(x y:Zp):PUR 244 [EV x,EV y] (.bool (decide (x=y))):=by
 intro w hw;refine Hf func244 O hw<|λhGF=>Xp<|Bx 2 hGF O<|λb2=>Bx 3 hGF O<|λb3=>Asg O<|aa<|Xp<|Fa 0 O underlying189 O sizeOf119<|La 2 O O bR<|Fa 0 O underlying189 O sizeOf119<|La 3 O O bR<|du O O (λ_=>Bc _ _ _ _ _ _) (λw=>Bq _ _ aB aB w) O O<|Asg O<|aa<|ao<|Rr<|?_;exact au O O (λw hw=>⟨by rw[qd],ae hw⟩)
theorem dW(x:Zp):PUR 194 [EV x] (.bool (decide (x=0))):=by
 intro w hw;refine Hf func194 O hw<|λhGF=>Xp<|Bx 1 hGF O<|λb1=>Asg O<|aa<|Xp<|Fa 0 O underlying189 O sizeOf119<|La 1 O O bR<|d8 zv119 underlying119 sizeOf22 O O<|du O O (λ_=>Bc _ _ _ _ _ _) (λw=>Bq _ _ aB aB w) O O<|Asg O<|aa<|ao<|Rr<|?_;exact au O O (λw hw=>⟨by rw[<-xE,qd],ae hw⟩)
theorem kO(x y:Zp):PUR 241 [EV x,EV y] (EV (x+y)):=by
 intro w hw;refine Hf func241 O hw<|λhGF=>Xp<|Bx 2 hGF O<|λb2=>Bx 3 hGF O<|λb3=>Al 4 hGF zv189<|λb4=>aa<|Xp<|Fa 0 O underlying189 O sizeOf119<|La 2 O O bR<|Fa 0 O underlying189 O sizeOf119<|La 3 O O bR<|Ca O (pf _ _ aB aB)<|Mv O<|Exq O O<|Exq O O<|Al 5 hGF zv119<|λb5=>Sa 5 hGF O O O bR<|Asg O<|aa<|Xp<|La 5 O O bR<|mF hGF isAgg119 sizeOf119 aB (λ_ h=>h.g0) O O<|Ca O (km _ _ aB aB)<|Mv O<|Exq O O<|Exq O O<|Al 7 hGF zv119<|λb7=>Sa 7 hGF O O O bR<|Asg O<|aa<|ah<|Xp<|Mv O<|Bnr O O (λ_=>bC _ _ _)<|aa<|?_;refine cq O (λhc=> ?_) (λhc=> ?_)
 ·refine Xp<|La 5 O O bR<|dn O aB underlying189 O sizeOf119 zv189 O O<|Sa 4 hGF O O O aR<|aa<|ao<|Rr<|?_
  exact aF 4 O O O isAgg189 sizeOf189 aB (λw hw=>⟨by rw[Do (Hs (E3 hc))],ae hw⟩)
 ·refine aw<|Xp<|La 7 O O bR<|dn O aB underlying189 O sizeOf119 zv189 O O<|Sa 4 hGF O O O aR<|aa<|ao<|Rr<|?_
  exact aF 4 O O O isAgg189 sizeOf189 aB (λw hw=>⟨by rw[A2 (AD (qa _ _ _) (Fh hc))],ae hw⟩)
theorem qu(x y:Zp):PUR 233 [EV x,EV y] (EV (x-y)):=by
 intro w hw;refine Hf func233 O hw<|λhGF=>Xp<|Bx 2 hGF O<|λb2=>Bx 3 hGF O<|λb3=>Al 4 hGF zv189<|λb4=>aa<|Xp<|Fa 0 O underlying189 O sizeOf119<|La 2 O O bR<|Fa 0 O underlying189 O sizeOf119<|La 3 O O bR<|Ca O (km _ _ aB aB)<|Mv O<|Exq O O<|Exq O O<|Al 5 hGF zv119<|λb5=>Sa 5 hGF O O O bR<|Asg O<|aa<|ah<|Xp<|Mv O<|Bnr O O (λ_=>bC _ _ _)<|aa<|?_;refine cq O (λhc=> ?_) (λhc=> ?_)
 ·refine Xq<|La 5 O O bR<|mF hGF isAgg119 sizeOf119 aB (λ_ h=>h.g0) O O<|Ca O (pf _ _ aB aB)<|Mv O<|Exq O O<|Exq O O<|Sa 5 hGF O O O bR<|aa<|Xp<|La 5 O O bR<|dn O aB underlying189 O sizeOf119 zv189 O O<|Sa 4 hGF O O O aR<|aa<|ao<|Rr<|?_
  exact aF 4 O O O isAgg189 sizeOf189 aB (λw hw=>⟨by rw[DU (E3 hc)],ae hw⟩)
 ·refine aw<|Xp<|La 5 O O bR<|dn O aB underlying189 O sizeOf119 zv189 O O<|Sa 4 hGF O O O aR<|aa<|ao<|Rr<|?_
  exact aF 4 O O O isAgg189 sizeOf189 aB (λw hw=>⟨by rw[AY (AD (qa _ _ _) (Fh hc))],ae hw⟩)
theorem nn(x:Zp):PUR 203 [EV x] (EV (-x)):=by
 intro w hw;refine Hf func203 O hw<|λhGF=>Xp<|Bx 1 hGF O<|λb1=>Al 2 hGF zv189<|λb2=>aa<|Xp<|iA zv189 underlying189 (rJ sizeOf119) O O<|La 1 O O aR<|Ca O ((show PUR 233 [NV (List.replicate 6 0#64),EV x] (EV (0-x)) by rw[<-xE];exact qu 0 x))<|Sa 2 hGF O O O aR<|aa<|ao<|Rr<|?_
 exact aF 2 O O O isAgg189 sizeOf189 aB (λw hw=>⟨by rw[show (0:Zp)-x= -x by grind],ae hw⟩)
theorem bS(x:Zp):PUR 243 [EV x] (EV (x*x)):=by
 intro w hw;refine Hf func243 O hw<|λhGF=>Xp<|Bx 1 hGF O<|λb1=>Al 2 hGF zv189<|λb2=>aa<|Xp<|La 1 O O aR<|La 1 O O aR<|Ca O (bz _ _)<|Sa 2 hGF O O O aR<|aa<|ao<|Rr<|?_;exact aF 2 O O O isAgg189 sizeOf189 aB (λw hw=>⟨rfl,ae hw⟩)
end
section
open Go.RowKit
theorem ent341:aJ prog 341:=λ_ _=>kr
attribute [local simp] dO fH bN bq dr cx cy bX dV PLl mr mD N1l lO lT mA eI f7
theorem zv366(w:World):(zeroValue 366).run prog w=.ok (bd (FL (λ_=>List.replicate 6 0#64) 16)) w:=(zeroValue366 w).trans aE
theorem qF:PUR 232 [U64 1#64] (EV 1):=sP 1#64
theorem tE(x:Zp):PUR 320 [EV x] (bd (SP x 16)):=by
 intro w hw;refine Hf func320 O hw<|λhGF=>Xp<|Bx 1 hGF O<|λb1=>Al 2 hGF zv366<|λb2=>aa<|Xp<|Ca O (qF)<|yh O aB aC underlying366 sizeOf189 zv366 O O<|Al 3 hGF zv366<|λb3=>Sa 3 hGF O O O wZ<|aa<|ah<|Xp<|Asg O<|aa<|ar<|bV (ι:={i:Nat // 1<=i/\i<=16}) (λy=>[(1,pnt b1),(2,pnt b2),(3,pnt b3),(4,I (y.1:Int))]) (λy=>[(1,b1,(fe x).map U64,189),(2,b2,(FL (λ_=>List.replicate 6 0#64) 16).map U64,366),(3,b3,(SP x y.1).map U64,366)]) (λy=>16-y.1) ⟨1,om⟩ hGF trv ⟨rfl,rfl,by rw[<-HH];rfl,trivial⟩<|?_
 rintro ⟨i,hi⟩;dsimp only;refine ah<|Xp<|Mv O<|Bnr O O (λ_=>aI _ _ _)<|aa<|?_;refine cq O (λhc=> ?_) (λhc=> ?_)
 ·simp only[decide_eq_true_eq]at hc
  refine aw<|ah<|ar<|Xe []<|Mv O<|Mv O<|Bnr O O (λ_=>bu _ _ _ aG)<|rU (i-1) (6*(i-1)) O O underlying366 sizeOf189 om om om O O<|be 3 ((fe (x^(i-1))).map U64) O O isAgg189 sizeOf189 aB (rP x i (i-1) om om _ O) O O<|La 1 O O aR<|Ca O (bz _ _)<|rU (i) (6*(i)) O O underlying366 sizeOf189 om om om O O<|gu 3 ((SP x (i+1)).map U64) hGF O O O sizeOf189 aB (aZ _) (by rw[List.length_map,List.length_map,dO,f7];omega) (CV x i om om _ O) O<|aa<|Xq<|Mv O<|Bnr O O (λ_=>ay _ _ _ aG)<|Asg O<|aa<|?_
  repeat (refine bh ?_)
  exact aV<|⟨rfl,⟨i+1,om⟩,_,by show 16-(i+1)<16-i;omega,rfl,trv,trv⟩
 ·obtain rfl:i=16:=by simp at hc;omega
  refine bj<|Xp<|La 3 O O wZ<|Sa 2 hGF O O O wZ<|aa<|ao<|Rr<|?_;exact aF 2 O O O isAgg366 sizeOf366 aB (λw hw=>⟨rfl,ae hw⟩)
def RdD(bb:Nat)(e:Option Addr)(cap:Nat)(bs:L8):Cls:=λW=>W.cell? ⟨bb,0,none⟩=some (.slice e bs.length cap)/\BytesAt W e bs
def NB(bs:L8):List (List Value):=(List.range (2*bs.length)).map λm=>[U8 (NBv bs m)]
theorem uX(bs:L8):(NB bs).length=2*bs.length:=by simp[NB]
theorem vn(bs:L8)(m:Nat)(h:m<2*bs.length):(NB bs)[m]? =some [U8 (NBv bs m)]:=by
 rw[NB,List.getElem?_map,List.getElem?_range h];rfl
theorem KQ(bs:L8)(m:Nat)(x:List Value)(h:(NB bs)[m]? =some x):m<2*bs.length/\x=[U8 (NBv bs m)]:=by
 have hm:m<2*bs.length:=by
  rcases Nat.lt_or_ge m (2*bs.length)with h'|h'
  ·exact h'
  ·rw[List.getElem?_eq_none (by rw[uX];exact h')]at h;cases h
 rw[vn bs m hm]at h;exact ⟨hm,(Option.some.inj h).symm⟩
theorem I9(bs:L8)(i:Nat)(h:i<bs.length):(NB bs)[2*i]? =some [U8 (bs.getD i 0>>>4)]:=by
 rw[vn bs _ om,NBv,if_pos om,show 2*i / 2=i by omega]
theorem Lh(bs:L8)(i:Nat)(h:i<bs.length):(NB bs)[2*i+1]? =some [U8 (bs.getD i 0 % 16#8)]:=by
 rw[vn bs _ om,NBv,if_neg om,show (2*i+1) / 2=i by omega]
theorem pV(sv:Value)(hs:sv.cells= #[sv])(w:World)(hw:Gt w):CLS 321 [sv].toArray w (λe w'=> ∃b1,e=.returned (.func (.func 341) #[] #[pnt b1])/\Grow w w'/\w.heap.size<=b1/\OwnB w' b1 [sv] 123):=by
 refine Hf func321 O hw<|λhGF=>Xp<|gp 1 hGF O O O<|λb1=>Asg O<|aa<|Xp<|dL O O O O<|Asg O<|aa<|ao<|Rr<|?_;exact au O O (λw hw=>⟨b1,rfl,ae hw,(hw.own 1 b1 _ _ O).2.elim id False.elim,(by have:=(hw.own 1 b1 _ _ O).1;rw[hs]at this;exact this)⟩)
theorem sU(bb:Nat)(e:Option Addr)(cap:Nat)(bs:L8)(hlen:bs.length<=1000000):ju prog Gt 341 [pnt bb] (NB bs) (RdD bb e cap bs):=by
 intro l J Jx hJ hJx hRd hGx hY w hj;have okJ: ∀k,BOk Gt (Bi w (λY=>J Y k)):=λk=>⟨λ_ _ _ h=>(hRd _ _ _ h.rid).1,hJ k⟩;have okX: ∀k,BOk Gt (Bi w (λY=>Jx Y k)):=λk=>⟨λ_ _ _ h=>hGx _ _ _ h.rid,hJx k⟩;have c1: ∀k L w',Hp (Bi w (λY=>J Y k)) L w'->RdD bb e cap bs w':=λk L w' h=>(hRd _ _ _ h.rid).2;have hby:=(hRd _ _ _ hj).2.2;refine ew (G:=Gt) func341 O O (Hp (Bi w (λY=>J Y 0)) []) (cI (Bi w _) hj (hJ 0)) (aT (okJ 0))<|Xp<|aQ O isAgg123 (λw h=>(c1 _ _ w h).1) O O<|bv O (λ_=>aM underlying123 _ _ _ _) O O<|Mv O<|aa<|ar<|jG (ι:={i:Nat // i<=bs.length}) (λx=>[(0,.func (.yield l) #[] #[]),(1,pnt bb),(5,.slice e bs.length cap),(6,I (bs.length:Int)),(7,I (x.1:Int))]) (λx=>Bi w (λY=>J Y (2*x.1))) (λx=>[]) (λx=>bs.length-x.1) ⟨0,Nat.zero_le _⟩ (λ_=>okJ _) O trv trivial<|?_;rintro ⟨i,hi⟩;dsimp only;refine Xp<|Bnr O O (λ_=>aI _ _ _)<|aa<|ah<|?_;refine cq O (λhc=> ?_) (λhc=> ?_)
 ·simp only[decide_eq_true_eq]at hc
  have hi2:i<bs.length:=om;refine aw<|ah<|ar<|Xp<|?_;obtain ⟨ad,rfl,_⟩:=hby i _ (gm U8 bs 0 i om);refine g9 i O O underlying123 sizeOf5 O om O O<|aQ O isAgg5 (λw' h=>by obtain ⟨ad',e',hc'⟩:=(c1 _ _ w' h).2 i _ (gm U8 bs 0 i om);cases e';exact hc') O O<|Asg O<|aa<|yp (E:=EE []) 4<|Mv O<|Mv O<|Bnr (v:=U8 (bs.getD i 0>>>4)) O O (λ_=>uI _ _ 4#64)<|?_
  refine eP (hY.b (k:=2*i) (I9 bs i om) w) (okJ _) (okX _) O O O O O ?_ ?_
  ·refine aa ?_
   refine ⟨EE [], ?_⟩;refine bU O (λ_=>bM _) O O<|Mv O<|Mv O<|Mv O<|Bnr (v:=U8 (bs.getD i 0 % 16#8)) O O (λ_=>un _ _ 16#8 aC)<|?_;refine eP (hY.b (k:=2*i+1) (Lh bs i om) w) (okJ _) (okX _) O O O O O ?_ ?_
   ·refine bU O (λ_=>bM _) O O<|Pk O O O<|aa<|aH O<|aw<|Xq<|Bnr O O (λ_=>ay _ _ _ aG)<|Mv O<|aa<|?_
    rw[show 2*i+1+1=2*(i+1) by omega]
    repeat (refine bh ?_)
    exact aV<|⟨rfl,⟨i+1,om⟩,_,by show bs.length-(i+1)<bs.length-i;omega,rfl,trv,trivial⟩
   ·refine bU O (λ_=>bM _) O O<|Pk O O O<|aa<|aP O<|ao<|Rr<|?_
    repeat (first|refine iG ?_|refine gX ?_|refine hH O ?_|refine cT ?_|refine cU ?_)
    exact ei O (λw hw=>⟨⟨_,rfl⟩,.inr ⟨_,cW (hJx _) hw.rid⟩⟩)
  ·refine aa ?_
   refine ⟨EE [3000000], ?_⟩;refine bU O (λ_=>bM _) O O<|Mv O<|Sk<|Sk<|Sk<|Sk<|Sk<|Pk O O O<|aa<|aP O<|ao<|Rr<|?_
   repeat (first|refine iG ?_|refine gX ?_|refine hH O ?_|refine cT ?_|refine cU ?_)
   exact ei O (λw hw=>⟨⟨_,rfl⟩,.inr ⟨_,cW (hJx _) hw.rid⟩⟩)
 ·simp only[decide_eq_false_iff_not]at hc
  obtain rfl:i=bs.length:=om;refine bj ?_
  repeat (first|refine iG ?_|refine gX ?_|refine hH O ?_|refine cT ?_|refine cU ?_)
  refine dU O (λw hw=>⟨⟨_,rfl⟩,.inl ?_⟩);have:=cW (hJ _) hw.rid;rw[uX];exact this
end
section
open Go.RowKit
attribute [local simp] dO fH bN bq dr cx cy bX dV PLl mr mD N1l lO lT mA eI f7
theorem ul(x:Zp)(e:Option Addr)(cap:Nat)(bs:L8)(hlen:bs.length<=1000000)(w:World)(hw:Gt w)(hby:BytesAt w e bs):
 CLS 292 [EV x,.slice e bs.length cap].toArray w (λr w'=>r=.returned (EV (x^BN bs bs.length))/\Grow w w'):=by
 have hGF:BOk Gt (pl w):=gt_low.plain hw;refine eT (G:=Gt) func292 O O (Hp (pl w) []) (cI (pl w) trivial aL) (aT hGF)<|am (E:=EE [321])<|Bx 2 hGF O<|λb2=>Al 4 hGF zv189<|λb4=>aa<|am (E:=EE [321])<|La 2 O O aR<|Ca O (tE _)<|Al 5 hGF zv366<|λb5=>Sa 5 hGF O O O wZ<|aa<|am (E:=EE [321])<|rU 0 0 O O underlying366 sizeOf189 O aC O O O<|be 5 ((fe (x^0)).map U64) O O isAgg189 sizeOf189 aB (rP x 16 0 aC aC 0 O) O O<|Al 6 hGF zv189<|λb6=>Sa 6 hGF O O O aR<|aa<|ah<|am (E:=EE [321])<|Mv O<|?_;refine cw O O ent321 O O (λw' hw'=>(pV _ O w' (hGF.g _ _ _ hw')).mono λe' w'' h=> ?_);obtain ⟨c1,rfl,hg,h1,ho⟩:=h;refine ⟨_,_,rfl,aT hGF,hw'.news aL hg [(33,c1,[.slice e bs.length cap],123)] ?_ de, ?_⟩
 ·intro n' b' c' t' hl
  rcases bx hl with ⟨_,e⟩|⟨_,hl⟩
  ·cases e;exact ⟨h1,ho⟩
  ·cases hl
 clear hw' hg h1 ho;refine aa<|ar<|?_;refine jL (λ_=>pl w) (λ_ _=>pl w) (λ_=>hGF) (λ_ _=>hGF) (λ_=>rfl) (λ_ _=>rfl) O O ent341 (sU c1 e cap bs hlen) (λx hx=>by obtain ⟨k,hk,rfl⟩:=List.mem_map.1 hx;rfl) O (λk=>[(2,b2,(fe x).map U64,189),(4,b4,(List.replicate 6 0#64).map U64,189),(5,b5,(SP x 16).map U64,366),(6,b6,(fe (x^DN bs k)).map U64,189),(33,c1,[.slice e bs.length cap],123)]) (λ_ _ _=>False) ⟨rfl,rfl,rfl,by rw[DN];rfl,rfl,trivial⟩ (λk _ w' h=>⟨dw (n:=33) O O w' h,hby.grow (h.below (λ_ h=>h))⟩) ?_ ?_ (λ_ _ _ _ _ h=>h.elim)
 ·intro k v hx R hR
  obtain ⟨hk,rfl⟩:=KQ bs k v hx;have hlt:=HP bs k;refine cm (E:=EE [321])<|Asg O<|aa<|?_;refine ⟨rfl,_,rfl, ?_⟩;refine ar<|ah<|am (E:=EE [321])<|Mv O<|aa<|ar<|bV (ι:={i:Nat // i<=4}) (λj=>[(5,pnt b5),(6,pnt b6),(7,U8 (NBv bs k)),(15,I (j.1:Int))]) (λj=>[(2,b2,(fe x).map U64,189),(4,b4,(List.replicate 6 0#64).map U64,189),(5,b5,(SP x 16).map U64,366),(6,b6,(fe (x^(2^j.1*DN bs k))).map U64,189),(33,c1,[.slice e bs.length cap],123)]) (λj=>4-j.1) ⟨0,om⟩ (hR (pl w) O hGF).2.1 trv ⟨rfl,rfl,rfl,by rw[Nat.pow_zero,Nat.one_mul];rfl,rfl,trivial⟩<|?_
  rintro ⟨j,hj⟩;dsimp only;refine am (E:=EE [321])<|Bnr O O (λ_=>aI _ _ _)<|aa<|ah<|?_;refine cq O (λhc=> ?_) (λhc=> ?_)
  ·simp only[decide_eq_true_eq]at hc
   refine aw<|ah<|ar<|cm (E:=EE [321])<|La 6 O O aR<|Ca O (bS _)<|ai 6 (hR (pl w) O hGF).2.1 O O O sizeOf189 aB aB (aZ _) O<|aa<|cm (E:=EE [321])<|Bnr O O (λ_=>ay _ _ _ aG)<|Mv O<|aa<|?_
   repeat (refine bh ?_)
   exact aV<|⟨rfl,⟨j+1,om⟩,_,by show 4-(j+1)<4-j;omega,rfl,trv,⟨rfl,rfl,rfl,by rw[<-CW];rfl,rfl,trivial⟩⟩
  ·obtain rfl:j=4:=by simp at hc;omega
   refine bj<|Xe [321]<|La 6 O O aR<|Mv O<|D1 (6*(NBv bs k).toNat) O O underlying366 sizeOf189 hlt om O O<|be 5 ((fe (x^(NBv bs k).toNat)).map U64) O O isAgg189 sizeOf189 aB (rP x 16 _ hlt (Nat.le_refl _) _ O) O O<|Ca O (zD x bs k▸bz (x^(2^4*DN bs k)) (x^(NBv bs k).toNat))<|ai 6 (hR (pl w) O hGF).2.1 O O O sizeOf189 aB aB (aZ _) O<|aa<|?_
   repeat (refine bh ?_)
   exact ⟨_,rfl,trv⟩
 ·intro D hD
  rw[uX,Ac];refine am (E:=EE [321])<|La 6 O O aR<|Sa 4 hD O O O aR<|aa<|ao<|Rr<|?_;exact ii (.inl O) aL (aF 4 O O O isAgg189 sizeOf189 aB (λw hw=>⟨rfl,ae hw⟩))
end
def hf:Nat:=(PP-1) / 2
def rg:Nat:=(PP+1) / 4
theorem Fv:PP % 4=3:=by decide+kernel
theorem Gr:2*hf+1=PP:=by have:=Fv;unfold hf;omega
theorem y8(x:Zp):LT HFP (nm x) 6=decide (hf<x.val):=by rw[pd,Mx,B9];rfl
def SQr(x:Zp):Zp:=x^rg
def SQn(x:Zp):Zp:=if hf<(SQr x).val then-(SQr x)else SQr x
def SQ(x:Zp):Zp:=if SQr x*SQr x=x then SQn x else 0
def FO(bs:L8):Bool:=decide (bs.length=48/\BN bs 48<PP)
def FV(bs:L8):Zp:=if bs.length=48/\BN bs 48<PP then zp (BN bs 48)else 0
section
open Go.RowKit
attribute [local simp] dO fH bN bq dr cx cy bX dV PLl mr mD N1l lO lT mA eI f7
theorem Hg(x:Zp)(b:Nat)(t:TypeId)(bs:L8)(h48:bs.length=48)(w:World)(hw:Gt w)(ho:OwnB w b (bs.map U8) t):
 CLS 292 [EV x,.slice (spt b) 48 48].toArray w (λr w'=>r=.returned (EV (x^BN bs 48))/\Grow w w'):=by
 have h:=ul x (spt b) 48 bs om w hw (BytesAt.range ho.range);rw[h48]at h;exact h
theorem tw(a:Option Addr)(len cap:Nat)(bs:L8)(hl:bs.length=len)(h:len<=48)(w:World)(hw:Gt w)(hby:BytesAt w a bs):
 CLS 210 [.slice a len cap].toArray w (λe w'=>e=.returned (.tuple #[NV (FRs bs bs.length),.bool true])/\Grow w w'):=by
 subst hl;exact (uE a cap bs w hw hby).mono λe w' ⟨he,hg⟩=>⟨by rw[he,if_neg om],hg⟩
theorem tb(x:Zp)(n:L6)(hn:n.length=6):PUR 242 [EV x,NV n] (EV (x^V n 6)):=by
 intro w hw;refine Hf func242 O hw<|λhGF=>Xp<|Bx 2 hGF O<|λb2=>Bx 3 hGF O<|λb3=>Al 4 hGF zv189<|λb4=>aa<|Xp<|aq 3 O O isAgg119 sizeOf119 (by first|(simp;done)|simp[hn]) O O<|Ca O (rK _ (by first|(simp;done)|simp[hn]))<|Al 5 hGF zv32<|λb5=>ai 5 hGF O O O sizeOf32 (by first|(simp;done)|simp[hn]) (by first|(simp;done)|simp[hn]) (bp _) O<|aa<|Xd []<|aq 2 O O isAgg189 sizeOf189 (by first|(simp;done)|simp[hn]) O O<|ci (l:=0) (h':=48) O underlying32 sizeOf5 O O om om O O<|Cc O ent292 (λw hC hG=>Hg x _ _ (BYs n 48) (by first|(simp;done)|simp[hn]) w hG (hC.own 5 _ _ _ O).1)<|ai 4 hGF O O O sizeOf189 (by first|(simp;done)|simp[hn]) (by first|(simp;done)|simp[hn]) (aZ _) O<|aa<|ao<|Rr<|?_
 exact aF 4 O O O isAgg189 sizeOf189 (by first|(simp;done)|simp[hn]) (λw hw=>⟨by rw[Hj n hn 48 O],ae hw⟩)
theorem tF(x:Zp):PUR 245 [EV x] (.bool (decide (hf<x.val))):=by
 intro w hw;refine Hf func245 O hw<|λhGF=>Xp<|Bx 1 hGF O<|λb1=>Asg O<|aa<|Xd []<|mF hGF isAgg119 sizeOf119 aB (λ_ h=>h.g4) O O<|La 1 O O aR<|Ca O (rV _)<|Ca O (kE _ _ aB aB)<|Asg O<|aa<|ao<|Rr<|?_;exact au O O (λw hw=>⟨by rw[<-y8],ae hw⟩)
theorem Dn(x:Zp):PUR 242 [EV x,NV RTP] (EV (SQr x)):=by
 have h:=tb x RTP O;rw[Ds]at h;exact h
theorem oF(x:Zp):PUR 214 [EV x] (.tuple #[EV (SQ x),.bool (decide (SQr x*SQr x=x))]):=by
 intro w hw;refine Hf func214 O hw<|λhGF=>Xp<|Bx 1 hGF O<|λb1=>Al 2 hGF zv189<|λb2=>Asg O<|aa<|Xp<|La 1 O O aR<|mF hGF isAgg119 sizeOf119 aB (λ_ h=>h.g3) O O<|Ca O (Dn x)<|Al 4 hGF zv189<|λb4=>Sa 4 hGF O O O aR<|aa<|ah<|Xd []<|La 4 O O aR<|Ca O (bS _)<|La 1 O O aR<|Ca O (fK _ _)<|bU O (λ_=>bM _) O O<|aa<|?_;refine cq O (λhc=> ?_) (λhc=> ?_)
 ·have hs: ¬SQr x*SQr x=x:=by simpa using hc
  refine Xp<|iA zv189 underlying189 (rJ sizeOf119) O O<|Sa 2 hGF O O O aR<|Asg O<|aa<|ao<|Rr<|?_;exact cg 2 O O O O isAgg189 sizeOf189 aB (λw hw=>⟨by rw[SQ,if_neg hs,decide_eq_false hs,<-xE]<;>rfl,ae hw⟩)
 ·have hs:SQr x*SQr x=x:=by simpa using hc
  clear hc;refine aw<|ah<|Xp<|La 4 O O aR<|Ca O (tF _)<|aa<|?_;refine cq O (λhc=> ?_) (λhc=> ?_)
  ·simp only[decide_eq_true_eq]at hc
   refine Xq<|La 4 O O aR<|Ca O (nn _)<|Sa 4 hGF O O O aR<|aa<|Xp<|La 4 O O aR<|Sa 2 hGF O O O aR<|Asg O<|aa<|ao<|Rr<|?_;exact cg 2 O O O O isAgg189 sizeOf189 aB (λw hw=>⟨by rw[SQ,if_pos hs,SQn,if_pos hc,decide_eq_true hs]<;>rfl,ae hw⟩)
  ·simp only[decide_eq_false_iff_not]at hc
   refine aw<|Xp<|La 4 O O aR<|Sa 2 hGF O O O aR<|Asg O<|aa<|ao<|Rr<|?_;exact cg 2 O O O O isAgg189 sizeOf189 aB (λw hw=>⟨by rw[SQ,if_pos hs,SQn,if_neg hc,decide_eq_true hs]<;>rfl,ae hw⟩)
theorem j9(e:Option Addr)(cap:Nat)(bs:L8)(w:World)(hw:Gt w)(hby:BytesAt w e bs):
 CLS 190 [.slice e bs.length cap].toArray w (λr w'=>r=.returned (.tuple #[EV (FV bs),.bool (FO bs)])/\Grow w w'):=by
 refine Hf func190 O hw<|λhGF=>Xp<|Al 2 hGF zv189<|λb2=>Asg O<|aa<|ah<|Xp<|Mv O<|bv O (λ_=>aM underlying123 _ _ _ _) O O<|Bnr O O (λ_=>cC _ _ _)<|aa<|?_;refine cq O (λhc=> ?_) (λhc=> ?_)
 ·have hc: ¬bs.length=48:=by simp at hc;omega
  refine Xp<|iA zv189 underlying189 (rJ sizeOf119) O O<|Sa 2 hGF O O O aR<|Asg O<|aa<|ao<|Rr<|?_;exact cg 2 O O O O isAgg189 sizeOf189 aB (λw hw=>⟨by rw[FV,FO,if_neg (λh=>hc h.1),decide_eq_false (λh=>hc h.1),<-xE]<;>rfl,ae hw⟩)
 ·have h48:bs.length=48:=by simp at hc;omega
  clear hc;refine aw<|Xp<|Mv O<|Cc O ent210 (λw' hC hG=>tw e bs.length cap bs O om w' hG (hby.grow (ae hC)))<|Mv O<|Exq O O<|Exq O O<|Al 4 hGF zv119<|λb4=>Sa 4 hGF O O O bR<|Asg O<|aa<|ah<|Xp<|Mv O<|bU O (λ_=>bM _) O O<|Mv O<|La 4 O O bR<|mF hGF isAgg119 sizeOf119 aB (λ_ h=>h.g0) O O<|Ca O (kE _ _ aB aB)<|bU O (λ_=>bM _) O O<|Pk O O O<|aa<|?_;refine cq O (λhc=> ?_) (λhc=> ?_)
  ·have e0:V (FRs bs bs.length) 6=BN bs 48:=by rw[wJ bs om,h48]
   have hl: ¬BN bs 48<PP:=by rw[pd,ia,e0]at hc;simpa using hc
   clear hc;refine Xp<|iA zv189 underlying189 (rJ sizeOf119) O O<|Sa 2 hGF O O O aR<|Asg O<|aa<|ao<|Rr<|?_;exact cg 2 O O O O isAgg189 sizeOf189 aB (λw hw=>⟨by rw[FV,FO,if_neg (λh=>hl h.2),decide_eq_false (λh=>hl h.2),<-xE]<;>rfl,ae hw⟩)
  ·have e0:V (FRs bs bs.length) 6=BN bs 48:=by rw[wJ bs om,h48]
   have hl:BN bs 48<PP:=by rw[pd,ia,e0]at hc;simpa using hc
   clear hc;refine aw<|Xp<|La 4 O O bR<|Ca O (oP _ aB)<|Sa 2 hGF O O O aR<|Asg O<|aa<|ao<|Rr<|?_;exact cg 2 O O O O isAgg189 sizeOf189 aB (λw hw=>⟨by rw[FV,FO,if_pos ⟨h48,hl⟩,decide_eq_true ⟨h48,hl⟩,wJ bs om,h48]<;>rfl,ae hw⟩)
end
section
open Go.RowKit
attribute [local simp] dO fH bN bq dr cx cy bX dV PLl mr mD N1l lO lT mA eI f7
end
section
open Go.RowKit
attribute [local simp] dO fH bN bq dr cx cy bX dV PLl mr mD N1l lO lT mA eI f7
end
theorem D3{a:Zp}(h:a≠0):(-a).val=PP-a.val:=by
 have h0:a.val≠0:=λe=>h (Fin.ext e);have hl:=a.isLt;have e:zp (PP-a.val)+a=0:=by
  have:zp (PP-a.val)+zp a.val=0:=by rw[<-k6,show PP-a.val+a.val=PP by omega,BR]
  rw[Er]at this;exact this
 have e2: -a=zp (PP-a.val):=by grind
 rw[e2,gg,Nat.mod_eq_of_lt om]
theorem Jo{a:Zp}(h:SQr a*SQr a=a):SQ a*SQ a=a:=by
 rw[SQ,if_pos h,SQn];split
 ·grind
 ·exact h
theorem sM{a:Zp}(h:SQr a*SQr a=a): ¬hf<(SQ a).val:=by
 rw[SQ,if_pos h,SQn];split
 ·rename_i h1
  have h0:SQr a≠0:=λe=>by rw[e]at h1;exact absurd h1 (Nat.not_lt_zero _)
  rw[D3 h0];have:=Gr;omega
 ·rename_i h1;exact h1
abbrev W2:=Zp×Zp
def ad2(x y:W2):W2:=(x.1+y.1,x.2+y.2)
def ng2(x:W2):W2:=(-x.1,-x.2)
def ml2(x y:W2):W2:=(x.1*y.1-x.2*y.2,x.1*y.2+x.2*y.1)
def on2:W2:=(1,0)
def ze2:W2:=(0,0)
theorem ke{x y:W2}(h1:x.1=y.1)(h2:x.2=y.2):x=y:=Prod.ext h1 h2
def R2:Rg W2 where
 zero:=ze2
 one:=on2
 add:=ad2
 mul:=ml2
 neg:=ng2
 add_assoc:=λa b c=>ke (by simp only[ad2];grind) (by simp only[ad2];grind)
 add_comm:=λa b=>ke (by simp only[ad2];grind) (by simp only[ad2];grind)
 add_zero:=λa=>ke (by simp only[ad2,ze2];grind) (by simp only[ad2,ze2];grind)
 add_neg:=λa=>ke (by simp only[ad2,ng2,ze2];grind) (by simp only[ad2,ng2,ze2];grind)
 mul_assoc:=λa b c=>ke (by simp only[ml2];grind) (by simp only[ml2];grind)
 mul_comm:=λa b=>ke (by simp only[ml2];grind) (by simp only[ml2];grind)
 mul_one:=λa=>ke (by simp only[ml2,on2];grind) (by simp only[ml2,on2];grind)
 mul_add:=λa b c=>ke (by simp only[ml2,ad2];grind) (by simp only[ml2,ad2];grind)
/-! ### -1 is no square -/
theorem z_m0(a:Zp):a*0=0:=by grind
/-! ### Powers -/
def pw2(x:W2)(n:Nat):W2:=R2.pw x n
theorem z_0m(a:Zp):0*a=0:=by grind
/-! ### Roots -/
/-! ### Equality, signs -/
/-! ### Powers by digits -/
def fe2(x:W2):L6:=fe x.1++fe x.2
theorem iV(x:W2):(fe2 x).length=12:=by rw[fe2,List.length_append,dO,dO]
def SP2(x:W2)(i:Nat):L6:=FM (λj=>if j<i then fe2 (pw2 x j)else fe2 ze2) 16
theorem jb(x:W2)(i:Nat):(SP2 x i).length=192:=jH _ _
/-! ### Roots -/
end Go.Proofs.YtfakhlafilbjkaaGreatDoor
