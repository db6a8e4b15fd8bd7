/- L4 -/
import Derived.Test.YtfakhlafilbjkaaGreatDoorL3
set_option maxRecDepth 100000
set_option maxHeartbeats 1000000
namespace Go.Proofs.YtfakhlafilbjkaaGreatDoor
open Go.Proofs.Tryz
section
open Go.RowKit
open Sh
theorem ent8:aL prog 8:=λ_ _=>kr
theorem ent25:aL prog 25:=λ_ _=>kr
theorem ent14:aL prog 14:=λ_ _=>kr
theorem ent19:aL prog 19:=λ_ _=>kr
theorem ent21:aL prog 21:=λ_ _=>kr
theorem ent23:aL prog 23:=λ_ _=>kr
def onN(l:List Bool):Nat:=(l.filter id).length
def dq(l:List Bool):Bool:=decide (2*l.length<=3*onN l)
def Up.isn(u:Up):Bool:= !decide (u.br=Zs 160)
def Up.isf(u:Up):Bool:= !decide (u.fy=Zs 192)
def p8(c:Co):Bool:=c.ks.all (λk=>decide (k=Zs 48)) && decide (c.sum=Zs 48)
def Up.rip(u:Up)(c:Cf):Bool:=u.isn && decide (c.pe u.at_.s=c.pe u.sl)
def Up.nea(u:Up)(c:Cf):Bool:=decide (c.pe u.fi.s=c.pe u.at_.s)
def H2(c:Cf)(a b:Up):Bool:=
 bif dq a.sy.bs !=dq b.sy.bs then dq a.sy.bs else
 bif !dq a.sy.bs && decide (onN a.sy.bs≠onN b.sy.bs)then decide (onN b.sy.bs<onN a.sy.bs)else
 bif a.rip c !=b.rip c then a.rip c else
 bif a.isf !=b.isf then a.isf else
 bif a.isf && (a.nea c !=b.nea c)then a.nea c else
 bif decide (onN a.sy.bs≠onN b.sy.bs)then decide (onN b.sy.bs<onN a.sy.bs)else
 bif decide (a.at_.s≠b.at_.s)then decide (a.at_.s<b.at_.s)else decide (a.sl<b.sl)
def Et(c:Cf)(a b:Up):Bool:=bif c.rt then H2 c a b else false
def VM(w:World)(s:St)(u:Up):Prop:=RwsAt 48 w s.nw.ka s.nw.ks/\RwsAt 48 w s.nx.ka s.nx.ks/\RwsAt 48 w u.nx.ka u.nx.ks/\CellsAt w u.sy.ba (u.sy.bs.map .bool)
def VB(s:St)(u:Up):Prop:=s.nw.ks.length<=1000/\s.nx.ks.length<=1000/\u.nx.ks.length<=1000/\u.sy.bs.length<=1000
structure RulesP:Prop where
 isn: ∀(u:Up),u.Ok->∀(w:World),Gt w->CLS 19 [.agg u.cs.toArray].toArray w (λe w'=>e=.returned (.bool u.isn)/\Grow w w')
 isf: ∀(u:Up),u.Ok->∀(w:World),Gt w->CLS 21 [.agg u.cs.toArray].toArray w (λe w'=>e=.returned (.bool u.isf)/\Grow w w')
 kno: ∀(s:St),s.Ok->s.nx.ks.length<=1000->∀(w:World),Gt w->RwsAt 48 w s.nx.ka s.nx.ks->CLS 23 [.agg s.cs.toArray].toArray w (λe w'=>e=.returned (.bool (!p8 s.nx))/\Grow w w')
 bet: ∀(c:Cf) (a b:Up),c.Ok->a.Ok->b.Ok->a.sy.bs.length<=1000->b.sy.bs.length<=1000->∀(w:World),Gt w->CellsAt w a.sy.ba (a.sy.bs.map .bool)->CellsAt w b.sy.ba (b.sy.bs.map .bool)->CLS 17 [.agg c.cs.toArray,.agg a.cs.toArray,.agg b.cs.toArray].toArray w (λe w'=>e=.returned (.bool (Et c a b))/\Grow w w')
 beg: ∀(c:Cf) (t:Rt) (b:Bo),c.Ok->t.length=32->b.Ok->b.nw.ks.length<=1000->∀(w:World),Gt w->RwsAt 48 w b.nw.ka b.nw.ks->CLS 14 [.agg c.cs.toArray,.agg (t.map U8).toArray,.agg b.cs.toArray].toArray w (λe w'=>e=.returned (I (bif c.rt then f7 t b else 210))/\Grow w w')
 vS: ∀(c:Cf) (s:St) (u:Up) (n:BitVec 64),c.Ok->s.Ok->u.Ok->VB s u->c.rt=false->∀(w:World),Gt w->VM w s u->CLS 25 [.agg c.cs.toArray,.agg s.cs.toArray,.agg u.cs.toArray,U64 n].toArray w (λe w'=>e=.returned (I 210)/\Grow w w')
 vF: ∀(c:Cf) (s:St) (u:Up) (n:BitVec 64),c.Ok->s.Ok->u.Ok->VB s u->c.rt=true->onN u.sy.bs=0->∀(w:World),Gt w->VM w s u->CLS 25 [.agg c.cs.toArray,.agg s.cs.toArray,.agg u.cs.toArray,U64 n].toArray w (λe w'=>e=.returned (I 232)/\Grow w w')
 vE: ∀(c:Cf) (s:St) (u:Up) (n:BitVec 64),c.Ok->s.Ok->u.Ok->VB s u->c.rt=true->onN u.sy.bs≠0->n<u.sl->∀(w:World),Gt w->VM w s u->CLS 25 [.agg c.cs.toArray,.agg s.cs.toArray,.agg u.cs.toArray,U64 n].toArray w (λe w'=>e=.returned (I 233)/\Grow w w')
 vW: ∀(c:Cf) (s:St) (u:Up) (n:BitVec 64),c.Ok->s.Ok->u.Ok->VB s u->c.rt=true->onN u.sy.bs≠0->¬n<u.sl->u.at_.s<u.sl->¬u.at_.s<u.fi.s->c.pe u.sl=c.pe s.f.s->s.f.s<u.at_.s->u.isf=false->u.fi=Hdz->u.isn=false->p8 u.nx=true->u.sy.sig=Zs 96->∀(w:World),Gt w->VM w s u->CLS 25 [.agg c.cs.toArray,.agg s.cs.toArray,.agg u.cs.toArray,U64 n].toArray w (λe w'=>e=.returned (I 238)/\Grow w w')
def cK:Cf:=cfP 1#64 32 4 1#64 8#64 1
theorem kC:cK.Ok:=kD _ _ _ _ _ _ aC aC
theorem tv:cK.rt=true:=by decide+kernel
theorem Dd:cK.pe 5#64=0#64:=by decide+kernel
theorem cK_7:cK.pe 7#64=0#64:=by decide+kernel
def Hd6:Hd:=⟨6#64,0#64,Z0,Z0,Z0⟩
def Up0:Up:=⟨Hdz,Co0,Zs 160,Hdz,Zs 192,⟨[],none,0,Zs 96⟩,0#64⟩
def nu(b:Nat)(x:Bool):Up:=⟨Hd6,Co0,Zs 160,Hdz,Zs 192,⟨[x],some ⟨b,0,none⟩,1,Zs 96⟩,7#64⟩
theorem jm(b:Nat)(x:Bool):(nu b x).Ok:=⟨⟨rfl,rfl,rfl⟩,kt,rfl,i2,rfl,⟨rfl⟩,⟩
theorem Gg:Up0.Ok:=⟨i2,kt,rfl,i2,rfl,⟨rfl⟩⟩
theorem zvUp(w:World):(zeroValue 71).run prog w=.ok (.agg Up0.cs.toArray) w:=(zeroValue71 w).trans aE
theorem zvSt(w:World):(zeroValue 53).run prog w=.ok (.agg St0.cs.toArray) w:=(zeroValue53 w).trans aE
def UA(b:Nat):Up:=⟨Hdz,Co0,Zs 160,Hdz,Zs 192,⟨[true],some ⟨b,0,none⟩,1,Zs 96⟩,0#64⟩
def UB(b:Nat):Up:=⟨Hdz,Co0,Zs 160,Hdz,Zs 192,⟨[true],some ⟨b,0,none⟩,1,Zs 96⟩,7#64⟩
theorem Hm(b:Nat):Up0.cs.set 597 (.slice (spt b) 1 1)=(UA b).cs:=kr
theorem Gf(b:Nat):(UA b).cs.set 694 (nrm (.int .u64 7))=(UB b).cs:=kr
theorem G4(b:Nat):(UB b).cs.set 0 (nrm (.int .u64 6))=(nu b true).cs:=kr
theorem IT(b:Nat):(nu b true).cs=(nu b false).cs:=rfl
theorem St.one(s:St):s.cs.all (·.oneCell')=true:=by
 rw[St.cs,List.all_append,List.all_append,List.all_append,List.all_append,Hd.one,Hd.one,Co.one,Co.one];rfl
theorem K9(f o:Hd)(nw:Co)(hf:f.Ok)(ho:o.Ok)(hn:nw.Ok)(w:World):(Instr.build 53 #[(0,.agg f.cs.toArray),(1,.agg o.cs.toArray),(2,.agg nw.cs.toArray)]).run prog w=.ok (.agg (St.cs ⟨f,o,nw,Co0,none,0,0,0#64,0#64⟩).toArray) w:=
 cY (c:=[]++(Hdz.cs++(Hdz.cs++(Co0.cs++(Co0.cs++[Value.slice none 0 0,U64 0#64,U64 0#64]))))) (ps:= #[(0,98),(98,98),(196,49),(245,49),(294,1),(295,1),(296,1)]) (λw=>(zeroValue53 w).trans aE) underlying53 (λw=>by simp[sizeOf22,sizeOf30,sizeOf35,sizeOf51]) [(0,.agg f.cs.toArray),(1,.agg o.cs.toArray),(2,.agg nw.cs.toArray)] (by
  rw[dy (pre:=[]) (old:=Hdz.cs) (vs:=f.cs) O O (by rw[Hd.len hf];rfl),dy (pre:=[]++f.cs) (old:=Hdz.cs) (vs:=o.cs) (by rw[List.nil_append,Hd.len hf];rfl) O (by rw[Hd.len ho];rfl),
   dy (pre:=[]++f.cs++o.cs) (old:=Co0.cs) (vs:=nw.cs) (by rw[List.nil_append,List.length_append,Hd.len hf,Hd.len ho];rfl) O (by rw[Co.len hn];rfl)]
  simp[Instr.fill,St.cs]) w
theorem yC{bs:By}{i:Nat}{r:Rt}(hr:r.length=32)(hi:32*i+32<=bs.length):((jW bs i r).drop (32*i)).take 32=r:=by
 rw[jW,List.append_assoc,List.drop_left' (by rw[List.length_take];omega),List.take_left' hr]
theorem zo{bs:By}{i j:Nat}{r:Rt}(hi:32*i<=bs.length)(hj:j<i):((jW bs i r).drop (32*j)).take 32=(bs.drop (32*j)).take 32:=by
 rw[jW,List.append_assoc,List.drop_append_of_le_length (by rw[List.length_take];omega),List.take_append_of_le_length (by rw[List.length_drop,List.length_take];omega),List.drop_take,List.take_take,Nat.min_eq_left om]
theorem Gk{x:BitVec 64}{a b c:Rt}(ha:a.length=32)(hb:b.length=32)(_hc:c.length=32):(cT (LVS x a b c) 24).getD 22 Z0=b:=by
 have l0:=iL x 768;have l1:(jW (LVB x 768) 20 a).length=768:=(i1 ha (by rw[l0];decide)).trans l0
 have l2:(jW (jW (LVB x 768) 20 a) 22 b).length=768:=(i1 hb (by rw[l1];decide)).trans l1
 rw[cT,List.getD_eq_getElem?_getD,List.getElem?_map,List.getElem?_range aC];show ((LVS x a b c).drop (32*22)).take 32=b;rw[LVS,zo (by rw[l2];decide) aC,yC hb (by rw[l1];decide)]
theorem A2: ∀(l:List Rt),AllR l->cT l.flatten l.length=l:=λl hl=>by
 apply List.ext_getElem (by rw[dO])
 intro i h1 h2;have h3:(cT l.flatten l.length)[i]? =some ((l.flatten.drop (32*i)).take 32):=by
  rw[cT,List.getElem?_map,List.getElem?_range h2];rfl
 have h4:=(List.getElem?_eq_some_iff.1 h3).2;rw[h4];have e:l=l.take i++(l[i]::l.drop (i+1)):=by rw[<-List.drop_eq_getElem_cons h2,List.take_append_drop]
 have h5:(l.take i).flatten.length=32*i:=by rw[cR _ (hl.take i),List.length_take,Nat.min_eq_left om]
 conv=>lhs;rw[e]
 rw[List.flatten_append,List.flatten_cons,List.drop_left' h5,List.take_left' (hl _ (List.getElem_mem h2))]
theorem CS(sd q:BitVec 64)(m1 m2:Co)(n:Nat):vfy (m1.rt n) (cT (BOV sd q m1 m2 n).br 5) 22#64 (BOV sd q m1 m2 n).hd.b=true:=by
 unfold BOV HDV STV;dsimp only;have hl:=dh (n:=24) (l8 (x:=sd+q) (cZ (nR q) Z0) (Co.rt_len m1 n) (Co.rt_len m2 n));have hg:=Gk (x:=sd+q) (cZ (nR q) Z0) (Co.rt_len m1 n) (Co.rt_len m2 n);have hn:(cT (LVS (sd+q) (P2 (nR q) Z0) (m1.rt n) (m2.rt n)) 24).length=24:=dO _ _;generalize cT (LVS (sd+q) (P2 (nR q) Z0) (m1.rt n) (m2.rt n)) 24=l at hl hg hn⊢;have ht:l.take (2^5)=l:=List.take_of_length_le om;rw[ht];have hb:AllR (brF P2 Z0 5 l (22#64).toNat):=lY 5 l hl;have hbl:(brF P2 Z0 5 l (22#64).toNat).length=5:=kY _ _ _ _ _;have hc:=A2 _ hb;rw[hbl]at hc;rw[hc];have h1:=sP P2 Z0 22 5 l aC om;rw[show 22 % 2^5=22 from O,hg]at h1;unfold vfy;rw[show (22#64).toNat=22 from O]at hbl⊢;rw[h1,hbl,decide_eq_true O];rfl
end
section
open Go.RowKit
open Sh
theorem An{bc bw bm:Nat}{cf:Cf}{sd:BitVec 64}{k:Nat}(hk:(cN bc bw bm cf sd).own k):k=bc\/k=bw:=by
 rcases hk with h|h|⟨_,h,_⟩|⟨_,h,_⟩|⟨_,h,_⟩|⟨_,h,_⟩
 ·exact .inl h
 ·exact .inr h
 ·cases h
 ·cases h
 ·cases h
 ·cases h
theorem H4(w:World)(a:Option Addr):RwsAt 48 w a []:=λi r h=>by simp at h
theorem zP{sd q:BitVec 64}{m1 m2:Co}{n:Nat}(h:m1.Ok):(BOV sd q m1 m2 n).Ok:=by
 have hl:=dh (n:=24) (l8 (x:=sd+q) (cZ (nR q) Z0) (Co.rt_len m1 n) (Co.rt_len m2 n));have hb:=lY (i:=(22#64).toNat) 5 _ (hl.take (2^5));have hn:=kY P2 Z0 5 ((cT (LVS (sd+q) (P2 (nR q) Z0) (m1.rt n) (m2.rt n)) 24).take (2^5)) (22#64).toNat;have hh:=iu sd q (fin:=Z0) (Co.rt_len m1 n) (Co.rt_len m2 n);unfold BOV;exact ⟨hh,h,by dsimp only;rw[cR _ hb,hn]⟩
theorem BP{m1 m2:Co}(h1:xR 1#64 1 0#64 m1)(h2:xR 1#64 1 1#64 m2): ¬(HDV 1#64 5#64 Z0 (m1.rt 1) (m2.rt 1)).rt=Z0:=by
 rw[rtK0 (m:=m1) (by rw[h1.1];exact congrArg (λx=>[x]) Ju) (h1.2.trans kys0),rtK1 (m:=m2) (by rw[h2.1];exact congrArg (λx=>[x]) J8) (h2.2.trans kys1),hdK]
 exact IG
def zu(c:Cn)(q:BitVec 64)(n:Nat)(w1 w2:World)(v:Value):Prop:= ∃d m1 m2,v=.agg (BOV c.sd q m1 m2 n).cs.toArray/\ChAt w2 d/\Ext w1 (2*(n+1)) c d/\(∀m∈d.ms,m.ks.length=n)/\cq d.ats d.ms (c.cf.pe q)=some m1/\cq d.ats d.ms (c.cf.pe q+1#64)=some m2
theorem FZ(c:Cn)(q:BitVec 64)(n:Nat)(hz:c.cf.z=(n:Int))(hn:n<=512)(hnK:c.nK<=400000)(hnS:c.nS<=400000)(hnA:c.ats.length<=400000)(hmn: ∀m∈c.ms,m.ks.length=n)(w:World)(hw:Gt w)(hch:ChAt w c):CLS 10 [pnt c.bc,U64 q].toArray w (λe w2=> ∃v,e=.returned v/\MM c.own w w2/\zu c q n w w2 v):=
 (xV c q n hz hn hnK hnS hnA hmn w hw hch).mono λ_e _w2 ⟨d,m1,m2,he,hm,hc,hx,hl,k1,k2,_⟩=>⟨_,he,hm,d,m1,m2,rfl,hc,hx,hl,k1,k2⟩
theorem DZ(hR:RulesP)(w:World)(hw:Gt w):CLS 8 [].toArray w (λe w'=>e=.returned (.bool true)/\Grow w w'):=by
 refine Hf func8 O hw<|λhGF=>am (E:=EE [26])<|Asg O<|aa<|am (E:=EE [26])<|?_;refine cn O O ent26 O O (λw' hw'=>(qb 1#64 1#64 8#64 1 w' (hGF.g _ _ _ hw')).mono λe w'' h=> ?_);obtain ⟨bc,bw,bm,rfl,hg,hch,z1,z2⟩:=h;have y1:=Nat.le_trans (ae hw').size z1;have y2:=Nat.le_trans (ae hw').size z2;refine ⟨_,(λw''=>Hp (pl w) [] w''/\ChAt w'' (cN bc bw bm cK 1#64)),rfl,bQ (aU hGF) (λ_ _ x g=>x.grow g),⟨hw'.grow aJ hg,hch⟩, ?_⟩;clear hw' hg hch;refine Asg O<|aa<|?_;obtain ⟨c0,hc0⟩: ∃x,cN bc bw bm cK 1#64=x:=⟨_,rfl⟩;have hbc:c0.bc=bc:=by rw[<-hc0];rfl
 have hcf:c0.cf=cK:=by rw[<-hc0];rfl
 have hsd:c0.sd=1#64:=by rw[<-hc0];rfl
 have how: ∀k,c0.own k->w.heap.size<=k:=λk hk=>by rw[<-hc0]at hk;rcases An hk with rfl|rfl;exact y1;exact y2
 have hT: ∀w',Gt w'->ChAt w' c0->CLS 10 [pnt bc,U64 5#64].toArray w' (λe w2=> ∃v,e=.returned v/\MM c0.own w' w2/\zu c0 5#64 1 w' w2 v):=λw' g hc=>by have h:=FZ c0 5#64 1 (by rw[hcf];rfl) aC (by rw[<-hc0];exact Nat.zero_le _) (by rw[<-hc0];exact Nat.zero_le _) (by rw[<-hc0];exact Nat.zero_le _) (λm hm=>by rw[<-hc0]at hm;cases hm) w' g hc;rw[hbc]at h;exact h
 refine eR gt_low (λw1 hC1 gw1=> ?_);rw[hc0]at hC1;have hG1:Grow w w1:=ae hC1.1;have ch1:=hC1.2;have hGF1:=gt_low.plain gw1;clear hC1;refine am (E:=EE [10])<|Mv O<|?_;refine ff gt_low (M:=c0.own) ch1.low O O ent10 O O hGF1 (Q:=zu c0 5#64 1) (λw' h g'=>hT w' g' (ch1.grow h)) (λw2a wa v g12 hm2 ga hq=> ?_);obtain ⟨d,m1,m2,rfl,cha,exa,hla,k1,k2⟩:=hq;have hGFa:=gt_low.plain ga;have hGa:Grow w wa:=hm2.grow0 (hG1.trans g12) how;rw[hcf,Dd]at k1 k2;rw[hsd];have hm1:=il _ _ k1;obtain ⟨m1ok,m1r,_⟩:=cha.ks m1 hm1;have m1l:=hla m1 hm1;have dcf:d.cf=cK:=exa.cf.trans hcf;have dsd:d.sd=1#64:=exa.sd.trans hsd;have dbc:d.bc=bc:=exa.bc.trans hbc;have d1:xR 1#64 1 0#64 m1:=(exa.doc _ _ k1).elim (λh=>by rw[<-hc0]at h;cases h) (λh=>by rw[hsd,hcf]at h;exact h)
 have d2:xR 1#64 1 1#64 m2:=(exa.doc _ _ k2).elim (λh=>by rw[<-hc0]at h;cases h) (λh=>by rw[hsd,hcf]at h;exact h)
 have hne:=BP d1 d2;have hvf:=CS 1#64 5#64 m1 m2 1;have bok:(BOV 1#64 5#64 m1 m2 1).Ok:=zP m1ok;have bhd:(BOV 1#64 5#64 m1 m2 1).hd=HDV 1#64 5#64 Z0 (m1.rt 1) (m2.rt 1):=rfl;have bnw:(BOV 1#64 5#64 m1 m2 1).nw=m1:=rfl;have qK:=exa.nK;have qS:=exa.nS;have qA:=exa.nA;have zK:c0.nK=0:=by rw[<-hc0];rfl
 have zS:c0.nS=0:=by rw[<-hc0];rfl
 have zA:c0.ats.length=0:=by rw[<-hc0];rfl
 have hTr: ∀w',Grow wa w'->Gt w'->CLS 11 [pnt bc,U64 5#64].toArray w' (λe w''=>e=.returned (.agg ((HDV 1#64 5#64 Z0 (m1.rt 1) (m2.rt 1)).rt.map U8).toArray)/\Grow w' w''):=λw' h g'=>by have h1:=m9 d 5#64 1 m1 m2 (by rw[dcf,Dd];exact k1) (by rw[dcf,Dd];exact k2) (by rw[dcf];rfl) aC om om om hla w' g' (cha.grow h);rw[dbc,dsd]at h1;exact h1
 obtain ⟨hr,hhr⟩: ∃x,(HDV 1#64 5#64 Z0 (m1.rt 1) (m2.rt 1)).rt=x:=⟨_,rfl⟩;have hrl:hr.length=32:=by rw[<-hhr];exact Hd.rt_len (iu _ _ (Co.rt_len _ _) (Co.rt_len _ _))
 rw[hhr]at hne hTr;rw[<-bhd]at hhr;have b5:(BOV 1#64 5#64 m1 m2 1).hd.s=5#64:=rfl;rw[show m1.rt 1=(BOV 1#64 5#64 m1 m2 1).nw.rt (BOV 1#64 5#64 m1 m2 1).nw.ks.length from by rw[bnw,m1l]]at hvf
 clear bhd;generalize BOV 1#64 5#64 m1 m2 1=bo at hvf bok bnw hhr b5⊢;subst bnw;have hB0:f7 hr bo=0:=sQ (decide_eq_true hhr) hvf;have hB1:f7 Z0 bo=230:=uL (decide_eq_false (λh=>hne (hhr.symm.trans h)));have hcfg: ∀w',Grow wa w'->∀j v,cK.cs[j]? =some v->w'.cell? ((⟨bc,2,none⟩:Addr).add j)=some v:=λw' h j v hv=>by rw[Addr.add_mid,<-dbc];exact ((cha.grow h).oc.cell _).trans ((Cn.at_cf cha.cf j (by have:=(List.getElem?_eq_some_iff.1 hv).1;rwa [Cf.len kC]at this)).trans (by rw[dcf];exact hv))
 obtain ⟨st,hst⟩: ∃x:St,x=⟨bo.hd,bo.hd,bo.nw,Co0,none,0,0,0#64,0#64⟩:=⟨_,rfl⟩;have sok:st.Ok:=by rw[hst];exact ⟨bok.hd,bok.hd,bok.nw,kt⟩
 have sf5:st.f.s=5#64:=by rw[hst];exact b5
 have hvb: ∀b x,VB st (nu b x):=λb x=>by rw[hst];exact ⟨by show bo.nw.ks.length<=1000;omega,Nat.zero_le _,Nat.zero_le _,by show 1<=1000;decide⟩
 have hvm: ∀w' b x,Grow wa w'->w'.rangeAt b 0 [.bool x]->VM w' st (nu b x):=λw' b x h hr=>by rw[hst];exact ⟨m1r.grow h,H4 _ _,H4 _ _,CellsAt.range hr⟩
 refine Al 2 hGFa Ew<|λb2=>ai 2 hGFa O O O sizeOf38 (Bo.len bok) O (Bo.one _) O<|aa<|Xp<|Fa 0 O underlying38 O sizeOf30<|az (cs:=bo.hd.cs) O isAgg30 sizeOf30 (Hd.len bok.hd) (λw' hw' j v hv=>by have:=(av (n:=2) O w' hw') _ v (Bo.at_hd j v hv);rwa [Nat.zero_add]at this) O O<|Fa 0 O underlying38 O sizeOf30<|az (cs:=bo.hd.cs) O isAgg30 sizeOf30 (Hd.len bok.hd) (λw' hw' j v hv=>by have:=(av (n:=2) O w' hw') _ v (Bo.at_hd j v hv);rwa [Nat.zero_add]at this) O O<|Fa 98 O underlying38 O sizeOf35<|az (cs:=bo.nw.cs) O isAgg35 sizeOf35 (Co.len bok.nw) (λw' hw' j v hv=>by have:=(av (n:=2) O w' hw') _ v (Bo.at_nw bok j v hv);rwa [Nat.zero_add]at this) O O<|cj (ps:=[(0,.tmp 11),(1,.tmp 13),(2,.tmp 15)]) (vs:=[.agg bo.hd.cs.toArray,.agg bo.hd.cs.toArray,.agg bo.nw.cs.toArray]) O (λw=>K9 bo.hd bo.hd bo.nw bok.hd bok.hd bok.nw w) O O<|?_
 rw[<-hst];refine Al 3 hGFa zvSt<|λb3=>ai 3 hGFa O O O sizeOf53 (St.len sok) (St.len lz) (St.one _) O<|aa<|Xp<|Al 4 hGFa zvUp<|λb4=>aa<|Xp<|iF 17 [.bool true] (ps:=[(0,.const (.bool true))]) hGFa O O O aC aC underlying65 sizeOf4 zeroValue4 O O O<|λb17=>Fa 597 O underlying71 O sizeOf69<|Fa 597 O underlying69 O sizeOf65<|cC 4 hGFa O O O sizeOf65 O (by rw[Up.len Gg];decide) O<|?_
 rw[show Up0.cs.set 597 (.slice (spt b17) [Value.bool true].length [Value.bool true].length)=(UA b17).cs from Hm b17];refine aa<|Xp<|Fa 694 O underlying71 O sizeOf22<|cC 4 hGFa O O O sizeOf22 O (by rw[Up.len (u:=UA b17) ⟨i2,kt,rfl,i2,rfl,⟨rfl⟩⟩];decide) O<|?_
 rw[show (UA b17).cs.set 694 _=(UB b17).cs from Gf b17];refine Fa 0 O underlying71 O sizeOf30<|Fa 0 O underlying30 O sizeOf22<|cC 4 hGFa O O O sizeOf22 O (by rw[Up.len (u:=UB b17) ⟨i2,kt,rfl,i2,rfl,⟨rfl⟩⟩];decide) O<|?_
 rw[show (UB b17).cs.set 0 _=(nu b17 true).cs from G4 b17];refine aa<|Xd []<|Mv O<|aR O O O<|Fa 2 O underlying61 O sizeOf50<|aP (cs:=cK.cs) O isAgg50 sizeOf50 (Cf.len kC) (λw' h=>hcfg w' (ae h)) O O<|aq 3 O O isAgg53 sizeOf53 (St.len sok) O O<|aq 4 O O isAgg71 sizeOf71 (Up.len (jm b17 true)) O O<|Cc O ent25 (λw' hw' hG=>hR.vE cK st (nu b17 true) 6#64 kC sok (jm _ _) (hvb _ _) tv (by show 1≠0;decide) (by show 6#64<7#64;decide) w' hG (hvm w' b17 true (ae hw') (av (n:=17) O w' hw')))<|Asg O<|aa<|Xd []<|Mv O<|aR O O O<|Fa 2 O underlying61 O sizeOf50<|aP (cs:=cK.cs) O isAgg50 sizeOf50 (Cf.len kC) (λw' h=>hcfg w' (ae h)) O O<|aq 3 O O isAgg53 sizeOf53 (St.len sok) O O<|aq 4 O O isAgg71 sizeOf71 (Up.len (jm b17 true)) O O<|Cc O ent25 (λw' hw' hG=>hR.vW cK st (nu b17 true) 7#64 kC sok (jm _ _) (hvb _ _) tv (by show 1≠0;decide) (by show¬7#64<7#64;decide) (by show 6#64<7#64;decide) (by show¬6#64<0#64;decide) (by rw[sf5,Dd];exact cK_7) (by rw[sf5];show 5#64<6#64;decide) kr O kr kr O w' hG (hvm w' b17 true (ae hw') (av (n:=17) O w' hw')))<|Asg O<|aa<|Xp<|Fa 597 O underlying71 O sizeOf69<|Fa 597 O underlying69 O sizeOf65<|aV 4 O O (show (nu b17 true).cs[597]? =some (.slice (spt b17) 1 1)from by kernel_rfl) isAgg65 O O<|HG 0 O O underlying65 sizeOf4 O aC O O<|cC 17 hGFa O O O sizeOf4 O aC O<|?_
 rw[show [Value.bool true].set 0 (nrm (.bool false))=[Value.bool false]from O,IT b17];refine aa<|Xd []<|Mv O<|aR O O O<|Fa 2 O underlying61 O sizeOf50<|aP (cs:=cK.cs) O isAgg50 sizeOf50 (Cf.len kC) (λw' h=>hcfg w' (ae h)) O O<|Mv O<|Cc O ent11 (λw' hw' hG=>hTr w' (ae hw') hG)<|aq 2 O O isAgg38 sizeOf38 (Bo.len bok) O O<|Cc O ent14 (λw' hw' hG=>hR.beg cK hr bo kC hrl bok om w' hG (m1r.grow (ae hw')))<|?_;rw[show (bif cK.rt then f7 hr bo else 210)=0 from by rw[tv,hB0];rfl]
 refine Bnb true O O (λ_=>bK _ 0 0) O<|Mv O<|Mv O<|aR O O O<|Fa 2 O underlying61 O sizeOf50<|aP (cs:=cK.cs) O isAgg50 sizeOf50 (Cf.len kC) (λw' h=>hcfg w' (ae h)) O O<|cj (ps:=[]) (vs:=[]) (v:=.agg (Z0.map U8).toArray) O (λw=>vK w) O O<|aq 2 O O isAgg38 sizeOf38 (Bo.len bok) O O<|Cc O ent14 (λw' hw' hG=>hR.beg cK Z0 bo kC O bok om w' hG (m1r.grow (ae hw')))<|?_;rw[show (bif cK.rt then f7 Z0 bo else 210)=230 from by rw[tv,hB1];rfl]
 refine Bnb true O O (λ_=>bK _ 230 230) O<|Pk O O O<|Mv O<|Mv O<|Bnb true O O (λ_=>bK _ 233 233) O<|Pk O O O<|Mv O<|Mv O<|Bnb true O O (λ_=>bK _ 238 238) O<|Pk O O O<|Mv O<|Mv O<|aR O O O<|Fa 2 O underlying61 O sizeOf50<|aP (cs:=cK.cs) O isAgg50 sizeOf50 (Cf.len kC) (λw' h=>hcfg w' (ae h)) O O<|aq 3 O O isAgg53 sizeOf53 (St.len sok) O O<|aq 4 O O isAgg71 sizeOf71 (Up.len (jm b17 false)) O O<|Cc O ent25 (λw' hw' hG=>hR.vF cK st (nu b17 false) 7#64 kC sok (jm _ _) (hvb _ _) tv O w' hG (hvm w' b17 false (ae hw') (av (n:=17) O w' hw')))<|Bnb true O O (λ_=>bK _ 232 232) O<|Pk O O O<|Mv O<|aq 4 O O isAgg71 sizeOf71 (Up.len (jm b17 false)) O O<|Cc O ent19 (λw' hw' hG=>hR.isn (nu b17 false) (jm _ _) w' hG)<|?_;rw[show (nu b17 false).isn=false from by kernel_rfl]
 refine bV O (λ_=>bP _) O O<|Pk O O O<|Mv O<|aq 3 O O isAgg53 sizeOf53 (St.len sok) O O<|Cc O ent23 (λw' hw' hG=>hR.kno st sok (by rw[hst];exact Nat.zero_le _) w' hG (by rw[hst];exact H4 _ _))<|?_
 rw[show (!p8 st.nx)=false from by rw[hst];kernel_rfl]
 refine bV O (λ_=>bP _) O O<|Pk O O O<|Asg O<|aa<|ao<|Rr<|?_;exact ar O O (λw' hw'=>⟨rfl,hGa.trans (ae hw')⟩)
end
section
open Go.RowKit
open Sh
theorem Kf(op:BinOp)(x y:Operand)(xs ys:Array Value)(w:World):(eqGuard op 36 x y (.agg xs) (.agg ys)).run prog w=.ok () w:=run_eqGuard_agg w op 36 x y xs ys kr
theorem Jy(op:BinOp)(x y:Operand)(xs ys:Array Value)(w:World):(eqGuard op 64 x y (.agg xs) (.agg ys)).run prog w=.ok () w:=run_eqGuard_agg w op 64 x y xs ys kr
theorem zI(op:BinOp)(x y:Operand)(xs ys:Array Value)(w:World):(eqGuard op 33 x y (.agg xs) (.agg ys)).run prog w=.ok () w:=run_eqGuard_agg w op 33 x y xs ys kr
theorem AI:EqB prog 28 32 2:=ET underlying28 underlying5 sizeOf5 isAgg5
theorem K8:EqB prog 36 160 3:=xw (k:=5) (n:=32) aC underlying36 isAgg28 sizeOf28 AI
theorem JN:EqB prog 64 192 3:=xw (k:=6) (n:=32) aC underlying64 isAgg28 sizeOf28 AI
theorem A0:EqB prog 33 48 2:=ET underlying33 underlying5 sizeOf5 isAgg5
theorem zvT6(w:World):(zeroValue 64).run prog w=.ok (.agg ((Zs 192).map U8).toArray) w:=(zeroValue64 w).trans aE
theorem BC(w:World):(zeroValue 33).run prog w=.ok (.agg ((Zs 48).map U8).toArray) w:=(zeroValue33 w).trans aE
theorem G8{c:Co}{i:Nat}{x:By}(hx:c.ks[i]? =some x)(h:decide (x=(Zs 48))=false):p8 c=false:=by
 unfold p8;rw[Bool.and_eq_false_iff];refine .inl (Bool.eq_false_iff.2 λh1=> ?_);have h2:=List.all_eq_true.1 h1 x (List.mem_of_getElem? hx);rw[h]at h2
 cases h2
theorem CY{c:Co}(h: ∀j r,j<c.ks.length->c.ks[j]? =some r->r=(Zs 48)):p8 c=decide (c.sum=(Zs 48)):=by
 unfold p8;rw[show c.ks.all (λk=>decide (k=(Zs 48)))=true from List.all_eq_true.2 λx hx=>by
  obtain ⟨j,hj,rfl⟩:=List.mem_iff_getElem.1 hx;exact decide_eq_true (h j _ hj (List.getElem?_eq_getElem hj)),Bool.true_and]
theorem St.at_nx{s:St}(k:s.Ok)(j:Nat)(v:Value)(h:s.nx.cs[j]? =some v):s.cs[245+j]? =some v:=by
 rw[St.cs,List.getElem?_append_right (by rw[Hd.len k.f];omega),Hd.len k.f,List.getElem?_append_right (by rw[Hd.len k.o];omega),Hd.len k.o,List.getElem?_append_right (by rw[Co.len k.nw];omega),Co.len k.nw,show 245+j-98-98-49=j from by omega,List.getElem?_append_left (List.getElem?_eq_some_iff.1 h).1];exact h
theorem St.at_nw{s:St}(k:s.Ok)(j:Nat)(v:Value)(h:s.nw.cs[j]? =some v):s.cs[196+j]? =some v:=by
 rw[St.cs,List.getElem?_append_right (by rw[Hd.len k.f];omega),Hd.len k.f,List.getElem?_append_right (by rw[Hd.len k.o];omega),Hd.len k.o,show 196+j-98-98=j from by omega,List.getElem?_append_left (List.getElem?_eq_some_iff.1 h).1];exact h
theorem s7(l:List Bool)(i:Nat)(b:Bool)(h:l[i]? =some b):onN (l.take (i+1))=onN (l.take i)+b.toNat:=by
 unfold onN;rw[List.take_add_one,h,List.filter_append,List.length_append]
 cases b<;>rfl
theorem z0(l:List Bool):onN l<=l.length:=List.length_filter_le _ _
end
section
open Go.RowKit
open Sh
end
section
open Go.RowKit
open Sh
theorem Up.at_s{u:Up}:u.cs[0]? =some (U64 u.at_.s):=Up.l1 0 _ O
theorem Up.at_f{u:Up}(k:u.Ok):u.cs[307]? =some (U64 u.fi.s):=Up.l4 k 0 _ O
theorem m3(a b:BitVec 64):(a==b)=decide (a=b):=rfl
end
section
open Go.RowKit
open Sh
end
section
open Go.RowKit
open Sh
section
variable (x y z f:BitVec 64) (p q r:BitVec 8) (l m:List Bool) (a b:Option Addr) (c d:Nat)
end
theorem i6{P:Program}{s d:TypeId}{sd:TypeDesc}(hs:P.underlying s=some sd)(hd:P.underlying d=some (.int .u64))(x:Int){w:World}:(convert s d (.int .u16 x)).run P w=.ok (U64 (BitVec.ofInt 64 x)) w:=by
 rw[iX hs hd];have:IntKind.wrap .u64 x=((BitVec.ofInt 64 x).toNat:Int):=by
  simp only[IntKind.wrap,IntKind.signed,IntKind.bits,Bool.false_and];rw[if_neg aB,BitVec.toNat_ofInt,Int.toNat_of_nonneg (Int.emod_nonneg _ aC)];rfl
 rw[this];rfl
end
section
open Go.RowKit
open Sh
theorem OwnB.uniq{w:World}{b:Nat}{c d:List Value}{t u:TypeId}(h:OwnB w b c t)(k:OwnB w b d u):c=d:=by
 obtain ⟨f,h1,_⟩:=h;obtain ⟨g,k1,_⟩:=k;rw[h1]at k1;injection k1 with k1
 injection k1 with k1 _ _
 have h2:=congrArg Array.toList k1;simpa using h2
def lr(bs:By)(n:Nat):List By:=(List.range n).map λj=>(bs.drop (48*j)).take 48
theorem yA(bs:By)(n:Nat):(lr bs n).length=n:=by simp[lr]
theorem xQ{bs:By}{n:Nat}(h:bs.length=n*48): ∀r∈lr bs n,r.length=48:=λr hr=>by
 obtain ⟨i,hi,rfl⟩:=List.mem_map.1 hr;have:=List.mem_range.1 hi;rw[List.length_take,List.length_drop];omega
theorem pg: ∀(n:Nat) (bs:By),bs.length=n*48->(lr bs n).flatten=bs
 |0,bs,h=>by
  have:bs=[]:=List.eq_nil_of_length_eq_zero om;subst this;rfl
 |n+1,bs,h=>by
  have ih:=pg n (bs.drop 48) (by rw[List.length_drop];omega)
  have e:lr bs (n+1)=bs.take 48::lr (bs.drop 48) n:=by
   rw[lr,List.range_succ_eq_map,List.map_cons,List.map_map,Nat.mul_zero,List.drop_zero,lr];congr 1;refine List.map_congr_left λj _=> ?_;show (bs.drop (48*(j+1))).take 48=((bs.drop 48).drop (48*j)).take 48;rw[List.drop_drop,show 48*(j+1)=48+48*j from by omega]
  rw[e,List.flatten_cons,ih,List.take_append_drop]
def ofB(a:Option Addr)(b:Nat):Bool:=match a with
 |some ad=>decide (b=ad.block)
 |none=>false
theorem wo{a:Option Addr}{b:Nat}:ofB a b=true↔Of a b:=by
 cases a with
 |none=>exact ⟨λh=>(by cases h),λ⟨_,h,_⟩=>(by cases h)⟩
 |some ad=>exact ⟨λh=>⟨ad,rfl,of_decide_eq_true h⟩,λ⟨_,h,h2⟩=>by cases h;exact decide_eq_true h2⟩
def Co.chg(b i:Nat)(x:BitVec 8)(m:Co):Co:=if ofB m.ka b=true then ⟨lr (m.ks.flatten.set i x) m.ks.length,m.ka,m.kc,m.sum⟩else m
theorem E6{b i:Nat}{x:BitVec 8}{m:Co}(h:Of m.ka b):m.chg b i x=⟨lr (m.ks.flatten.set i x) m.ks.length,m.ka,m.kc,m.sum⟩:=if_pos (wo.2 h)
theorem EK{b i:Nat}{x:BitVec 8}{m:Co}(h: ¬Of m.ka b):m.chg b i x=m:=if_neg (λe=>h (wo.1 e))
theorem sr(b i:Nat)(x:BitVec 8)(m:Co):(m.chg b i x).ka=m.ka:=by unfold Co.chg;split<;>rfl
theorem vo(b i:Nat)(x:BitVec 8)(m:Co):(m.chg b i x).kc=m.kc:=by unfold Co.chg;split<;>rfl
theorem wi(b i:Nat)(x:BitVec 8)(m:Co):(m.chg b i x).sum=m.sum:=by unfold Co.chg;split<;>rfl
theorem ts(b i:Nat)(x:BitVec 8)(m:Co):(m.chg b i x).ks.length=m.ks.length:=by
 unfold Co.chg;split
 ·exact yA _ _
 ·rfl
theorem AU(b i:Nat)(x:BitVec 8)(m:Co):(m.chg b i x).cs=m.cs:=by
 unfold Co.cs;rw[sr,vo,wi,ts]
theorem r7: ∀(ks:List By),(∀r∈ks,r.length=48)->ks.flatten.length=ks.length*48
 |[],_=>rfl
 |k::l,h=>by
  rw[List.flatten_cons,List.length_append,h k List.mem_cons_self,r7 l (λr hr=>h r (List.mem_cons_of_mem _ hr)),List.length_cons];omega
theorem Ai{b i:Nat}{x:BitVec 8}{m:Co}(hk:m.Ok)(h:Of m.ka b):(m.chg b i x).ks.flatten=m.ks.flatten.set i x:=by
 rw[E6 h];exact pg _ _ (by rw[List.length_set];exact r7 _ hk.ks)
theorem HA{b i:Nat}{x:BitVec 8}{m:Co}(hk:m.Ok):(m.chg b i x).Ok:=by
 refine ⟨?_,by rw[wi];exact hk.sum,by rw[ts,vo];exact hk.n⟩
 by_cases h:Of m.ka b
 ·rw[E6 h]
  exact xQ (by rw[List.length_set];exact r7 _ hk.ks)
 ·rw[EK h];exact hk.ks
theorem GR{w w':World}{b i:Nat}{x:BitVec 8}{m:Co}{cc:List Value}(hk:m.Ok)(ho:OwnB w b cc 33)(ho':OwnB w' b (cc.set i (U8 x)) 33)(hm:MM (λk=>k=b) w w')(h:SlW 33 48 w m.ka m.kc m.ks.length (m.ks.flatten.map U8)):
 SlW 33 48 w' (m.chg b i x).ka (m.chg b i x).kc (m.chg b i x).ks.length ((m.chg b i x).ks.flatten.map U8):=by
 by_cases hb:Of m.ka b
 ·rw[sr,vo,ts,Ai hk hb]
  obtain ⟨ad,e,hb2⟩:=hb;rcases h with ⟨h1,_⟩|⟨b1,c1,h1,h2,h3,h4,h5,h6⟩
  ·rw[h1]at e;cases e
  ·rw[h1]at e
   cases e
   have hb3:b=b1:=hb2;subst hb3;have hc:=h2.uniq ho;subst hc;exact .inr ⟨b,_,h1,ho',by rw[List.length_set];exact h3,h4,by rw[List.length_map,List.length_set];rw[List.length_map]at h5;exact h5,by rw[List.length_map,List.length_set,List.take_set];rw[List.length_map]at h6;rw[h6];exact jc .. ⟩
 ·rw[EK hb]
  exact h.mm hm (λk hk x=>hb (x▸hk))
def Cn.chg(c:Cn)(b i:Nat)(x:BitVec 8):Cn:=⟨c.bc,c.bw,c.bm,c.cf,c.sd,c.aA,c.cA,c.ats,c.aD,c.cD,c.ms.map (Co.chg b i x),c.aK,c.cK,c.nK,c.xK,c.aS,c.cS,c.nS,c.xS,c.tx,c.px⟩
theorem pP(f:Co->Co){q:BitVec 64}: ∀(us:L6) (ms:List Co),cq us (ms.map f) q=(cq us ms q).map f
 |a::us,m::ms=>by
  rw[List.map_cons,cq,cq];by_cases e:a=q
  ·rw[if_pos e,if_pos e];rfl
  ·rw[if_neg e,if_neg e];exact pP f us ms
 |[],ms=>by cases ms<;>rfl
 |_::_,[]=>rfl
theorem xv(b i:Nat)(x:BitVec 8): ∀ms:List Co,(ms.map (Co.chg b i x)).flatMap Co.cs=ms.flatMap Co.cs
 |[]=>rfl
 |m::ms=>by rw[List.map_cons,List.flatMap_cons,List.flatMap_cons,AU,xv b i x ms]
theorem BW{w w':World}{c:Cn}{b i:Nat}{x:BitVec 8}{cc:List Value}(h:ChAt w c)(hb: ¬c.own b)(hbm:c.bm≠b)(ho:OwnB w b cc 33)(ho':OwnB w' b (cc.set i (U8 x)) 33)(hm:MM (λk=>k=b) w w'):ChAt w' (c.chg b i x):=by
 have hcs:(c.chg b i x).cs=c.cs:=by
  unfold Cn.cs Cn.chg;dsimp only;rw[List.length_map]
 have hn: ∀k,c.own k->k≠b:=λk hk e=>hb (e▸hk);have hkw: ∀m∈(c.chg b i x).ms,SlW 33 48 w' m.ka m.kc m.ks.length (m.ks.flatten.map U8)/\∀k,Of m.ka k->6<=k:=λm hmm=>by
  obtain ⟨m0,h0,rfl⟩:=List.mem_map.1 hmm;exact ⟨GR (h.ks m0 h0).1 ho ho' hm (h.kw m0 h0).1,by rw[sr];exact (h.kw m0 h0).2⟩
 refine ⟨by rw[hcs];exact hm.own h.oc (hn _ (.inl O)),hm.own h.ow (hn _ (.inr (.inl O))),h.oA.mm hm (λad e=>hn _ (.inr (.inr (.inl ⟨ad,e,rfl⟩)))), ?_,h.oK.mm hm (λk hk=>hn _ (.inr (.inr (.inr (.inr (.inl hk)))))),h.oS.mm hm (λk hk=>hn _ (.inr (.inr (.inr (.inr (.inr hk)))))),
  λm hmm=> ?_,hm.own h.mkr hbm,h.cf,h.d1,h.dA,h.dD,h.dK,h.dS,h.dm,h.low,h.one,by show c.ats.length=(c.ms.map _).length;rw[List.length_map];exact h.ln,hkw⟩
 ·show SlW 35 49 w' c.aD c.cD (c.ms.map (Co.chg b i x)).length ((c.ms.map (Co.chg b i x)).flatMap Co.cs)
  rw[List.length_map,xv];exact h.oD.mm hm (λk hk=>hn _ (.inr (.inr (.inr (.inl hk)))))
 ·have hw:=(hkw m hmm).1
  obtain ⟨m0,h0,rfl⟩:=List.mem_map.1 hmm;have hok:=HA (b:=b) (i:=i) (x:=x) (h.ks m0 h0).1;refine ⟨hok,oO hw O hok.ks,λk hk=> ?_⟩;rw[sr]at hk;exact ⟨((h.ks m0 h0).2.2 k hk).1,Nat.lt_of_lt_of_le ((h.ks m0 h0).2.2 k hk).2 hm.size⟩
end
section
open Go.RowKit
open Sh
theorem GJ(sd:BitVec 64)(k:Int):(smC sd k 1 1).rt=true:=by
 have h1:=nf (k:=k) (n:=4) aC;have h2:=mV (k:=k) (n:=4) aC;show (gE (smW 1) && (gE (smW 1) && gJ ((smN k:Nat):Int)))=true;unfold smN;rcases (by omega:plc k 4=0\/plc k 4=1\/plc k 4=2\/plc k 4=3)with h|h|h|h<;>rw[h]<;>decide+kernel
theorem GC(sd:BitVec 64)(k:Int):(smC sd k 1 1).Ok:=kD _ _ _ _ _ _ aC aC
theorem Mx{b:Bo}(k:b.Ok){j:Nat}(hj:j<160)(v:BitVec 8):b.cs.set (147+j) (U8 v)=Bo.cs ⟨b.hd,b.nw,b.br.set j v⟩:=by
 rw[Bo.cs,List.set_append_right _ _ (by rw[Hd.len k.hd];omega),Hd.len k.hd,List.set_append_right _ _ (by rw[Co.len k.nw];omega),Co.len k.nw,show 147+j-98-49=j from by omega,jc]
 rfl
theorem Hh{b:Bo}(k:b.Ok)(v:BitVec 8):b.cs.set 104 (U8 v)=Bo.cs ⟨b.hd,⟨b.nw.ks,b.nw.ka,b.nw.kc,b.nw.sum.set 5 v⟩,b.br⟩:=by
 rw[Bo.cs,List.set_append_right _ _ (by rw[Hd.len k.hd];decide),Hd.len k.hd,List.set_append_left _ _ (by rw[Co.len k.nw];decide)]
 show _++((_::(b.nw.sum.map U8).set 5 (U8 v))++_)=_;rw[jc];rfl
theorem Ds{cc:List Value}{l:By}{n i:Nat}{x:BitVec 8}(h:cc.take n=l.map U8)(hx:l[i]? =some x):cc[i]? =some (U8 x):=by
 have h9:(l.map U8)[i]? =some (U8 x):=by rw[List.getElem?_map,hx];rfl
 rw[<-h,List.getElem?_take]at h9;split at h9
 ·exact h9
 ·cases h9
def Bo.pp(b:Bo)(v:BitVec 64):Bo:=⟨⟨b.hd.s,v,b.hd.a,b.hd.b,b.hd.c⟩,b.nw,b.br⟩
theorem My{b:Bo}(k:b.Ok)(v:BitVec 64):(b.pp v).Ok:=⟨⟨k.hd.a,k.hd.b,k.hd.c⟩,k.nw,k.br⟩
theorem K1(b:Bo)(v:BitVec 64):b.cs.set 1 (U64 v)=(b.pp v).cs:=rfl
theorem MQ(b:Bo):b.cs[1]? =some (U64 b.hd.p):=rfl
theorem kX{bw bm:Option Addr}{cf:Cf}{tr t:By}{st:St}{x y:Bool}(hc:cf.Ok)(h:tr.length=32)(h2:t.length=32):lay 41 (t.map U8) (MDV bw bm cf tr st x y)=MDV bw bm cf t st x y:=by
 have h:=oH (pre:=.pointer bw:: .pointer bm::cf.cs) (mid:=tr.map U8) (post:=st.cs++[.bool x,.bool y]) (x:=t.map U8) (k:=41) (by rw[List.length_cons,List.length_cons,Cf.len hc]) (by rw[List.length_map,List.length_map,h,h2])
 exact h
theorem yv(hR:RulesP)(sd0:BitVec 64)(k spo pla t:Int)(T:BitVec 64)(hT:T=BitVec.ofInt 64 t)(w:World)(hw:Gt w):CLS 3 [U64 sd0,I k,.int .u16 t,I spo,I pla].toArray w (λe w'=>e=.returned (.bool true)/\Grow w w'):=by
 refine Hf func3 O hw<|λhGF=>am (E:=EE [9])<|Asg O<|aa<|ah<|am (E:=EE [9])<|Cc O ent8 (λw' _ hG=>DZ hR w' hG)<|bV O (λ_=>bP _) O O<|aa<|aH O<|aw<|am (E:=EE [9])<|Mv O<|Bnr (v:=U64 (sd0 % 64#64)) O O (λ_=>fg _ _ _ aC)<|Mv O<|?_;obtain ⟨sd,hsd0⟩: ∃x,sd0 % 64#64=x:=⟨_,rfl⟩;rw[hsd0];refine cn O O ent9 O O (λw' hw'=>(ui sd k 1 1 w' (hGF.g _ _ _ hw')).mono λe w'' h=> ?_);obtain ⟨bc,bw,bm,rfl,hg,hch,z1,z2⟩:=h;have y1:=Nat.le_trans (ae hw').size z1;have y2:=Nat.le_trans (ae hw').size z2;obtain ⟨cS,hcS⟩: ∃x,smC sd k 1 1=x:=⟨_,rfl⟩;have cSok:cS.Ok:=by rw[<-hcS];exact GC sd k
 have cSrt:cS.rt=true:=by rw[<-hcS];exact GJ sd k
 have cSz:cS.z=(smN k:Int):=by rw[<-hcS];rfl
 have hn8:=Iq k;have hn1:=DS k;rw[hcS]at hch;refine ⟨_,(λw''=>Hp (pl w) [] w''/\ChAt w'' (cN bc bw bm cS sd)),rfl,bQ (aU hGF) (λ_ _ x g=>x.grow g),⟨hw'.grow aJ hg,hch⟩, ?_⟩;clear hw' hg hch;refine Asg O<|aa<|?_;obtain ⟨c0,hc0⟩: ∃x,cN bc bw bm cS sd=x:=⟨_,rfl⟩;obtain ⟨N,hN⟩: ∃x,smN k=x:=⟨_,rfl⟩;rw[hN]at cSz hn8 hn1;have hbc:c0.bc=bc:=by rw[<-hc0];rfl
 have hcf:c0.cf=cS:=by rw[<-hc0];rfl
 have hsd:c0.sd=sd:=by rw[<-hc0];rfl
 have how: ∀k,c0.own k->w.heap.size<=k:=λk hk=>by rw[<-hc0]at hk;rcases An hk with rfl|rfl;exact y1;exact y2
 have hTB: ∀w',Gt w'->ChAt w' c0->CLS 10 [pnt bc,U64 T].toArray w' (λe w2=> ∃v,e=.returned v/\MM c0.own w' w2/\zu c0 T N w' w2 v):=λw' g hc=>by have h:=FZ c0 T N (by rw[hcf];exact cSz) om (by rw[<-hc0];exact Nat.zero_le _) (by rw[<-hc0];exact Nat.zero_le _) (by rw[<-hc0];exact Nat.zero_le _) (λm hm=>by rw[<-hc0]at hm;cases hm) w' g hc;rw[hbc]at h;exact h
 refine eR gt_low (λw1 hC1 gw1=> ?_);rw[hc0]at hC1;have hG1:Grow w w1:=ae hC1.1;have ch1:=hC1.2;have hGF1:=gt_low.plain gw1;clear hC1;refine am (E:=EE [10])<|Mv O<|Mv O<|bI (v:=U64 T) O O (λw'=>by rw[hT];exact i6 underlying23 underlying22 t) O O<|?_
 refine ff gt_low (M:=c0.own) ch1.low O O ent10 O O hGF1 (Q:=zu c0 T N) (λw' h g'=>hTB w' g' (ch1.grow h)) (λw2a wa v g12 hm2 ga hq=> ?_);obtain ⟨d,m1,m2,rfl,cha,exa,hla,k1,k2⟩:=hq;have hGFa:=gt_low.plain ga;have hGa:Grow w wa:=hm2.grow0 (hG1.trans g12) how;rw[hcf]at k1 k2;rw[hsd];have hm1:=il _ _ k1;obtain ⟨m1ok,m1r,m1u⟩:=cha.ks m1 hm1;have m1l:=hla m1 hm1;have m1w:=cha.kw m1 hm1;have dcf:d.cf=cS:=exa.cf.trans hcf;have dsd:d.sd=sd:=exa.sd.trans hsd;have dbc:d.bc=bc:=exa.bc.trans hbc;have dbm:d.bm=bm:=exa.bm.trans (by rw[<-hc0];rfl)
 have bok:(BOV sd T m1 m2 N).Ok:=zP m1ok;have bnw:(BOV sd T m1 m2 N).nw=m1:=rfl;have qK:=exa.nK;have qS:=exa.nS;have qA:=exa.nA;have zK:c0.nK=0:=by rw[<-hc0];rfl
 have zS:c0.nS=0:=by rw[<-hc0];rfl
 have zA:c0.ats.length=0:=by rw[<-hc0];rfl
 have hTr: ∀w',Grow wa w'->Gt w'->CLS 11 [pnt bc,U64 T].toArray w' (λe w''=>e=.returned (.agg ((HDV sd T Z0 (m1.rt N) (m2.rt N)).rt.map U8).toArray)/\Grow w' w''):=λw' h g'=>by have h1:=m9 d T N m1 m2 (by rw[dcf];exact k1) (by rw[dcf];exact k2) (by rw[dcf];exact cSz) om om om om hla w' g' (cha.grow h);rw[dbc,dsd]at h1;exact h1
 obtain ⟨t0,ht0⟩: ∃x,(HDV sd T Z0 (m1.rt N) (m2.rt N)).rt=x:=⟨_,rfl⟩;have t0l:t0.length=32:=by rw[<-ht0];exact Hd.rt_len (iu _ _ (Co.rt_len _ _) (Co.rt_len _ _))
 rw[ht0]at hTr;generalize BOV sd T m1 m2 N=bo at bok bnw⊢;refine Mv O<|Mv O<|bI (v:=U64 T) O O (λw'=>by rw[hT];exact i6 underlying23 underlying22 t) O O<|Cc O ent11 (λw' hw' hG=>hTr w' (ae hw') hG)<|Al 12 hGFa Ew<|λb12=>Al 13 hGFa Je<|λb13=>ai 12 hGFa O O O sizeOf38 (Bo.len bok) O (Bo.one _) O<|ai 13 hGFa O O O sizeOf28 (by rw[List.length_map];exact t0l) O (bg _) O<|aa<|ah<|Xp<|Mv O<|Ca O (oo spo 6 aC aC)<|?_
 obtain ⟨pk,hpk⟩: ∃x,plc spo 6=x:=⟨_,rfl⟩;rw[hpk];refine aa<|au<|Xp<|?_;rcases Bool.eq_false_or_eq_true (pk==1)with hq|hq
 ·refine Bnb true O O (λ_=>bK _ pk 1) (hq)<|Asg O<|aa<|aQ O<|Xq<|Fa 0 O underlying38 O sizeOf30<|Fa 1 O underlying30 O sizeOf22<|aV 12 O O (MQ bo) isAgg22 O O<|Bnr (v:=U64 (bo.hd.p+1#64)) O O (λ_=>aM _ _ 1#64)<|Fa 0 O underlying38 O sizeOf30<|Fa 1 O underlying30 O sizeOf22<|cC 12 hGFa O O O sizeOf22 O (by rw[Bo.len bok];decide) O<|?_
  rw[K1];refine aa ?_;obtain ⟨bf,hbf⟩: ∃yy:Bo,yy=bo.pp (bo.hd.p+1#64):=⟨_,rfl⟩;have bfk:bf.Ok:=by rw[hbf];exact My bok _
  obtain ⟨tf,htf⟩: ∃yy:Rt,yy=t0:=⟨_,rfl⟩;have tfl:tf.length=32:=by rw[htf];exact t0l
  refine eR gt_low (λw3 hC3 g3=> ?_);have hG3:Grow wa w3:=ae hC3;have o12:OwnB w3 b12 bf.cs 38:=by rw[hbf];exact (hC3.own 12 _ _ _ O).1
  have o13:OwnB w3 b13 (tf.map U8) 28:=by rw[htf];exact (hC3.own 13 _ _ _ O).1
  have hr3:RwsAt 48 w3 bf.nw.ka bf.nw.ks:=by rw[hbf];show RwsAt 48 w3 bo.nw.ka bo.nw.ks;rw[bnw];exact m1r.grow hG3
  have hl3:bf.nw.ks.length<=1000:=by rw[hbf];show bo.nw.ks.length<=1000;rw[bnw];omega
  obtain ⟨df,hdf⟩: ∃x:Cn,x=d:=⟨_,rfl⟩;have cht:ChAt w3 df:=by rw[hdf];exact cha.grow hG3
  have hga:Grow w w3:=hGa.trans hG3;have fcf:df.cf=cS:=by rw[hdf];exact dcf
  have fbc:df.bc=bc:=by rw[hdf];exact dbc
  have fbm:df.bm=bm:=by rw[hdf];exact dbm
  have fK:df.nK<=400000:=by rw[hdf];omega
  have fS:df.nS<=400000:=by rw[hdf];omega
  have fA:df.ats.length<=400000:=by rw[hdf];omega
  have fla: ∀m∈df.ms,m.ks.length=N:=by rw[hdf];exact hla
  obtain ⟨f1,fk1⟩: ∃m,cq df.ats df.ms (df.cf.pe T)=some m:=⟨m1,by rw[fcf,hdf];exact k1⟩
  obtain ⟨f2,fk2⟩: ∃m,cq df.ats df.ms (df.cf.pe T+1#64)=some m:=⟨m2,by rw[fcf,hdf];exact k2⟩
  clear hC3;have hGF3:=gt_low.plain g3;have hMo: ∀w',Gt w'->Grow w3 w'->CLS 13 [pnt bc,U64 T].toArray w' (λe w''=> ∃b tr,e=.returned (pnt b)/\Grow w' w''/\w'.heap.size<=b/\tr.length=32/\OwnB w'' b (MDV (spt df.bw) (spt bm) cS tr St0 false false) 55):=λw' g' h=>by have h1:=iN df T N f1 f2 fk1 fk2 (by rw[fcf];exact cSz) om fK fS fA fla w' g' (cht.grow h);rw[fbc]at h1;exact h1.mono λe w'' ⟨b,h2,h3,h4,h5⟩=>⟨b,_,h2,h3,h4,Hd.rt_len (iu _ _ (Co.rt_len _ _) (Co.rt_len _ _)),by rw[fbm,fcf]at h5;exact h5⟩
  refine am (E:=EE [13])<|Mv O<|Mv O<|bI (v:=U64 T) O O (λw'=>by rw[hT];exact i6 underlying23 underlying22 t) O O<|?_
  refine cn O O ent13 O O (λw' hw'=>(hMo w' (hGF3.g _ _ _ hw') (ae hw')).mono λe w'' h=> ?_);obtain ⟨b89,tm,rfl,hg,hbn,htl,hob⟩:=h;refine ⟨_,_,rfl,aU hGF3,hw'.news aJ hg [(89,b89,MDV (spt df.bw) (spt bm) cS tm St0 false false,55)] ?_ cE, ?_⟩
  ·exact λn' b' c' t' hl=>(bx hl).elim (λ⟨_,e⟩=>by cases e;exact ⟨hbn,hob⟩) (λ⟨_,hl⟩=>by cases hl)
  clear hw' hg hbn hob;refine Asg O<|aa<|Xp<|Mv O<|aP (cs:=tf.map U8) O isAgg28 sizeOf28 (by rw[List.length_map];exact tfl) (λw' h j v hv=>by have:=(o13.grow (ae h)).range j v hv;rwa [Addr.add_mid]) O O<|aR O O O<|Fa 41 O underlying55 O sizeOf28<|dP 89 _ hGF3 O O O sizeOf28 (by rw[List.length_map];exact tfl) (bg _) (by rw[lh cSok htl lz,List.length_map,tfl];decide) (kX cSok htl tfl) O<|aa<|Xd []<|Mv O<|aR O O O<|Fa 2 O underlying61 O sizeOf50<|?_
  refine aP (cs:=cS.cs) O isAgg50 sizeOf50 (Cf.len cSok) (λw' h j v hv=>by rw[Addr.add_mid,<-fbc];exact ((cht.grow (ae h)).oc.cell _).trans ((Cn.at_cf cht.cf j (by have:=(List.getElem?_eq_some_iff.1 hv).1;rwa [Cf.len cSok]at this)).trans (by rw[fcf];exact hv))) O O ?_
  refine aP (cs:=tf.map U8) O isAgg28 sizeOf28 (by rw[List.length_map];exact tfl) (λw' h j v hv=>by have:=(o13.grow (ae h)).range j v hv;rwa [Addr.add_mid]) O O<|aP (cs:=bf.cs) O isAgg38 sizeOf38 (Bo.len bfk) (λw' h j v hv=>by have:=(o12.grow (ae h)).range j v hv;rwa [Addr.add_mid]) O O<|Cc O ent14 (λw' hw' hG=>hR.beg cS tf bf cSok tfl bfk hl3 w' hG (hr3.grow (ae hw')))<|?_
  obtain ⟨z,hz⟩: ∃x,f7 tf bf=x:=⟨_,rfl⟩;rw[show (bif cS.rt then f7 tf bf else 210)=z from by rw[cSrt,hz];rfl]
  refine Mv O<|aP (cs:=bf.cs) O isAgg38 sizeOf38 (Bo.len bfk) (λw' h j v hv=>by have:=(o12.grow (ae h)).range j v hv;rwa [Addr.add_mid]) O O<|Cc O ent15 (λw' hw' hG=>gQ b89 bm (spt df.bw) cS cSok tf tfl St0 false false bf bfk hl3 w' hG (hw'.own 89 _ _ _ O).1 (by have:=(cht.grow (ae hw')).mkr;rw[fbm]at this;exact this) (hr3.grow (ae hw')))<|?_
  rw[hz];refine Bnb true O O (λ_=>bK _ z z) aB<|Asg O<|aa<|ao<|Rr<|?_;exact ar O O (λw' hw'=>⟨rfl,hga.trans (ae hw')⟩)
 ·refine Bnb false O O (λ_=>bK _ pk 1) (hq)<|Asg O<|aa<|aH O<|Xp<|?_
  rcases Bool.eq_false_or_eq_true (pk==2)with hq|hq
  ·refine Bnb true O O (λ_=>bK _ pk 2) (hq)<|Asg O<|aa<|aQ O<|Xe []<|Mv O<|Ca O (oo pla 5 aC aC)<|?_
   obtain ⟨kk,hkk⟩: ∃k:Nat,plc pla 5=(k:Int):=⟨(plc pla 5).toNat,by have:=mV (k:=pla) (n:=5) aC;omega⟩
   have hk6:kk<5:=by have:=nf (k:=pla) (n:=5) aC;omega
   rw[hkk];obtain ⟨x,hx⟩: ∃x,bo.br[32*kk+9]? =some x:=⟨_,List.getElem?_eq_getElem (by rw[bok.br];omega)⟩
   refine Fa 147 O underlying38 O sizeOf36<|iw kk (147+kk*32) O O underlying36 sizeOf28 O om O O O<|iw 9 (147+(32*kk+9)) O O underlying28 sizeOf5 O aC om O O<|?_;refine aV 12 O O (Bo.at_br bok (32*kk+9) (U8 x) (by rw[List.getElem?_map,hx];rfl)) isAgg5 O O ?_
   refine Bnr (v:=U8 (x^^^2#8)) O O (λ_=>jS _ x 2#8)<|Fa 147 O underlying38 O sizeOf36<|iw kk (147+kk*32) O O underlying36 sizeOf28 O om O O O<|iw 9 (147+(32*kk+9)) O O underlying28 sizeOf5 O aC om O O<|cC 12 hGFa O O O sizeOf5 O (by rw[Bo.len bok];omega) O<|?_
   rw[Mx bok om];refine aa ?_;obtain ⟨bf,hbf⟩: ∃yy:Bo,yy=⟨bo.hd,bo.nw,bo.br.set (32*kk+9) (x^^^2#8)⟩:=⟨_,rfl⟩;have bfk:bf.Ok:=by rw[hbf];exact ⟨bok.hd,bok.nw,by rw[List.length_set];exact bok.br⟩
   obtain ⟨tf,htf⟩: ∃yy:Rt,yy=t0:=⟨_,rfl⟩;have tfl:tf.length=32:=by rw[htf];exact t0l
   refine eR gt_low (λw3 hC3 g3=> ?_);have hG3:Grow wa w3:=ae hC3;have o12:OwnB w3 b12 bf.cs 38:=by rw[hbf];exact (hC3.own 12 _ _ _ O).1
   have o13:OwnB w3 b13 (tf.map U8) 28:=by rw[htf];exact (hC3.own 13 _ _ _ O).1
   have hr3:RwsAt 48 w3 bf.nw.ka bf.nw.ks:=by rw[hbf];show RwsAt 48 w3 bo.nw.ka bo.nw.ks;rw[bnw];exact m1r.grow hG3
   have hl3:bf.nw.ks.length<=1000:=by rw[hbf];show bo.nw.ks.length<=1000;rw[bnw];omega
   obtain ⟨df,hdf⟩: ∃x:Cn,x=d:=⟨_,rfl⟩;have cht:ChAt w3 df:=by rw[hdf];exact cha.grow hG3
   have hga:Grow w w3:=hGa.trans hG3;have fcf:df.cf=cS:=by rw[hdf];exact dcf
   have fbc:df.bc=bc:=by rw[hdf];exact dbc
   have fbm:df.bm=bm:=by rw[hdf];exact dbm
   have fK:df.nK<=400000:=by rw[hdf];omega
   have fS:df.nS<=400000:=by rw[hdf];omega
   have fA:df.ats.length<=400000:=by rw[hdf];omega
   have fla: ∀m∈df.ms,m.ks.length=N:=by rw[hdf];exact hla
   obtain ⟨f1,fk1⟩: ∃m,cq df.ats df.ms (df.cf.pe T)=some m:=⟨m1,by rw[fcf,hdf];exact k1⟩
   obtain ⟨f2,fk2⟩: ∃m,cq df.ats df.ms (df.cf.pe T+1#64)=some m:=⟨m2,by rw[fcf,hdf];exact k2⟩
   clear hC3;have hGF3:=gt_low.plain g3;have hMo: ∀w',Gt w'->Grow w3 w'->CLS 13 [pnt bc,U64 T].toArray w' (λe w''=> ∃b tr,e=.returned (pnt b)/\Grow w' w''/\w'.heap.size<=b/\tr.length=32/\OwnB w'' b (MDV (spt df.bw) (spt bm) cS tr St0 false false) 55):=λw' g' h=>by have h1:=iN df T N f1 f2 fk1 fk2 (by rw[fcf];exact cSz) om fK fS fA fla w' g' (cht.grow h);rw[fbc]at h1;exact h1.mono λe w'' ⟨b,h2,h3,h4,h5⟩=>⟨b,_,h2,h3,h4,Hd.rt_len (iu _ _ (Co.rt_len _ _) (Co.rt_len _ _)),by rw[fbm,fcf]at h5;exact h5⟩
   refine am (E:=EE [13])<|Mv O<|Mv O<|bI (v:=U64 T) O O (λw'=>by rw[hT];exact i6 underlying23 underlying22 t) O O<|?_
   refine cn O O ent13 O O (λw' hw'=>(hMo w' (hGF3.g _ _ _ hw') (ae hw')).mono λe w'' h=> ?_);obtain ⟨b89,tm,rfl,hg,hbn,htl,hob⟩:=h;refine ⟨_,_,rfl,aU hGF3,hw'.news aJ hg [(89,b89,MDV (spt df.bw) (spt bm) cS tm St0 false false,55)] ?_ cE, ?_⟩
   ·exact λn' b' c' t' hl=>(bx hl).elim (λ⟨_,e⟩=>by cases e;exact ⟨hbn,hob⟩) (λ⟨_,hl⟩=>by cases hl)
   clear hw' hg hbn hob;refine Asg O<|aa<|Xp<|Mv O<|aP (cs:=tf.map U8) O isAgg28 sizeOf28 (by rw[List.length_map];exact tfl) (λw' h j v hv=>by have:=(o13.grow (ae h)).range j v hv;rwa [Addr.add_mid]) O O<|aR O O O<|Fa 41 O underlying55 O sizeOf28<|dP 89 _ hGF3 O O O sizeOf28 (by rw[List.length_map];exact tfl) (bg _) (by rw[lh cSok htl lz,List.length_map,tfl];decide) (kX cSok htl tfl) O<|aa<|Xd []<|Mv O<|aR O O O<|Fa 2 O underlying61 O sizeOf50<|?_
   refine aP (cs:=cS.cs) O isAgg50 sizeOf50 (Cf.len cSok) (λw' h j v hv=>by rw[Addr.add_mid,<-fbc];exact ((cht.grow (ae h)).oc.cell _).trans ((Cn.at_cf cht.cf j (by have:=(List.getElem?_eq_some_iff.1 hv).1;rwa [Cf.len cSok]at this)).trans (by rw[fcf];exact hv))) O O ?_
   refine aP (cs:=tf.map U8) O isAgg28 sizeOf28 (by rw[List.length_map];exact tfl) (λw' h j v hv=>by have:=(o13.grow (ae h)).range j v hv;rwa [Addr.add_mid]) O O<|aP (cs:=bf.cs) O isAgg38 sizeOf38 (Bo.len bfk) (λw' h j v hv=>by have:=(o12.grow (ae h)).range j v hv;rwa [Addr.add_mid]) O O<|Cc O ent14 (λw' hw' hG=>hR.beg cS tf bf cSok tfl bfk hl3 w' hG (hr3.grow (ae hw')))<|?_
   obtain ⟨z,hz⟩: ∃x,f7 tf bf=x:=⟨_,rfl⟩;rw[show (bif cS.rt then f7 tf bf else 210)=z from by rw[cSrt,hz];rfl]
   refine Mv O<|aP (cs:=bf.cs) O isAgg38 sizeOf38 (Bo.len bfk) (λw' h j v hv=>by have:=(o12.grow (ae h)).range j v hv;rwa [Addr.add_mid]) O O<|Cc O ent15 (λw' hw' hG=>gQ b89 bm (spt df.bw) cS cSok tf tfl St0 false false bf bfk hl3 w' hG (hw'.own 89 _ _ _ O).1 (by have:=(cht.grow (ae hw')).mkr;rw[fbm]at this;exact this) (hr3.grow (ae hw')))<|?_
   rw[hz];refine Bnb true O O (λ_=>bK _ z z) aB<|Asg O<|aa<|ao<|Rr<|?_;exact ar O O (λw' hw'=>⟨rfl,hga.trans (ae hw')⟩)
  ·refine Bnb false O O (λ_=>bK _ pk 2) (hq)<|Asg O<|aa<|aH O<|Xp<|?_
   rcases Bool.eq_false_or_eq_true (pk==3)with hq|hq
   ·refine Bnb true O O (λ_=>bK _ pk 3) (hq)<|Asg O<|aa<|aQ O<|?_
    obtain ⟨b1,cc,e1,ob0,hc1,hc2,hc3,hc4⟩:=m1w.1.resolve_left (λh=>by have:=h.2.2.1;omega)
    have ob1:b1<wa.heap.size:=ob0.lt;have o1low:6<=b1:=m1w.2 b1 ⟨_,e1,rfl⟩;have b1n: ¬d.own b1:=(m1u b1 ⟨_,e1,rfl⟩).1;have b1w:w.heap.size<=b1:=(exa.key m1 hm1).elim (λh=>by rw[<-hc0]at h;cases h) (λh=>Nat.le_trans (Nat.le_trans hG1.size g12.size) (h b1 ⟨_,e1,rfl⟩))
    have b1m:d.bm≠b1:=λe=>by have h1:=cha.mkr;rw[e]at h1;obtain ⟨_,q1,_⟩:=h1;obtain ⟨_,q2,_⟩:=ob0;rw[q1]at q2;injection q2 with q2;injection q2 with _ q3 _;exact absurd q3 aC
    refine eR gt_low (λw4 hC4 g4=> ?_);have hG4:Grow wa w4:=ae hC4;have o12q:OwnB w4 b12 bo.cs 38:=(hC4.own 12 _ _ _ O).1;have o13q:OwnB w4 b13 (t0.map U8) 28:=(hC4.own 13 _ _ _ O).1;have n12:wa.heap.size<=b12:=(hC4.own 12 _ _ _ O).2.elim id False.elim;have n13:wa.heap.size<=b13:=(hC4.own 13 _ _ _ O).2.elim id False.elim;have ob4:=ob0.grow hG4;have ch4:=cha.grow hG4;have hGF4:=gt_low.plain g4;clear hC4;have hfl:m1.ks.flatten.length=N*48:=by rw[r7 _ m1ok.ks,m1l]
    have h98:bo.cs[98]? =some (.slice (spt b1) N m1.kc):=by have h:=Bo.at_nw bok 0 (.slice bo.nw.ka bo.nw.ks.length bo.nw.kc) O;rw[bnw,e1,m1l]at h;exact h
    refine vu (EE []) de kr kr<|bM (m:=1) [0,1,2,3,4,5,6,7,8,9,10,11,12,13,14] kr<|Fa 98 O underlying38 O sizeOf35<|Fa 98 O underlying35 O sizeOf31<|aT (v:=.slice (spt b1) N m1.kc) O isAgg31 (λw' h=>((o12q.grow (ae h)).cell 98).trans h98) O O<|Mv O<|Fa 98 O underlying38 O sizeOf35<|Fa 98 O underlying35 O sizeOf31<|aT (v:=.slice (spt b1) N m1.kc) O isAgg31 (λw' h=>((o12q.grow (ae h)).cell 98).trans h98) O O<|bB O (λ_=>aO underlying31 _ _ _ _) O O<|Ca O (oo pla (N:Int) om om)<|?_;obtain ⟨kk,hkk⟩: ∃k:Nat,plc pla (N:Int)=(k:Int):=⟨(plc pla (N:Int)).toNat,by have:=mV (k:=pla) (n:=(N:Int)) om;omega⟩
    have hk6:kk<N:=by have:=nf (k:=pla) (n:=(N:Int)) om;omega
    rw[hkk];obtain ⟨x,hx⟩: ∃x,m1.ks.flatten[48*kk+4]? =some x:=⟨_,List.getElem?_eq_getElem om⟩;have hccx:cc[48*kk+4]? =some (U8 x):=Ds hc4 hx;refine gG (s:=48) kk O O underlying31 sizeOf33 O hk6 O O<|iw 4 (48*kk+4) O O underlying33 sizeOf5 O aC om O O<|aT (v:=U8 x) O isAgg5 (λw' h=>((ob4.grow (ae h)).cell _).trans hccx) O O<|Bnr (v:=U8 (x^^^2#8)) O O (λ_=>jS _ x 2#8)<|gG (s:=48) kk O O underlying31 sizeOf33 O hk6 O O<|iw 4 (48*kk+4) O O underlying33 sizeOf5 O aC om O O<|aa<|bM (m:=0) [15] kr<|?_;refine eV gt_low (λw' h=>hGF4.g _ _ _ h) (λw' h=>ob4.grow (ae h)) o1low O O sizeOf5 O (by rw[hc1];omega) O (λwz w3 hCz g3 mz oz=> ?_)
    have hGz:Grow wa wz:=hG4.trans (ae hCz);have cht0:=BW (x:=x^^^2#8) (cha.grow hGz) b1n b1m (ob0.grow hGz) oz mz;have hga:Grow w w3:=mz.grow0 (hGa.trans hGz) (λk hk=>by rw[hk];exact b1w)
    refine aa<|fO kr<|?_;obtain ⟨mf,hmf⟩: ∃yy,yy=m1.chg b1 (48*kk+4) (x^^^2#8):=⟨_,rfl⟩;obtain ⟨df,hdf⟩: ∃yy,yy=d.chg b1 (48*kk+4) (x^^^2#8):=⟨_,rfl⟩;rw[<-hdf]at cht0;have cht:=cht0;have dms:df.ms=d.ms.map (Co.chg b1 (48*kk+4) (x^^^2#8)):=by rw[hdf];rfl
    have dats:df.ats=d.ats:=by rw[hdf];rfl
    have hmfm:mf∈df.ms:=by rw[dms,hmf];exact List.mem_map_of_mem hm1
    obtain ⟨mfok,mfr,_⟩:=cht.ks mf hmfm;have mfcs:mf.cs=m1.cs:=by rw[hmf];exact AU _ _ _ _
    have mfl:mf.ks.length=N:=by rw[hmf,ts];exact m1l
    obtain ⟨bf,hbf⟩: ∃yy:Bo,yy=⟨bo.hd,mf,bo.br⟩:=⟨_,rfl⟩;have bfk:bf.Ok:=by rw[hbf];exact ⟨bok.hd,mfok,bok.br⟩
    have bfcs:bf.cs=bo.cs:=by rw[hbf,Bo.cs,Bo.cs,bnw];dsimp only;rw[mfcs]
    obtain ⟨tf,htf⟩: ∃yy:Rt,yy=t0:=⟨_,rfl⟩;have tfl:tf.length=32:=by rw[htf];exact t0l
    have o12:OwnB w3 b12 bf.cs 38:=by rw[bfcs];exact mz.own (o12q.grow (ae hCz)) om
    have o13:OwnB w3 b13 (tf.map U8) 28:=by rw[htf];exact mz.own (o13q.grow (ae hCz)) om
    have hr3:RwsAt 48 w3 bf.nw.ka bf.nw.ks:=by rw[hbf];exact mfr
    have hl3:bf.nw.ks.length<=1000:=by rw[hbf];show mf.ks.length<=1000;omega
    have fcf:df.cf=cS:=by rw[hdf];exact dcf
    have fbc:df.bc=bc:=by rw[hdf];exact dbc
    have fbm:df.bm=bm:=by rw[hdf];exact dbm
    have fK:df.nK<=400000:=by rw[hdf];show d.nK<=400000;omega
    have fS:df.nS<=400000:=by rw[hdf];show d.nS<=400000;omega
    have fA:df.ats.length<=400000:=by rw[dats];omega
    have fla: ∀m∈df.ms,m.ks.length=N:=λm hm=>by rw[dms]at hm;obtain ⟨m0,h0,rfl⟩:=List.mem_map.1 hm;rw[ts];exact hla m0 h0
    obtain ⟨f1,fk1⟩: ∃m,cq df.ats df.ms (df.cf.pe T)=some m:=by rw[fcf,dats,dms,pP,k1];exact ⟨_,rfl⟩
    obtain ⟨f2,fk2⟩: ∃m,cq df.ats df.ms (df.cf.pe T+1#64)=some m:=by rw[fcf,dats,dms,pP,k2];exact ⟨_,rfl⟩
    have hGF3:=gt_low.plain g3;have hMo: ∀w',Gt w'->Grow w3 w'->CLS 13 [pnt bc,U64 T].toArray w' (λe w''=> ∃b tr,e=.returned (pnt b)/\Grow w' w''/\w'.heap.size<=b/\tr.length=32/\OwnB w'' b (MDV (spt df.bw) (spt bm) cS tr St0 false false) 55):=λw' g' h=>by have h1:=iN df T N f1 f2 fk1 fk2 (by rw[fcf];exact cSz) om fK fS fA fla w' g' (cht.grow h);rw[fbc]at h1;exact h1.mono λe w'' ⟨b,h2,h3,h4,h5⟩=>⟨b,_,h2,h3,h4,Hd.rt_len (iu _ _ (Co.rt_len _ _) (Co.rt_len _ _)),by rw[fbm,fcf]at h5;exact h5⟩
    refine am (E:=EE [13])<|Mv O<|Mv O<|bI (v:=U64 T) O O (λw'=>by rw[hT];exact i6 underlying23 underlying22 t) O O<|?_
    refine cn O O ent13 O O (λw' hw'=>(hMo w' (hGF3.g _ _ _ hw') (ae hw')).mono λe w'' h=> ?_);obtain ⟨b89,tm,rfl,hg,hbn,htl,hob⟩:=h;refine ⟨_,_,rfl,aU hGF3,hw'.news aJ hg [(89,b89,MDV (spt df.bw) (spt bm) cS tm St0 false false,55)] ?_ cE, ?_⟩
    ·exact λn' b' c' t' hl=>(bx hl).elim (λ⟨_,e⟩=>by cases e;exact ⟨hbn,hob⟩) (λ⟨_,hl⟩=>by cases hl)
    clear hw' hg hbn hob;refine Asg O<|aa<|Xp<|Mv O<|aP (cs:=tf.map U8) O isAgg28 sizeOf28 (by rw[List.length_map];exact tfl) (λw' h j v hv=>by have:=(o13.grow (ae h)).range j v hv;rwa [Addr.add_mid]) O O<|aR O O O<|Fa 41 O underlying55 O sizeOf28<|dP 89 _ hGF3 O O O sizeOf28 (by rw[List.length_map];exact tfl) (bg _) (by rw[lh cSok htl lz,List.length_map,tfl];decide) (kX cSok htl tfl) O<|aa<|Xd []<|Mv O<|aR O O O<|Fa 2 O underlying61 O sizeOf50<|?_
    refine aP (cs:=cS.cs) O isAgg50 sizeOf50 (Cf.len cSok) (λw' h j v hv=>by rw[Addr.add_mid,<-fbc];exact ((cht.grow (ae h)).oc.cell _).trans ((Cn.at_cf cht.cf j (by have:=(List.getElem?_eq_some_iff.1 hv).1;rwa [Cf.len cSok]at this)).trans (by rw[fcf];exact hv))) O O ?_
    refine aP (cs:=tf.map U8) O isAgg28 sizeOf28 (by rw[List.length_map];exact tfl) (λw' h j v hv=>by have:=(o13.grow (ae h)).range j v hv;rwa [Addr.add_mid]) O O<|aP (cs:=bf.cs) O isAgg38 sizeOf38 (Bo.len bfk) (λw' h j v hv=>by have:=(o12.grow (ae h)).range j v hv;rwa [Addr.add_mid]) O O<|Cc O ent14 (λw' hw' hG=>hR.beg cS tf bf cSok tfl bfk hl3 w' hG (hr3.grow (ae hw')))<|?_
    obtain ⟨z,hz⟩: ∃x,f7 tf bf=x:=⟨_,rfl⟩;rw[show (bif cS.rt then f7 tf bf else 210)=z from by rw[cSrt,hz];rfl]
    refine Mv O<|aP (cs:=bf.cs) O isAgg38 sizeOf38 (Bo.len bfk) (λw' h j v hv=>by have:=(o12.grow (ae h)).range j v hv;rwa [Addr.add_mid]) O O<|Cc O ent15 (λw' hw' hG=>gQ b89 bm (spt df.bw) cS cSok tf tfl St0 false false bf bfk hl3 w' hG (hw'.own 89 _ _ _ O).1 (by have:=(cht.grow (ae hw')).mkr;rw[fbm]at this;exact this) (hr3.grow (ae hw')))<|?_
    rw[hz];refine Bnb true O O (λ_=>bK _ z z) aB<|Asg O<|aa<|ao<|Rr<|?_;exact ar O O (λw' hw'=>⟨rfl,hga.trans (ae hw')⟩)
   ·refine Bnb false O O (λ_=>bK _ pk 3) (hq)<|Asg O<|aa<|aH O<|Xp<|?_
    rcases Bool.eq_false_or_eq_true (pk==4)with hq|hq
    ·refine Bnb true O O (λ_=>bK _ pk 4) (hq)<|Asg O<|aa<|aQ O<|Xq<|Fa 98 O underlying38 O sizeOf35<|Fa 99 O underlying35 O sizeOf33<|iw 5 104 O O underlying33 sizeOf5 O aC O O O<|?_
     obtain ⟨x,hx⟩: ∃x,bo.nw.sum[5]? =some x:=⟨_,List.getElem?_eq_getElem (by rw[bok.nw.sum];decide)⟩
     refine aV 12 O O (Bo.at_nw bok 6 (U8 x) (Co.a_sum 5 (U8 x) (by rw[List.getElem?_map,hx];rfl))) isAgg5 O O ?_
     refine Bnr (v:=U8 (x^^^2#8)) O O (λ_=>jS _ x 2#8)<|Fa 98 O underlying38 O sizeOf35<|Fa 99 O underlying35 O sizeOf33<|iw 5 104 O O underlying33 sizeOf5 O aC O O O<|cC 12 hGFa O O O sizeOf5 O (by rw[Bo.len bok];decide) O<|?_
     rw[Hh bok];refine aa ?_;obtain ⟨bf,hbf⟩: ∃yy:Bo,yy=⟨bo.hd,⟨bo.nw.ks,bo.nw.ka,bo.nw.kc,bo.nw.sum.set 5 (x^^^2#8)⟩,bo.br⟩:=⟨_,rfl⟩;have bfk:bf.Ok:=by rw[hbf];exact ⟨bok.hd,⟨bok.nw.ks,by rw[List.length_set];exact bok.nw.sum,bok.nw.n⟩,bok.br⟩
     obtain ⟨tf,htf⟩: ∃yy:Rt,yy=t0:=⟨_,rfl⟩;have tfl:tf.length=32:=by rw[htf];exact t0l
     refine eR gt_low (λw3 hC3 g3=> ?_);have hG3:Grow wa w3:=ae hC3;have o12:OwnB w3 b12 bf.cs 38:=by rw[hbf];exact (hC3.own 12 _ _ _ O).1
     have o13:OwnB w3 b13 (tf.map U8) 28:=by rw[htf];exact (hC3.own 13 _ _ _ O).1
     have hr3:RwsAt 48 w3 bf.nw.ka bf.nw.ks:=by rw[hbf];show RwsAt 48 w3 bo.nw.ka bo.nw.ks;rw[bnw];exact m1r.grow hG3
     have hl3:bf.nw.ks.length<=1000:=by rw[hbf];show bo.nw.ks.length<=1000;rw[bnw];omega
     obtain ⟨df,hdf⟩: ∃x:Cn,x=d:=⟨_,rfl⟩;have cht:ChAt w3 df:=by rw[hdf];exact cha.grow hG3
     have hga:Grow w w3:=hGa.trans hG3;have fcf:df.cf=cS:=by rw[hdf];exact dcf
     have fbc:df.bc=bc:=by rw[hdf];exact dbc
     have fbm:df.bm=bm:=by rw[hdf];exact dbm
     have fK:df.nK<=400000:=by rw[hdf];omega
     have fS:df.nS<=400000:=by rw[hdf];omega
     have fA:df.ats.length<=400000:=by rw[hdf];omega
     have fla: ∀m∈df.ms,m.ks.length=N:=by rw[hdf];exact hla
     obtain ⟨f1,fk1⟩: ∃m,cq df.ats df.ms (df.cf.pe T)=some m:=⟨m1,by rw[fcf,hdf];exact k1⟩
     obtain ⟨f2,fk2⟩: ∃m,cq df.ats df.ms (df.cf.pe T+1#64)=some m:=⟨m2,by rw[fcf,hdf];exact k2⟩
     clear hC3;have hGF3:=gt_low.plain g3;have hMo: ∀w',Gt w'->Grow w3 w'->CLS 13 [pnt bc,U64 T].toArray w' (λe w''=> ∃b tr,e=.returned (pnt b)/\Grow w' w''/\w'.heap.size<=b/\tr.length=32/\OwnB w'' b (MDV (spt df.bw) (spt bm) cS tr St0 false false) 55):=λw' g' h=>by have h1:=iN df T N f1 f2 fk1 fk2 (by rw[fcf];exact cSz) om fK fS fA fla w' g' (cht.grow h);rw[fbc]at h1;exact h1.mono λe w'' ⟨b,h2,h3,h4,h5⟩=>⟨b,_,h2,h3,h4,Hd.rt_len (iu _ _ (Co.rt_len _ _) (Co.rt_len _ _)),by rw[fbm,fcf]at h5;exact h5⟩
     refine am (E:=EE [13])<|Mv O<|Mv O<|bI (v:=U64 T) O O (λw'=>by rw[hT];exact i6 underlying23 underlying22 t) O O<|?_
     refine cn O O ent13 O O (λw' hw'=>(hMo w' (hGF3.g _ _ _ hw') (ae hw')).mono λe w'' h=> ?_);obtain ⟨b89,tm,rfl,hg,hbn,htl,hob⟩:=h;refine ⟨_,_,rfl,aU hGF3,hw'.news aJ hg [(89,b89,MDV (spt df.bw) (spt bm) cS tm St0 false false,55)] ?_ cE, ?_⟩
     ·exact λn' b' c' t' hl=>(bx hl).elim (λ⟨_,e⟩=>by cases e;exact ⟨hbn,hob⟩) (λ⟨_,hl⟩=>by cases hl)
     clear hw' hg hbn hob;refine Asg O<|aa<|Xp<|Mv O<|aP (cs:=tf.map U8) O isAgg28 sizeOf28 (by rw[List.length_map];exact tfl) (λw' h j v hv=>by have:=(o13.grow (ae h)).range j v hv;rwa [Addr.add_mid]) O O<|aR O O O<|Fa 41 O underlying55 O sizeOf28<|dP 89 _ hGF3 O O O sizeOf28 (by rw[List.length_map];exact tfl) (bg _) (by rw[lh cSok htl lz,List.length_map,tfl];decide) (kX cSok htl tfl) O<|aa<|Xd []<|Mv O<|aR O O O<|Fa 2 O underlying61 O sizeOf50<|?_
     refine aP (cs:=cS.cs) O isAgg50 sizeOf50 (Cf.len cSok) (λw' h j v hv=>by rw[Addr.add_mid,<-fbc];exact ((cht.grow (ae h)).oc.cell _).trans ((Cn.at_cf cht.cf j (by have:=(List.getElem?_eq_some_iff.1 hv).1;rwa [Cf.len cSok]at this)).trans (by rw[fcf];exact hv))) O O ?_
     refine aP (cs:=tf.map U8) O isAgg28 sizeOf28 (by rw[List.length_map];exact tfl) (λw' h j v hv=>by have:=(o13.grow (ae h)).range j v hv;rwa [Addr.add_mid]) O O<|aP (cs:=bf.cs) O isAgg38 sizeOf38 (Bo.len bfk) (λw' h j v hv=>by have:=(o12.grow (ae h)).range j v hv;rwa [Addr.add_mid]) O O<|Cc O ent14 (λw' hw' hG=>hR.beg cS tf bf cSok tfl bfk hl3 w' hG (hr3.grow (ae hw')))<|?_
     obtain ⟨z,hz⟩: ∃x,f7 tf bf=x:=⟨_,rfl⟩;rw[show (bif cS.rt then f7 tf bf else 210)=z from by rw[cSrt,hz];rfl]
     refine Mv O<|aP (cs:=bf.cs) O isAgg38 sizeOf38 (Bo.len bfk) (λw' h j v hv=>by have:=(o12.grow (ae h)).range j v hv;rwa [Addr.add_mid]) O O<|Cc O ent15 (λw' hw' hG=>gQ b89 bm (spt df.bw) cS cSok tf tfl St0 false false bf bfk hl3 w' hG (hw'.own 89 _ _ _ O).1 (by have:=(cht.grow (ae hw')).mkr;rw[fbm]at this;exact this) (hr3.grow (ae hw')))<|?_
     rw[hz];refine Bnb true O O (λ_=>bK _ z z) aB<|Asg O<|aa<|ao<|Rr<|?_;exact ar O O (λw' hw'=>⟨rfl,hga.trans (ae hw')⟩)
    ·refine Bnb false O O (λ_=>bK _ pk 4) (hq)<|Asg O<|aa<|aH O<|Xp<|?_
     rcases Bool.eq_false_or_eq_true (pk==5)with hq|hq
     ·refine Bnb true O O (λ_=>bK _ pk 5) (hq)<|Asg O<|aa<|aQ O<|Xq<|Mv O<|Ca O (oo pla 32 aC aC)<|?_
      obtain ⟨kk,hkk⟩: ∃k:Nat,plc pla 32=(k:Int):=⟨(plc pla 32).toNat,by have:=mV (k:=pla) (n:=32) aC;omega⟩
      have hk6:kk<32:=by have:=nf (k:=pla) (n:=32) aC;omega
      rw[hkk];obtain ⟨x,hx⟩: ∃x,t0[kk]? =some x:=⟨_,List.getElem?_eq_getElem om⟩;refine j7 kk O O underlying28 sizeOf5 O om O O ?_;refine aV 13 O O (show (t0.map U8)[0+kk]? =some (U8 x)from by rw[Nat.zero_add,List.getElem?_map,hx];rfl) isAgg5 O O ?_
      refine Bnr (v:=U8 (x^^^1#8)) O O (λ_=>jS _ x 1#8)<|j7 kk O O underlying28 sizeOf5 O om O O<|cC 13 hGFa O O O sizeOf5 O (by rw[List.length_map];omega) O<|?_
      rw[show (t0.map U8).set (0+kk) (U8 (x^^^1#8))=(t0.set kk (x^^^1#8)).map U8 from by rw[Nat.zero_add];exact jc ..]
      refine aa ?_;obtain ⟨bf,hbf⟩: ∃yy:Bo,yy=bo:=⟨_,rfl⟩;have bfk:bf.Ok:=by rw[hbf];exact bok
      obtain ⟨tf,htf⟩: ∃yy:Rt,yy=t0.set kk (x^^^1#8):=⟨_,rfl⟩;have tfl:tf.length=32:=by rw[htf];exact by rw[List.length_set];exact t0l
      refine eR gt_low (λw3 hC3 g3=> ?_);have hG3:Grow wa w3:=ae hC3;have o12:OwnB w3 b12 bf.cs 38:=by rw[hbf];exact (hC3.own 12 _ _ _ O).1
      have o13:OwnB w3 b13 (tf.map U8) 28:=by rw[htf];exact (hC3.own 13 _ _ _ O).1
      have hr3:RwsAt 48 w3 bf.nw.ka bf.nw.ks:=by rw[hbf];show RwsAt 48 w3 bo.nw.ka bo.nw.ks;rw[bnw];exact m1r.grow hG3
      have hl3:bf.nw.ks.length<=1000:=by rw[hbf];show bo.nw.ks.length<=1000;rw[bnw];omega
      obtain ⟨df,hdf⟩: ∃x:Cn,x=d:=⟨_,rfl⟩;have cht:ChAt w3 df:=by rw[hdf];exact cha.grow hG3
      have hga:Grow w w3:=hGa.trans hG3;have fcf:df.cf=cS:=by rw[hdf];exact dcf
      have fbc:df.bc=bc:=by rw[hdf];exact dbc
      have fbm:df.bm=bm:=by rw[hdf];exact dbm
      have fK:df.nK<=400000:=by rw[hdf];omega
      have fS:df.nS<=400000:=by rw[hdf];omega
      have fA:df.ats.length<=400000:=by rw[hdf];omega
      have fla: ∀m∈df.ms,m.ks.length=N:=by rw[hdf];exact hla
      obtain ⟨f1,fk1⟩: ∃m,cq df.ats df.ms (df.cf.pe T)=some m:=⟨m1,by rw[fcf,hdf];exact k1⟩
      obtain ⟨f2,fk2⟩: ∃m,cq df.ats df.ms (df.cf.pe T+1#64)=some m:=⟨m2,by rw[fcf,hdf];exact k2⟩
      clear hC3;have hGF3:=gt_low.plain g3;have hMo: ∀w',Gt w'->Grow w3 w'->CLS 13 [pnt bc,U64 T].toArray w' (λe w''=> ∃b tr,e=.returned (pnt b)/\Grow w' w''/\w'.heap.size<=b/\tr.length=32/\OwnB w'' b (MDV (spt df.bw) (spt bm) cS tr St0 false false) 55):=λw' g' h=>by have h1:=iN df T N f1 f2 fk1 fk2 (by rw[fcf];exact cSz) om fK fS fA fla w' g' (cht.grow h);rw[fbc]at h1;exact h1.mono λe w'' ⟨b,h2,h3,h4,h5⟩=>⟨b,_,h2,h3,h4,Hd.rt_len (iu _ _ (Co.rt_len _ _) (Co.rt_len _ _)),by rw[fbm,fcf]at h5;exact h5⟩
      refine am (E:=EE [13])<|Mv O<|Mv O<|bI (v:=U64 T) O O (λw'=>by rw[hT];exact i6 underlying23 underlying22 t) O O<|?_
      refine cn O O ent13 O O (λw' hw'=>(hMo w' (hGF3.g _ _ _ hw') (ae hw')).mono λe w'' h=> ?_);obtain ⟨b89,tm,rfl,hg,hbn,htl,hob⟩:=h;refine ⟨_,_,rfl,aU hGF3,hw'.news aJ hg [(89,b89,MDV (spt df.bw) (spt bm) cS tm St0 false false,55)] ?_ cE, ?_⟩
      ·exact λn' b' c' t' hl=>(bx hl).elim (λ⟨_,e⟩=>by cases e;exact ⟨hbn,hob⟩) (λ⟨_,hl⟩=>by cases hl)
      clear hw' hg hbn hob;refine Asg O<|aa<|Xp<|Mv O<|aP (cs:=tf.map U8) O isAgg28 sizeOf28 (by rw[List.length_map];exact tfl) (λw' h j v hv=>by have:=(o13.grow (ae h)).range j v hv;rwa [Addr.add_mid]) O O<|aR O O O<|Fa 41 O underlying55 O sizeOf28<|dP 89 _ hGF3 O O O sizeOf28 (by rw[List.length_map];exact tfl) (bg _) (by rw[lh cSok htl lz,List.length_map,tfl];decide) (kX cSok htl tfl) O<|aa<|Xd []<|Mv O<|aR O O O<|Fa 2 O underlying61 O sizeOf50<|?_
      refine aP (cs:=cS.cs) O isAgg50 sizeOf50 (Cf.len cSok) (λw' h j v hv=>by rw[Addr.add_mid,<-fbc];exact ((cht.grow (ae h)).oc.cell _).trans ((Cn.at_cf cht.cf j (by have:=(List.getElem?_eq_some_iff.1 hv).1;rwa [Cf.len cSok]at this)).trans (by rw[fcf];exact hv))) O O ?_
      refine aP (cs:=tf.map U8) O isAgg28 sizeOf28 (by rw[List.length_map];exact tfl) (λw' h j v hv=>by have:=(o13.grow (ae h)).range j v hv;rwa [Addr.add_mid]) O O<|aP (cs:=bf.cs) O isAgg38 sizeOf38 (Bo.len bfk) (λw' h j v hv=>by have:=(o12.grow (ae h)).range j v hv;rwa [Addr.add_mid]) O O<|Cc O ent14 (λw' hw' hG=>hR.beg cS tf bf cSok tfl bfk hl3 w' hG (hr3.grow (ae hw')))<|?_
      obtain ⟨z,hz⟩: ∃x,f7 tf bf=x:=⟨_,rfl⟩;rw[show (bif cS.rt then f7 tf bf else 210)=z from by rw[cSrt,hz];rfl]
      refine Mv O<|aP (cs:=bf.cs) O isAgg38 sizeOf38 (Bo.len bfk) (λw' h j v hv=>by have:=(o12.grow (ae h)).range j v hv;rwa [Addr.add_mid]) O O<|Cc O ent15 (λw' hw' hG=>gQ b89 bm (spt df.bw) cS cSok tf tfl St0 false false bf bfk hl3 w' hG (hw'.own 89 _ _ _ O).1 (by have:=(cht.grow (ae hw')).mkr;rw[fbm]at this;exact this) (hr3.grow (ae hw')))<|?_
      rw[hz];refine Bnb true O O (λ_=>bK _ z z) aB<|Asg O<|aa<|ao<|Rr<|?_;exact ar O O (λw' hw'=>⟨rfl,hga.trans (ae hw')⟩)
     ·refine Bnb false O O (λ_=>bK _ pk 5) (hq)<|Asg O<|aa<|aH O<|aw<|?_
      obtain ⟨bf,hbf⟩: ∃yy:Bo,yy=bo:=⟨_,rfl⟩;have bfk:bf.Ok:=by rw[hbf];exact bok
      obtain ⟨tf,htf⟩: ∃yy:Rt,yy=t0:=⟨_,rfl⟩;have tfl:tf.length=32:=by rw[htf];exact t0l
      refine eR gt_low (λw3 hC3 g3=> ?_);have hG3:Grow wa w3:=ae hC3;have o12:OwnB w3 b12 bf.cs 38:=by rw[hbf];exact (hC3.own 12 _ _ _ O).1
      have o13:OwnB w3 b13 (tf.map U8) 28:=by rw[htf];exact (hC3.own 13 _ _ _ O).1
      have hr3:RwsAt 48 w3 bf.nw.ka bf.nw.ks:=by rw[hbf];show RwsAt 48 w3 bo.nw.ka bo.nw.ks;rw[bnw];exact m1r.grow hG3
      have hl3:bf.nw.ks.length<=1000:=by rw[hbf];show bo.nw.ks.length<=1000;rw[bnw];omega
      obtain ⟨df,hdf⟩: ∃x:Cn,x=d:=⟨_,rfl⟩;have cht:ChAt w3 df:=by rw[hdf];exact cha.grow hG3
      have hga:Grow w w3:=hGa.trans hG3;have fcf:df.cf=cS:=by rw[hdf];exact dcf
      have fbc:df.bc=bc:=by rw[hdf];exact dbc
      have fbm:df.bm=bm:=by rw[hdf];exact dbm
      have fK:df.nK<=400000:=by rw[hdf];omega
      have fS:df.nS<=400000:=by rw[hdf];omega
      have fA:df.ats.length<=400000:=by rw[hdf];omega
      have fla: ∀m∈df.ms,m.ks.length=N:=by rw[hdf];exact hla
      obtain ⟨f1,fk1⟩: ∃m,cq df.ats df.ms (df.cf.pe T)=some m:=⟨m1,by rw[fcf,hdf];exact k1⟩
      obtain ⟨f2,fk2⟩: ∃m,cq df.ats df.ms (df.cf.pe T+1#64)=some m:=⟨m2,by rw[fcf,hdf];exact k2⟩
      clear hC3;have hGF3:=gt_low.plain g3;have hMo: ∀w',Gt w'->Grow w3 w'->CLS 13 [pnt bc,U64 T].toArray w' (λe w''=> ∃b tr,e=.returned (pnt b)/\Grow w' w''/\w'.heap.size<=b/\tr.length=32/\OwnB w'' b (MDV (spt df.bw) (spt bm) cS tr St0 false false) 55):=λw' g' h=>by have h1:=iN df T N f1 f2 fk1 fk2 (by rw[fcf];exact cSz) om fK fS fA fla w' g' (cht.grow h);rw[fbc]at h1;exact h1.mono λe w'' ⟨b,h2,h3,h4,h5⟩=>⟨b,_,h2,h3,h4,Hd.rt_len (iu _ _ (Co.rt_len _ _) (Co.rt_len _ _)),by rw[fbm,fcf]at h5;exact h5⟩
      refine am (E:=EE [13])<|Mv O<|Mv O<|bI (v:=U64 T) O O (λw'=>by rw[hT];exact i6 underlying23 underlying22 t) O O<|?_
      refine cn O O ent13 O O (λw' hw'=>(hMo w' (hGF3.g _ _ _ hw') (ae hw')).mono λe w'' h=> ?_);obtain ⟨b89,tm,rfl,hg,hbn,htl,hob⟩:=h;refine ⟨_,_,rfl,aU hGF3,hw'.news aJ hg [(89,b89,MDV (spt df.bw) (spt bm) cS tm St0 false false,55)] ?_ cE, ?_⟩
      ·exact λn' b' c' t' hl=>(bx hl).elim (λ⟨_,e⟩=>by cases e;exact ⟨hbn,hob⟩) (λ⟨_,hl⟩=>by cases hl)
      clear hw' hg hbn hob;refine Asg O<|aa<|Xp<|Mv O<|aP (cs:=tf.map U8) O isAgg28 sizeOf28 (by rw[List.length_map];exact tfl) (λw' h j v hv=>by have:=(o13.grow (ae h)).range j v hv;rwa [Addr.add_mid]) O O<|aR O O O<|Fa 41 O underlying55 O sizeOf28<|dP 89 _ hGF3 O O O sizeOf28 (by rw[List.length_map];exact tfl) (bg _) (by rw[lh cSok htl lz,List.length_map,tfl];decide) (kX cSok htl tfl) O<|aa<|Xd []<|Mv O<|aR O O O<|Fa 2 O underlying61 O sizeOf50<|?_
      refine aP (cs:=cS.cs) O isAgg50 sizeOf50 (Cf.len cSok) (λw' h j v hv=>by rw[Addr.add_mid,<-fbc];exact ((cht.grow (ae h)).oc.cell _).trans ((Cn.at_cf cht.cf j (by have:=(List.getElem?_eq_some_iff.1 hv).1;rwa [Cf.len cSok]at this)).trans (by rw[fcf];exact hv))) O O ?_
      refine aP (cs:=tf.map U8) O isAgg28 sizeOf28 (by rw[List.length_map];exact tfl) (λw' h j v hv=>by have:=(o13.grow (ae h)).range j v hv;rwa [Addr.add_mid]) O O<|aP (cs:=bf.cs) O isAgg38 sizeOf38 (Bo.len bfk) (λw' h j v hv=>by have:=(o12.grow (ae h)).range j v hv;rwa [Addr.add_mid]) O O<|Cc O ent14 (λw' hw' hG=>hR.beg cS tf bf cSok tfl bfk hl3 w' hG (hr3.grow (ae hw')))<|?_
      obtain ⟨z,hz⟩: ∃x,f7 tf bf=x:=⟨_,rfl⟩;rw[show (bif cS.rt then f7 tf bf else 210)=z from by rw[cSrt,hz];rfl]
      refine Mv O<|aP (cs:=bf.cs) O isAgg38 sizeOf38 (Bo.len bfk) (λw' h j v hv=>by have:=(o12.grow (ae h)).range j v hv;rwa [Addr.add_mid]) O O<|Cc O ent15 (λw' hw' hG=>gQ b89 bm (spt df.bw) cS cSok tf tfl St0 false false bf bfk hl3 w' hG (hw'.own 89 _ _ _ O).1 (by have:=(cht.grow (ae hw')).mkr;rw[fbm]at this;exact this) (hr3.grow (ae hw')))<|?_
      rw[hz];refine Bnb true O O (λ_=>bK _ z z) aB<|Asg O<|aa<|ao<|Rr<|?_;exact ar O O (λw' hw'=>⟨rfl,hga.trans (ae hw')⟩)
end
end Go.Proofs.YtfakhlafilbjkaaGreatDoor
