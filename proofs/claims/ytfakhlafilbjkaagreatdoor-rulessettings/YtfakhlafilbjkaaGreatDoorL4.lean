/- L4 -/
import Derived.Test.YtfakhlafilbjkaaGreatDoorL3
set_option maxRecDepth 100000
set_option maxHeartbeats 1000000
namespace Go.Proofs.YtfakhlafilbjkaaGreatDoor
open Go.Proofs.Tryz
section
open Go.RowKit
open Sh
theorem ent8:aI prog 8:=λ_ _=>kr
theorem ent25:aI prog 25:=λ_ _=>kr
theorem ent14:aI prog 14:=λ_ _=>kr
theorem ent19:aI prog 19:=λ_ _=>kr
theorem ent21:aI prog 21:=λ_ _=>kr
theorem ent23:aI prog 23:=λ_ _=>kr
def onN(l:List Bool):Nat:=(l.filter id).length
def vz(l:List Bool):Bool:=decide (2*l.length<=3*onN l)
def Up.isn(u:Up):Bool:= !decide (u.br=Zs 160)
def Up.isf(u:Up):Bool:= !decide (u.fy=Zs 192)
def oQ(c:Co):Bool:=c.ks.all (λk=>decide (k=Zs 48)) && decide (c.sum=Zs 48)
def Up.rip(u:Up)(c:Cf):Bool:=u.isn && decide (c.pe u.at_.s=c.pe u.sl)
def Up.nea(u:Up)(c:Cf):Bool:=decide (c.pe u.fi.s=c.pe u.at_.s)
def betR(c:Cf)(a b:Up):Bool:=
 bif vz a.sy.bs !=vz b.sy.bs then vz a.sy.bs else
 bif !vz a.sy.bs && decide (onN a.sy.bs≠onN b.sy.bs)then decide (onN b.sy.bs<onN a.sy.bs)else
 bif a.rip c !=b.rip c then a.rip c else
 bif a.isf !=b.isf then a.isf else
 bif a.isf && (a.nea c !=b.nea c)then a.nea c else
 bif decide (onN a.sy.bs≠onN b.sy.bs)then decide (onN b.sy.bs<onN a.sy.bs)else
 bif decide (a.at_.s≠b.at_.s)then decide (a.at_.s<b.at_.s)else decide (a.sl<b.sl)
def betV(c:Cf)(a b:Up):Bool:=bif c.rt then betR c a b else false
def VM(w:World)(s:St)(u:Up):Prop:=RwsAt 48 w s.nw.ka s.nw.ks/\RwsAt 48 w s.nx.ka s.nx.ks/\RwsAt 48 w u.nx.ka u.nx.ks/\CellsAt w u.sy.ba (u.sy.bs.map .bool)
def VB(s:St)(u:Up):Prop:=s.nw.ks.length<=1000/\s.nx.ks.length<=1000/\u.nx.ks.length<=1000/\u.sy.bs.length<=1000
structure RulesP:Prop where
 isn: ∀(u:Up),u.Ok->∀(w:World),Gt w->CLS 19 [.agg u.cs.toArray].toArray w (λe w'=>e=.returned (.bool u.isn)/\Grow w w')
 isf: ∀(u:Up),u.Ok->∀(w:World),Gt w->CLS 21 [.agg u.cs.toArray].toArray w (λe w'=>e=.returned (.bool u.isf)/\Grow w w')
 kno: ∀(s:St),s.Ok->s.nx.ks.length<=1000->∀(w:World),Gt w->RwsAt 48 w s.nx.ka s.nx.ks->CLS 23 [.agg s.cs.toArray].toArray w (λe w'=>e=.returned (.bool (!oQ s.nx))/\Grow w w')
 bet: ∀(c:Cf) (a b:Up),c.Ok->a.Ok->b.Ok->a.sy.bs.length<=1000->b.sy.bs.length<=1000->∀(w:World),Gt w->CellsAt w a.sy.ba (a.sy.bs.map .bool)->CellsAt w b.sy.ba (b.sy.bs.map .bool)->CLS 17 [.agg c.cs.toArray,.agg a.cs.toArray,.agg b.cs.toArray].toArray w (λe w'=>e=.returned (.bool (betV c a b))/\Grow w w')
 beg: ∀(c:Cf) (t:Rt) (b:Bo),c.Ok->t.length=32->b.Ok->b.nw.ks.length<=1000->∀(w:World),Gt w->RwsAt 48 w b.nw.ka b.nw.ks->CLS 14 [.agg c.cs.toArray,.agg (t.map U8).toArray,.agg b.cs.toArray].toArray w (λe w'=>e=.returned (I (bif c.rt then k4 t b else 210))/\Grow w w')
 vS: ∀(c:Cf) (s:St) (u:Up) (n:BitVec 64),c.Ok->s.Ok->u.Ok->VB s u->c.rt=false->∀(w:World),Gt w->VM w s u->CLS 25 [.agg c.cs.toArray,.agg s.cs.toArray,.agg u.cs.toArray,U64 n].toArray w (λe w'=>e=.returned (I 210)/\Grow w w')
 vF: ∀(c:Cf) (s:St) (u:Up) (n:BitVec 64),c.Ok->s.Ok->u.Ok->VB s u->c.rt=true->onN u.sy.bs=0->∀(w:World),Gt w->VM w s u->CLS 25 [.agg c.cs.toArray,.agg s.cs.toArray,.agg u.cs.toArray,U64 n].toArray w (λe w'=>e=.returned (I 232)/\Grow w w')
 vE: ∀(c:Cf) (s:St) (u:Up) (n:BitVec 64),c.Ok->s.Ok->u.Ok->VB s u->c.rt=true->onN u.sy.bs≠0->n<u.sl->∀(w:World),Gt w->VM w s u->CLS 25 [.agg c.cs.toArray,.agg s.cs.toArray,.agg u.cs.toArray,U64 n].toArray w (λe w'=>e=.returned (I 233)/\Grow w w')
 vW: ∀(c:Cf) (s:St) (u:Up) (n:BitVec 64),c.Ok->s.Ok->u.Ok->VB s u->c.rt=true->onN u.sy.bs≠0->¬n<u.sl->u.at_.s<u.sl->¬u.at_.s<u.fi.s->c.pe u.sl=c.pe s.f.s->s.f.s<u.at_.s->u.isf=false->u.fi=Hdz->u.isn=false->oQ u.nx=true->u.sy.sig=Zs 96->∀(w:World),Gt w->VM w s u->CLS 25 [.agg c.cs.toArray,.agg s.cs.toArray,.agg u.cs.toArray,U64 n].toArray w (λe w'=>e=.returned (I 238)/\Grow w w')
def cK:Cf:=cfP 1#64 32 4 1#64 8#64 1
theorem j2:cK.Ok:=lg _ _ _ _ _ _ aC aC
theorem sQ:cK.rt=true:=by decide+kernel
theorem D1:cK.pe 5#64=0#64:=by decide+kernel
theorem cK_7:cK.pe 7#64=0#64:=by decide+kernel
def Hd6:Hd:=⟨6#64,0#64,Z0,Z0,Z0⟩
def Up0:Up:=⟨Hdz,Co0,Zs 160,Hdz,Zs 192,⟨[],none,0,Zs 96⟩,0#64⟩
def mH(b:Nat)(x:Bool):Up:=⟨Hd6,Co0,Zs 160,Hdz,Zs 192,⟨[x],some ⟨b,0,none⟩,1,Zs 96⟩,7#64⟩
theorem iM(b:Nat)(x:Bool):(mH b x).Ok:=⟨⟨rfl,rfl,rfl⟩,jH,rfl,gW,rfl,⟨rfl⟩,⟩
theorem Fe:Up0.Ok:=⟨gW,jH,rfl,gW,rfl,⟨rfl⟩⟩
theorem zvUp(w:World):(zeroValue 71).run prog w=.ok (.agg Up0.cs.toArray) w:=(zeroValue71 w).trans aE
theorem zvSt(w:World):(zeroValue 53).run prog w=.ok (.agg St0.cs.toArray) w:=(zeroValue53 w).trans aE
def UA(b:Nat):Up:=⟨Hdz,Co0,Zs 160,Hdz,Zs 192,⟨[true],some ⟨b,0,none⟩,1,Zs 96⟩,0#64⟩
def UB(b:Nat):Up:=⟨Hdz,Co0,Zs 160,Hdz,Zs 192,⟨[true],some ⟨b,0,none⟩,1,Zs 96⟩,7#64⟩
theorem HT(b:Nat):Up0.cs.set 597 (.slice (spt b) 1 1)=(UA b).cs:=kr
theorem Hu(b:Nat):(UA b).cs.set 694 (nrm (.int .u64 7))=(UB b).cs:=kr
theorem E9(b:Nat):(UB b).cs.set 0 (nrm (.int .u64 6))=(mH b true).cs:=kr
theorem H7(b:Nat):(mH b true).cs=(mH b false).cs:=rfl
theorem St.one(s:St):s.cs.all (·.oneCell')=true:=by
 rw[St.cs,List.all_append,List.all_append,List.all_append,List.all_append,Hd.one,Hd.one,Co.one,Co.one];rfl
theorem IB(f o:Hd)(nw:Co)(hf:f.Ok)(ho:o.Ok)(hn:nw.Ok)(w:World):(Instr.build 53 #[(0,.agg f.cs.toArray),(1,.agg o.cs.toArray),(2,.agg nw.cs.toArray)]).run prog w=.ok (.agg (St.cs ⟨f,o,nw,Co0,none,0,0,0#64,0#64⟩).toArray) w:=
 cQ (c:=[]++(Hdz.cs++(Hdz.cs++(Co0.cs++(Co0.cs++[Value.slice none 0 0,U64 0#64,U64 0#64]))))) (ps:= #[(0,98),(98,98),(196,49),(245,49),(294,1),(295,1),(296,1)]) (λw=>(zeroValue53 w).trans aE) underlying53 (λw=>by simp[sizeOf22,sizeOf30,sizeOf35,sizeOf51]) [(0,.agg f.cs.toArray),(1,.agg o.cs.toArray),(2,.agg nw.cs.toArray)] (by
  rw[dY (pre:=[]) (old:=Hdz.cs) (vs:=f.cs) O O (by rw[Hd.len hf];rfl),dY (pre:=[]++f.cs) (old:=Hdz.cs) (vs:=o.cs) (by rw[List.nil_append,Hd.len hf];rfl) O (by rw[Hd.len ho];rfl),
   dY (pre:=[]++f.cs++o.cs) (old:=Co0.cs) (vs:=nw.cs) (by rw[List.nil_append,List.length_append,Hd.len hf,Hd.len ho];rfl) O (by rw[Co.len hn];rfl)]
  simp[Instr.fill,St.cs]) w
theorem yh{bs:By}{i:Nat}{r:Rt}(hr:r.length=32)(hi:32*i+32<=bs.length):((jB bs i r).drop (32*i)).take 32=r:=by
 rw[jB,List.append_assoc,List.drop_left' (by rw[List.length_take];omega),List.take_left' hr]
theorem yA{bs:By}{i j:Nat}{r:Rt}(hi:32*i<=bs.length)(hj:j<i):((jB bs i r).drop (32*j)).take 32=(bs.drop (32*j)).take 32:=by
 rw[jB,List.append_assoc,List.drop_append_of_le_length (by rw[List.length_take];omega),List.take_append_of_le_length (by rw[List.length_drop,List.length_take];omega),List.drop_take,List.take_take,Nat.min_eq_left om]
theorem Hb{x:BitVec 64}{a b c:Rt}(ha:a.length=32)(hb:b.length=32)(_hc:c.length=32):(dg (LVS x a b c) 24).getD 22 Z0=b:=by
 have l0:=il x 768;have l1:(jB (LVB x 768) 20 a).length=768:=(iD ha (by rw[l0];decide)).trans l0
 have l2:(jB (jB (LVB x 768) 20 a) 22 b).length=768:=(iD hb (by rw[l1];decide)).trans l1
 rw[dg,List.getD_eq_getElem?_getD,List.getElem?_map,List.getElem?_range aC];show ((LVS x a b c).drop (32*22)).take 32=b;rw[LVS,yA (by rw[l2];decide) aC,yh hb (by rw[l1];decide)]
theorem zm: ∀(l:List Rt),AllR l->dg l.flatten l.length=l:=λl hl=>by
 apply List.ext_getElem (by rw[fI])
 intro i h1 h2;have h3:(dg l.flatten l.length)[i]? =some ((l.flatten.drop (32*i)).take 32):=by
  rw[dg,List.getElem?_map,List.getElem?_range h2];rfl
 have h4:=(List.getElem?_eq_some_iff.1 h3).2;rw[h4];have e:l=l.take i++(l[i]::l.drop (i+1)):=by rw[<-List.drop_eq_getElem_cons h2,List.take_append_drop]
 have h5:(l.take i).flatten.length=32*i:=by rw[cM _ (hl.take i),List.length_take,Nat.min_eq_left om]
 conv=>lhs;rw[e]
 rw[List.flatten_append,List.flatten_cons,List.drop_left' h5,List.take_left' (hl _ (List.getElem_mem h2))]
theorem DC(sd q:BitVec 64)(m1 m2:Co)(n:Nat):vfy (m1.rt n) (dg (BOV sd q m1 m2 n).br 5) 22#64 (BOV sd q m1 m2 n).hd.b=true:=by
 unfold BOV HDV STV;dsimp only;have hl:=dZ (n:=24) (lA (x:=sd+q) (cU (nR q) Z0) (Co.rt_len m1 n) (Co.rt_len m2 n));have hg:=Hb (x:=sd+q) (cU (nR q) Z0) (Co.rt_len m1 n) (Co.rt_len m2 n);have hn:(dg (LVS (sd+q) (P2 (nR q) Z0) (m1.rt n) (m2.rt n)) 24).length=24:=fI _ _;generalize dg (LVS (sd+q) (P2 (nR q) Z0) (m1.rt n) (m2.rt n)) 24=l at hl hg hn⊢;have ht:l.take (2^5)=l:=List.take_of_length_le om;rw[ht];have hb:AllR (brF P2 Z0 5 l (22#64).toNat):=l8 5 l hl;have hbl:(brF P2 Z0 5 l (22#64).toNat).length=5:=kG _ _ _ _ _;have hc:=zm _ hb;rw[hbl]at hc;rw[hc];have h1:=rH P2 Z0 22 5 l aC om;rw[show 22 % 2^5=22 from O,hg]at h1;unfold vfy;rw[show (22#64).toNat=22 from O]at hbl⊢;rw[h1,hbl,decide_eq_true O];rfl
end
section
open Go.RowKit
open Sh
theorem GV{bc bw bm:Nat}{cf:Cf}{sd:BitVec 64}{k:Nat}(hk:(cN bc bw bm cf sd).own k):k=bc\/k=bw:=by
 rcases hk with h|h|⟨_,h,_⟩|⟨_,h,_⟩|⟨_,h,_⟩|⟨_,h,_⟩
 ·exact .inl h
 ·exact .inr h
 ·cases h
 ·cases h
 ·cases h
 ·cases h
theorem CS(w:World)(a:Option Addr):RwsAt 48 w a []:=λi r h=>by simp at h
theorem FH{sd q:BitVec 64}{m1 m2:Co}{n:Nat}(h:m1.Ok):(BOV sd q m1 m2 n).Ok:=by
 have hl:=dZ (n:=24) (lA (x:=sd+q) (cU (nR q) Z0) (Co.rt_len m1 n) (Co.rt_len m2 n));have hb:=l8 (i:=(22#64).toNat) 5 _ (hl.take (2^5));have hn:=kG P2 Z0 5 ((dg (LVS (sd+q) (P2 (nR q) Z0) (m1.rt n) (m2.rt n)) 24).take (2^5)) (22#64).toNat;have hh:=rq sd q (fin:=Z0) (Co.rt_len m1 n) (Co.rt_len m2 n);unfold BOV;exact ⟨hh,h,by dsimp only;rw[cM _ hb,hn]⟩
theorem BG{m1 m2:Co}(h1:xv 1#64 1 0#64 m1)(h2:xv 1#64 1 1#64 m2): ¬(HDV 1#64 5#64 Z0 (m1.rt 1) (m2.rt 1)).rt=Z0:=by
 rw[rtK0 (m:=m1) (by rw[h1.1];exact congrArg (λx=>[x]) J2) (h1.2.trans kys0),rtK1 (m:=m2) (by rw[h2.1];exact congrArg (λx=>[x]) Lc) (h2.2.trans kys1),hdK]
 exact FZ
def G3(c:Cn)(q:BitVec 64)(n:Nat)(w1 w2:World)(v:Value):Prop:= ∃d m1 m2,v=.agg (BOV c.sd q m1 m2 n).cs.toArray/\ChAt w2 d/\Ext w1 (2*(n+1)) c d/\(∀m∈d.ms,m.ks.length=n)/\cz d.ats d.ms (c.cf.pe q)=some m1/\cz d.ats d.ms (c.cf.pe q+1#64)=some m2
theorem Ke(c:Cn)(q:BitVec 64)(n:Nat)(hz:c.cf.z=(n:Int))(hn:n<=512)(hnK:c.nK<=400000)(hnS:c.nS<=400000)(hnA:c.ats.length<=400000)(hmn: ∀m∈c.ms,m.ks.length=n)(w:World)(hw:Gt w)(hch:ChAt w c):CLS 10 [pnt c.bc,U64 q].toArray w (λe w2=> ∃v,e=.returned v/\MM c.own w w2/\G3 c q n w w2 v):=
 (xZ c q n hz hn hnK hnS hnA hmn w hw hch).mono λ_e _w2 ⟨d,m1,m2,he,hm,hc,hx,hl,k1,k2,_⟩=>⟨_,he,hm,d,m1,m2,rfl,hc,hx,hl,k1,k2⟩
theorem CD(hR:RulesP)(w:World)(hw:Gt w):CLS 8 [].toArray w (λe w'=>e=.returned (.bool true)/\Grow w w'):=by
 refine Hf func8 O hw<|λhGF=>ai (E:=EE [26])<|Asg O<|aa<|ai (E:=EE [26])<|?_;refine cw O O ent26 O O (λw' hw'=>(uO 1#64 1#64 8#64 1 w' (hGF.g _ _ _ hw')).mono λe w'' h=> ?_);obtain ⟨bc,bw,bm,rfl,hg,hch,z1,z2⟩:=h;have y1:=Nat.le_trans (ae hw').size z1;have y2:=Nat.le_trans (ae hw').size z2;refine ⟨_,(λw''=>Hp (pl w) [] w''/\ChAt w'' (cN bc bw bm cK 1#64)),rfl,bN (aT hGF) (λ_ _ x g=>x.grow g),⟨hw'.grow aL hg,hch⟩, ?_⟩;clear hw' hg hch;refine Asg O<|aa<|?_;obtain ⟨c0,hc0⟩: ∃x,cN bc bw bm cK 1#64=x:=⟨_,rfl⟩;have hbc:c0.bc=bc:=by rw[<-hc0];rfl
 have hcf:c0.cf=cK:=by rw[<-hc0];rfl
 have hsd:c0.sd=1#64:=by rw[<-hc0];rfl
 have how: ∀k,c0.own k->w.heap.size<=k:=λk hk=>by rw[<-hc0]at hk;rcases GV hk with rfl|rfl;exact y1;exact y2
 have hT: ∀w',Gt w'->ChAt w' c0->CLS 10 [pnt bc,U64 5#64].toArray w' (λe w2=> ∃v,e=.returned v/\MM c0.own w' w2/\G3 c0 5#64 1 w' w2 v):=λw' g hc=>by have h:=Ke c0 5#64 1 (by rw[hcf];rfl) aC (by rw[<-hc0];exact Nat.zero_le _) (by rw[<-hc0];exact Nat.zero_le _) (by rw[<-hc0];exact Nat.zero_le _) (λm hm=>by rw[<-hc0]at hm;cases hm) w' g hc;rw[hbc]at h;exact h
 refine iF gt_low (λw1 hC1 gw1=> ?_);rw[hc0]at hC1;have hG1:Grow w w1:=ae hC1.1;have ch1:=hC1.2;have hGF1:=gt_low.plain gw1;clear hC1;refine ai (E:=EE [10])<|Mv O<|?_;refine e5 gt_low (M:=c0.own) ch1.low O O ent10 O O hGF1 (Q:=G3 c0 5#64 1) (λw' h g'=>hT w' g' (ch1.grow h)) (λw2a wa v g12 hm2 ga hq=> ?_);obtain ⟨d,m1,m2,rfl,cha,exa,hla,k1,k2⟩:=hq;have hGFa:=gt_low.plain ga;have hGa:Grow w wa:=hm2.grow0 (hG1.trans g12) how;rw[hcf,D1]at k1 k2;rw[hsd];have hm1:=iy _ _ k1;obtain ⟨m1ok,m1r,_⟩:=cha.ks m1 hm1;have m1l:=hla m1 hm1;have dcf:d.cf=cK:=exa.cf.trans hcf;have dsd:d.sd=1#64:=exa.sd.trans hsd;have dbc:d.bc=bc:=exa.bc.trans hbc;have d1:xv 1#64 1 0#64 m1:=(exa.doc _ _ k1).elim (λh=>by rw[<-hc0]at h;cases h) (λh=>by rw[hsd,hcf]at h;exact h)
 have d2:xv 1#64 1 1#64 m2:=(exa.doc _ _ k2).elim (λh=>by rw[<-hc0]at h;cases h) (λh=>by rw[hsd,hcf]at h;exact h)
 have hne:=BG d1 d2;have hvf:=DC 1#64 5#64 m1 m2 1;have bok:(BOV 1#64 5#64 m1 m2 1).Ok:=FH m1ok;have bhd:(BOV 1#64 5#64 m1 m2 1).hd=HDV 1#64 5#64 Z0 (m1.rt 1) (m2.rt 1):=rfl;have bnw:(BOV 1#64 5#64 m1 m2 1).nw=m1:=rfl;have qK:=exa.nK;have qS:=exa.nS;have qA:=exa.nA;have zK:c0.nK=0:=by rw[<-hc0];rfl
 have zS:c0.nS=0:=by rw[<-hc0];rfl
 have zA:c0.ats.length=0:=by rw[<-hc0];rfl
 have hTr: ∀w',Grow wa w'->Gt w'->CLS 11 [pnt bc,U64 5#64].toArray w' (λe w''=>e=.returned (.agg ((HDV 1#64 5#64 Z0 (m1.rt 1) (m2.rt 1)).rt.map U8).toArray)/\Grow w' w''):=λw' h g'=>by have h1:=xt d 5#64 1 m1 m2 (by rw[dcf,D1];exact k1) (by rw[dcf,D1];exact k2) (by rw[dcf];rfl) aC om om om hla w' g' (cha.grow h);rw[dbc,dsd]at h1;exact h1
 obtain ⟨hr,hhr⟩: ∃x,(HDV 1#64 5#64 Z0 (m1.rt 1) (m2.rt 1)).rt=x:=⟨_,rfl⟩;have hrl:hr.length=32:=by rw[<-hhr];exact Hd.rt_len (rq _ _ (Co.rt_len _ _) (Co.rt_len _ _))
 rw[hhr]at hne hTr;rw[<-bhd]at hhr;have b5:(BOV 1#64 5#64 m1 m2 1).hd.s=5#64:=rfl;rw[show m1.rt 1=(BOV 1#64 5#64 m1 m2 1).nw.rt (BOV 1#64 5#64 m1 m2 1).nw.ks.length from by rw[bnw,m1l]]at hvf
 clear bhd;generalize BOV 1#64 5#64 m1 m2 1=bo at hvf bok bnw hhr b5⊢;subst bnw;have hB0:k4 hr bo=0:=wQ (decide_eq_true hhr) hvf;have hB1:k4 Z0 bo=230:=yx (decide_eq_false (λh=>hne (hhr.symm.trans h)));have hcfg: ∀w',Grow wa w'->∀j v,cK.cs[j]? =some v->w'.cell? ((⟨bc,2,none⟩:Addr).add j)=some v:=λw' h j v hv=>by rw[Addr.add_mid,<-dbc];exact ((cha.grow h).oc.cell _).trans ((Cn.at_cf cha.cf j (by have:=(List.getElem?_eq_some_iff.1 hv).1;rwa [Cf.len j2]at this)).trans (by rw[dcf];exact hv))
 obtain ⟨st,hst⟩: ∃x:St,x=⟨bo.hd,bo.hd,bo.nw,Co0,none,0,0,0#64,0#64⟩:=⟨_,rfl⟩;have sok:st.Ok:=by rw[hst];exact ⟨bok.hd,bok.hd,bok.nw,jH⟩
 have sf5:st.f.s=5#64:=by rw[hst];exact b5
 have hvb: ∀b x,VB st (mH b x):=λb x=>by rw[hst];exact ⟨by show bo.nw.ks.length<=1000;omega,Nat.zero_le _,Nat.zero_le _,by show 1<=1000;decide⟩
 have hvm: ∀w' b x,Grow wa w'->w'.rangeAt b 0 [.bool x]->VM w' st (mH b x):=λw' b x h hr=>by rw[hst];exact ⟨m1r.grow h,CS _ _,CS _ _,CellsAt.range hr⟩
 refine Al 2 hGFa Gm<|λb2=>am 2 hGFa O O O sizeOf38 (Bo.len bok) O (Bo.one _) O<|aa<|Xp<|Fa 0 O underlying38 O sizeOf30<|aH (cs:=bo.hd.cs) O isAgg30 sizeOf30 (Hd.len bok.hd) (λw' hw' j v hv=>by have:=(aw (n:=2) O w' hw') _ v (Bo.at_hd j v hv);rwa [Nat.zero_add]at this) O O<|Fa 0 O underlying38 O sizeOf30<|aH (cs:=bo.hd.cs) O isAgg30 sizeOf30 (Hd.len bok.hd) (λw' hw' j v hv=>by have:=(aw (n:=2) O w' hw') _ v (Bo.at_hd j v hv);rwa [Nat.zero_add]at this) O O<|Fa 98 O underlying38 O sizeOf35<|aH (cs:=bo.nw.cs) O isAgg35 sizeOf35 (Co.len bok.nw) (λw' hw' j v hv=>by have:=(aw (n:=2) O w' hw') _ v (Bo.at_nw bok j v hv);rwa [Nat.zero_add]at this) O O<|cm (ps:=[(0,.tmp 11),(1,.tmp 13),(2,.tmp 15)]) (vs:=[.agg bo.hd.cs.toArray,.agg bo.hd.cs.toArray,.agg bo.nw.cs.toArray]) O (λw=>IB bo.hd bo.hd bo.nw bok.hd bok.hd bok.nw w) O O<|?_
 rw[<-hst];refine Al 3 hGFa zvSt<|λb3=>am 3 hGFa O O O sizeOf53 (St.len sok) (St.len FP) (St.one _) O<|aa<|Xp<|Al 4 hGFa zvUp<|λb4=>aa<|Xp<|iW 17 [.bool true] (ps:=[(0,.const (.bool true))]) hGFa O O O aC aC underlying65 sizeOf4 zeroValue4 O O O<|λb17=>Fa 597 O underlying71 O sizeOf69<|Fa 597 O underlying69 O sizeOf65<|df 4 hGFa O O O sizeOf65 O (by rw[Up.len Fe];decide) O<|?_
 rw[show Up0.cs.set 597 (.slice (spt b17) [Value.bool true].length [Value.bool true].length)=(UA b17).cs from HT b17];refine aa<|Xp<|Fa 694 O underlying71 O sizeOf22<|df 4 hGFa O O O sizeOf22 O (by rw[Up.len (u:=UA b17) ⟨gW,jH,rfl,gW,rfl,⟨rfl⟩⟩];decide) O<|?_
 rw[show (UA b17).cs.set 694 _=(UB b17).cs from Hu b17];refine Fa 0 O underlying71 O sizeOf30<|Fa 0 O underlying30 O sizeOf22<|df 4 hGFa O O O sizeOf22 O (by rw[Up.len (u:=UB b17) ⟨gW,jH,rfl,gW,rfl,⟨rfl⟩⟩];decide) O<|?_
 rw[show (UB b17).cs.set 0 _=(mH b17 true).cs from E9 b17];refine aa<|Xd []<|Mv O<|aU O O O<|Fa 2 O underlying61 O sizeOf50<|bx (cs:=cK.cs) O isAgg50 sizeOf50 (Cf.len j2) (λw' h=>hcfg w' (ae h)) O O<|ao 3 O O isAgg53 sizeOf53 (St.len sok) O O<|ao 4 O O isAgg71 sizeOf71 (Up.len (iM b17 true)) O O<|Cc O ent25 (λw' hw' hG=>hR.vE cK st (mH b17 true) 6#64 j2 sok (iM _ _) (hvb _ _) sQ (by show 1≠0;decide) (by show 6#64<7#64;decide) w' hG (hvm w' b17 true (ae hw') (aw (n:=17) O w' hw')))<|Asg O<|aa<|Xd []<|Mv O<|aU O O O<|Fa 2 O underlying61 O sizeOf50<|bx (cs:=cK.cs) O isAgg50 sizeOf50 (Cf.len j2) (λw' h=>hcfg w' (ae h)) O O<|ao 3 O O isAgg53 sizeOf53 (St.len sok) O O<|ao 4 O O isAgg71 sizeOf71 (Up.len (iM b17 true)) O O<|Cc O ent25 (λw' hw' hG=>hR.vW cK st (mH b17 true) 7#64 j2 sok (iM _ _) (hvb _ _) sQ (by show 1≠0;decide) (by show¬7#64<7#64;decide) (by show 6#64<7#64;decide) (by show¬6#64<0#64;decide) (by rw[sf5,D1];exact cK_7) (by rw[sf5];show 5#64<6#64;decide) kr O kr kr O w' hG (hvm w' b17 true (ae hw') (aw (n:=17) O w' hw')))<|Asg O<|aa<|Xp<|Fa 597 O underlying71 O sizeOf69<|Fa 597 O underlying69 O sizeOf65<|cr 4 O O (show (mH b17 true).cs[597]? =some (.slice (spt b17) 1 1)from by kernel_rfl) isAgg65 O O<|FA 0 O O underlying65 sizeOf4 O aC O O<|df 17 hGFa O O O sizeOf4 O aC O<|?_
 rw[show [Value.bool true].set 0 (nrm (.bool false))=[Value.bool false]from O,H7 b17];refine aa<|Xd []<|Mv O<|aU O O O<|Fa 2 O underlying61 O sizeOf50<|bx (cs:=cK.cs) O isAgg50 sizeOf50 (Cf.len j2) (λw' h=>hcfg w' (ae h)) O O<|Mv O<|Cc O ent11 (λw' hw' hG=>hTr w' (ae hw') hG)<|ao 2 O O isAgg38 sizeOf38 (Bo.len bok) O O<|Cc O ent14 (λw' hw' hG=>hR.beg cK hr bo j2 hrl bok om w' hG (m1r.grow (ae hw')))<|?_;rw[show (bif cK.rt then k4 hr bo else 210)=0 from by rw[sQ,hB0];rfl]
 refine Bnb true O O (λ_=>ct _ 0 0) O<|Mv O<|Mv O<|aU O O O<|Fa 2 O underlying61 O sizeOf50<|bx (cs:=cK.cs) O isAgg50 sizeOf50 (Cf.len j2) (λw' h=>hcfg w' (ae h)) O O<|cm (ps:=[]) (vs:=[]) (v:=.agg (Z0.map U8).toArray) O (λw=>q8 w) O O<|ao 2 O O isAgg38 sizeOf38 (Bo.len bok) O O<|Cc O ent14 (λw' hw' hG=>hR.beg cK Z0 bo j2 O bok om w' hG (m1r.grow (ae hw')))<|?_;rw[show (bif cK.rt then k4 Z0 bo else 210)=230 from by rw[sQ,hB1];rfl]
 refine Bnb true O O (λ_=>ct _ 230 230) O<|Pk O O O<|Mv O<|Mv O<|Bnb true O O (λ_=>ct _ 233 233) O<|Pk O O O<|Mv O<|Mv O<|Bnb true O O (λ_=>ct _ 238 238) O<|Pk O O O<|Mv O<|Mv O<|aU O O O<|Fa 2 O underlying61 O sizeOf50<|bx (cs:=cK.cs) O isAgg50 sizeOf50 (Cf.len j2) (λw' h=>hcfg w' (ae h)) O O<|ao 3 O O isAgg53 sizeOf53 (St.len sok) O O<|ao 4 O O isAgg71 sizeOf71 (Up.len (iM b17 false)) O O<|Cc O ent25 (λw' hw' hG=>hR.vF cK st (mH b17 false) 7#64 j2 sok (iM _ _) (hvb _ _) sQ O w' hG (hvm w' b17 false (ae hw') (aw (n:=17) O w' hw')))<|Bnb true O O (λ_=>ct _ 232 232) O<|Pk O O O<|Mv O<|ao 4 O O isAgg71 sizeOf71 (Up.len (iM b17 false)) O O<|Cc O ent19 (λw' hw' hG=>hR.isn (mH b17 false) (iM _ _) w' hG)<|?_;rw[show (mH b17 false).isn=false from by kernel_rfl]
 refine co O (λ_=>bT _) O O<|Pk O O O<|Mv O<|ao 3 O O isAgg53 sizeOf53 (St.len sok) O O<|Cc O ent23 (λw' hw' hG=>hR.kno st sok (by rw[hst];exact Nat.zero_le _) w' hG (by rw[hst];exact CS _ _))<|?_
 rw[show (!oQ st.nx)=false from by rw[hst];kernel_rfl]
 refine co O (λ_=>bT _) O O<|Pk O O O<|Asg O<|aa<|ar<|Rr<|?_;exact au O O (λw' hw'=>⟨rfl,hGa.trans (ae hw')⟩)
end
section
open Go.RowKit
open Sh
theorem J6(op:BinOp)(x y:Operand)(xs ys:Array Value)(w:World):(eqGuard op 36 x y (.agg xs) (.agg ys)).run prog w=.ok () w:=run_eqGuard_agg w op 36 x y xs ys kr
theorem IT(op:BinOp)(x y:Operand)(xs ys:Array Value)(w:World):(eqGuard op 64 x y (.agg xs) (.agg ys)).run prog w=.ok () w:=run_eqGuard_agg w op 64 x y xs ys kr
theorem Am(op:BinOp)(x y:Operand)(xs ys:Array Value)(w:World):(eqGuard op 33 x y (.agg xs) (.agg ys)).run prog w=.ok () w:=run_eqGuard_agg w op 33 x y xs ys kr
theorem Ar:EqB prog 28 32 2:=ET underlying28 underlying5 sizeOf5 isAgg5
theorem Lt:EqB prog 36 160 3:=vQ (k:=5) (n:=32) aC underlying36 isAgg28 sizeOf28 Ar
theorem Lu:EqB prog 64 192 3:=vQ (k:=6) (n:=32) aC underlying64 isAgg28 sizeOf28 Ar
theorem yS:EqB prog 33 48 2:=ET underlying33 underlying5 sizeOf5 isAgg5
theorem zvT6(w:World):(zeroValue 64).run prog w=.ok (.agg ((Zs 192).map U8).toArray) w:=(zeroValue64 w).trans aE
theorem zy(w:World):(zeroValue 33).run prog w=.ok (.agg ((Zs 48).map U8).toArray) w:=(zeroValue33 w).trans aE
theorem G0{c:Co}{i:Nat}{x:By}(hx:c.ks[i]? =some x)(h:decide (x=(Zs 48))=false):oQ c=false:=by
 unfold oQ;rw[Bool.and_eq_false_iff];refine .inl (Bool.eq_false_iff.2 λh1=> ?_);have h2:=List.all_eq_true.1 h1 x (List.mem_of_getElem? hx);rw[h]at h2
 cases h2
theorem Du{c:Co}(h: ∀j r,j<c.ks.length->c.ks[j]? =some r->r=(Zs 48)):oQ c=decide (c.sum=(Zs 48)):=by
 unfold oQ;rw[show c.ks.all (λk=>decide (k=(Zs 48)))=true from List.all_eq_true.2 λx hx=>by
  obtain ⟨j,hj,rfl⟩:=List.mem_iff_getElem.1 hx;exact decide_eq_true (h j _ hj (List.getElem?_eq_getElem hj)),Bool.true_and]
theorem St.at_nx{s:St}(k:s.Ok)(j:Nat)(v:Value)(h:s.nx.cs[j]? =some v):s.cs[245+j]? =some v:=by
 rw[St.cs,List.getElem?_append_right (by rw[Hd.len k.f];omega),Hd.len k.f,List.getElem?_append_right (by rw[Hd.len k.o];omega),Hd.len k.o,List.getElem?_append_right (by rw[Co.len k.nw];omega),Co.len k.nw,show 245+j-98-98-49=j from by omega,List.getElem?_append_left (List.getElem?_eq_some_iff.1 h).1];exact h
theorem St.at_nw{s:St}(k:s.Ok)(j:Nat)(v:Value)(h:s.nw.cs[j]? =some v):s.cs[196+j]? =some v:=by
 rw[St.cs,List.getElem?_append_right (by rw[Hd.len k.f];omega),Hd.len k.f,List.getElem?_append_right (by rw[Hd.len k.o];omega),Hd.len k.o,show 196+j-98-98=j from by omega,List.getElem?_append_left (List.getElem?_eq_some_iff.1 h).1];exact h
theorem tK(l:List Bool)(i:Nat)(b:Bool)(h:l[i]? =some b):onN (l.take (i+1))=onN (l.take i)+b.toNat:=by
 unfold onN;rw[List.take_add_one,h,List.filter_append,List.length_append]
 cases b<;>rfl
theorem GJ(l:List Bool):onN l<=l.length:=List.length_filter_le _ _
end
section
open Go.RowKit
open Sh
theorem Up.at_bs{u:Up}(k:u.Ok):u.cs[597]? =some (.slice u.sy.ba u.sy.bs.length u.sy.bc):=Up.l6 k 0 _ O
theorem Up.at_ks{u:Up}(k:u.Ok):u.cs[98]? =some (.slice u.nx.ka u.nx.ks.length u.nx.kc):=Up.l2 k 0 _ O
def Bo0:Bo:=⟨Hdz,Co0,Zs 160⟩
theorem Gi:Bo0.Ok:=⟨gW,jH,rfl⟩
theorem Gb(w:World):(Instr.build 38 #[]).run prog w=.ok (.agg Bo0.cs.toArray) w:=
 cQ (c:=Bo0.cs) (ps:= #[(0,98),(98,49),(147,160)]) (λw=>(zeroValue38 w).trans aE) underlying38 (λw=>by simp[sizeOf30,sizeOf35,sizeOf36]) [] O w
theorem rV(hR:RulesP)(c:Cf)(hc_:c.Ok)(u:Up)(hu:u.Ok)(s:St)(hs:s.Ok)(hb1:u.nx.ks.length<=4611686018427387904)(hb2:s.nx.ks.length<=1000000000000000000)(hb3:s.nw.ks.length<=1000000000000000000)(w:World)(hw:Gt w)(hm:VM w s u):CLS 6 [.agg c.cs.toArray,.agg u.cs.toArray,.agg s.cs.toArray].toArray w (λe w'=>e=.returned (.bool true)/\Grow w w'):=by
 refine Hf func6 O hw<|λhGF=>Xp<|Bx 3 hGF O<|λb3=>Bx 4 hGF O<|λb4=>Bx 5 hGF O<|λb5=>Asg O<|aa<|ah<|Xp<|Cc O ent8 (λw' _ hG=>CD hR w' hG)<|co O (λ_=>bT _) O O<|aa<|aJ O<|ay<|ah<|Xp<|ao 3 O O isAgg50 sizeOf50 (Cf.len hc_) O O<|?_;rcases Bool.eq_false_or_eq_true (c.rt)with hr|hr
 ·refine Cbl true O ent16 (vU c hc_) (hr)<|Mv O<|Sk<|Sk<|Sk<|Sk<|Sk<|Pk O O O<|Mv O<|Sk<|Sk<|Sk<|Sk<|Sk<|Sk<|Sk<|Sk<|Sk<|Sk<|Sk<|Sk<|Sk<|Sk<|Sk<|Pk O O O<|aa<|aQ O<|Xp<|Asg O<|aa<|ar<|Rr<|?_
  exact au O O (λw' hw'=>⟨rfl,ae hw'⟩)
 ·refine Cbl false O ent16 (vU c hc_) (hr)<|Mv O<|Fa 597 O underlying71 O sizeOf69<|Fa 597 O underlying69 O sizeOf65<|cr 4 O O (Up.at_bs hu) isAgg65 O O<|bv O (λ_=>aO underlying65 _ _ _ _) O O<|?_
  rcases Bool.eq_false_or_eq_true (decide ((u.sy.bs.length:Int)>40))with hq|hq
  ·refine Bnb true O O (λ_=>di _ (u.sy.bs.length:Int) 40) (hq)<|Pk O O O<|Mv O<|Sk<|Sk<|Sk<|Sk<|Sk<|Sk<|Sk<|Sk<|Sk<|Sk<|Sk<|Sk<|Sk<|Sk<|Sk<|Pk O O O<|aa<|aQ O<|Xp<|Asg O<|aa<|ar<|Rr<|?_
   exact au O O (λw' hw'=>⟨rfl,ae hw'⟩)
  ·have hl1:=of_decide_eq_false hq
   refine Bnb false O O (λ_=>di _ (u.sy.bs.length:Int) 40) (hq)<|Pk O O O<|Mv O<|Fa 98 O underlying71 O sizeOf35<|Fa 98 O underlying35 O sizeOf31<|cr 4 O O (Up.at_ks hu) isAgg31 O O<|bv O (λ_=>aO underlying31 _ _ _ _) O O<|Fa 245 O underlying53 O sizeOf35<|Fa 245 O underlying35 O sizeOf31<|cr 5 O O (St.at_nx hs 0 (.slice s.nx.ka s.nx.ks.length s.nx.kc) O) isAgg31 O O<|bv O (λ_=>aO underlying31 _ _ _ _) O O<|Bnr (v:=I ((u.nx.ks.length:Int)+(s.nx.ks.length:Int))) O O (λ_=>av _ _ _ aG)<|Fa 196 O underlying53 O sizeOf35<|Fa 196 O underlying35 O sizeOf31<|cr 5 O O (St.at_nw hs 0 (.slice s.nw.ka s.nw.ks.length s.nw.kc) O) isAgg31 O O<|bv O (λ_=>aO underlying31 _ _ _ _) O O<|Bnr (v:=I ((u.nx.ks.length:Int)+(s.nx.ks.length:Int)+(s.nw.ks.length:Int))) O O (λ_=>av _ _ _ aG)<|?_;rcases Bool.eq_false_or_eq_true (decide ((u.nx.ks.length:Int)+(s.nx.ks.length:Int)+(s.nw.ks.length:Int)>60))with hp|hp
   ·refine Bnb true O O (λ_=>di _ ((u.nx.ks.length:Int)+(s.nx.ks.length:Int)+(s.nw.ks.length:Int)) 60) (hp)<|Pk O O O<|aa<|aQ O<|Xp<|Asg O<|aa<|ar<|Rr<|?_
    exact au O O (λw' hw'=>⟨rfl,ae hw'⟩)
   ·have hl2:=of_decide_eq_false hp
    refine Bnb false O O (λ_=>di _ ((u.nx.ks.length:Int)+(s.nx.ks.length:Int)+(s.nw.ks.length:Int)) 60) (hp)<|Pk O O O<|aa<|aJ O<|ay<|Xp<|ao 3 O O isAgg50 sizeOf50 (Cf.len hc_) O O<|ao 5 O O isAgg53 sizeOf53 (St.len hs) O O<|ao 4 O O isAgg71 sizeOf71 (Up.len hu) O O<|Cc O ent25 (λw' hw' hG=>hR.vS c s u 9#64 hc_ hs hu ⟨om,om,om,om⟩ hr w' hG ⟨hm.1.grow (ae hw'),hm.2.1.grow (ae hw'),hm.2.2.1.grow (ae hw'),hm.2.2.2.grow (ae hw')⟩)<|Bnb true O O (λ_=>ct _ 210 210) O<|Mv O<|ao 3 O O isAgg50 sizeOf50 (Cf.len hc_) O O<|cm (ps:=[]) (vs:=[]) (v:=.agg (Z0.map U8).toArray) O (λw=>q8 w) O O<|cm (ps:=[]) (vs:=[]) (v:=.agg Bo0.cs.toArray) O (λw=>Gb w) O O<|Cc O ent14 (λw' hw' hG=>hR.beg c Z0 Bo0 hc_ O Gi (Nat.zero_le _) w' hG (CS _ _))<|?_;rw[show (bif c.rt then k4 Z0 Bo0 else 210)=210 from by rw[hr];rfl]
    refine Bnb true O O (λ_=>ct _ 210 210) O<|Pk O O O<|Asg O<|aa<|ar<|Rr<|?_;exact au O O (λw' hw'=>⟨rfl,ae hw'⟩)
end
section
open Go.RowKit
open Sh
theorem ent181:aI prog 181:=λ_ _=>kr
theorem ent148:aI prog 148:=λ_ _=>kr
theorem ent180:aI prog 180:=λ_ _=>kr
theorem ent179:aI prog 179:=λ_ _=>kr
theorem ent147:aI prog 147:=λ_ _=>kr
theorem i2{P:Program}{G:Cls}{ro:Option Nat}{ops:Array Oper}{N:Nat}{ds:List Deferred}{fs:List Nat}{Z:Fr->Cls->Prop}{F:Fr}{C:Cls}{rest:List Oper}{d:Nat}{ty:TypeId}{pos:String}{af:Array Edge}{gd:Option (Nat×Bool)}{t:TypeId}{x ix:Operand}{s:ByteArray}{y:BitVec 64}(hb:y.toNat<256)(hT:Bb s=true)(hx:evF F x=some (.string s))(hi:evF F ix=some (U8 (y.setWidth 8)))(hu:P.underlying t=some .string)
 (hw:be ops F ⟨some d,.index t x ix,ty,pos,af,gd⟩=some true) (hd:Nat.blt d N=true) (h: ∀q:BitVec 8,IsL y.toNat q.toNat->Lx P G ro ops N ds (EE fs) Z rest ((d,U8 q)::F) C):Lx P G ro ops N ds (EE fs) Z (⟨some d,.index t x ix,ty,pos,af,gd⟩::rest) F C:=by
 obtain ⟨q,hq,hL⟩:=yj hT hb;have e:(y.setWidth 8).toNat=y.toNat:=by rw[BitVec.toNat_setWidth,Nat.mod_eq_of_lt hb]
 exact Dw hx hi hu om (by rw[Int.toNat_natCast,e];exact hq) hw hd (h q hL)
theorem ta(x:BitVec 64)(w:World)(hw:Gt w):CLS 181 [U64 x].toArray w (λe w'=>e=.returned (I (ln x.toNat:Int))/\Grow w w'):=by
 have hS: ∀k,IsL x.toNat k->IsL x.toNat (k+0):=λk hk=>hk;have hb:x.toNat<4294967296*4294967296:=x.isLt;refine Hf func181 O hw<|λhGF=>Xp<|Asg O<|aa<|ah<|Xp<|Mv O<|?_;rcases Nat.lt_or_ge x.toNat 4294967296 with h|h
 ·have hb:=h
  refine Bnb false O O (λ_=>bM _ _ _) (by rw[decide_eq_false_iff_not,BitVec.le_def];exact Nat.not_le.2 h)<|aa<|aJ O<|ay<|ah<|Xp<|Mv O<|?_
  rcases Nat.lt_or_ge x.toNat 65536 with h|h
  ·have hb:=h
   refine Bnb false O O (λ_=>bM _ _ _) (by rw[decide_eq_false_iff_not,BitVec.le_def];exact Nat.not_le.2 h)<|aa<|aJ O<|ay<|ah<|Xp<|Mv O<|?_
   rcases Nat.lt_or_ge x.toNat 256 with h|h
   ·have hb:=h
    refine Bnb false O O (λ_=>bM _ _ _) (by rw[decide_eq_false_iff_not,BitVec.le_def];exact Nat.not_le.2 h)<|aa<|aJ O<|ay<|Xp<|Mv O<|Mv O<|bF O O (λ_=>bX underlying22 underlying5 _) O O<|?_
    refine i2 hb kr O O underlying9 O O (λq hL=> ?_);refine bF O O (λ_=>fJ underlying5 underlying3 _) O O<|Bnr (v:=I (ln x.toNat:Int)) O O (λ_=>(av _ _ _ (by have:=q.isLt;unfold inI;omega)).trans (by rw[(hS _ hL).eq];congr 2;omega))<|Asg O<|aa<|ar<|Rr<|?_
    exact au O O (λw' hw'=>⟨rfl,ae hw'⟩)
   ·obtain ⟨y3,hy⟩: ∃y:BitVec 64,x>>>8=y:=⟨_,rfl⟩
    have hn:y3.toNat=x.toNat / 2^8:=by rw[<-hy,BitVec.toNat_ushiftRight,Nat.shiftRight_eq_div_pow]
    have hS: ∀k,IsL y3.toNat k->IsL x.toNat (k+8):=λk hk=>by have:=hS _ (IsL.shift 8 (hn▸hk) h);rw[Nat.add_assoc]at this;exact this
    have hb:y3.toNat<256:=by rw[hn];exact (Nat.div_lt_iff_lt_mul aC).2 hb
    clear hn;refine Bnb true O O (λ_=>bM _ _ _) (by rw[decide_eq_true_eq,BitVec.le_def];exact h)<|aa<|aQ O<|Xp<|Mv O<|Bnr (v:=U64 y3) O O (λ_=>(cB _ _ 8#64).trans (by rw[show (8#64).toNat=8 from O,hy]))<|Asg O<|aa<|Xq<|Mv O<|Bnr (v:=I 8) O O (λ_=>(av _ _ _ (by unfold inI;decide)).trans aE)<|Asg O<|aa<|Xp<|Mv O<|Mv O<|bF O O (λ_=>bX underlying22 underlying5 _) O O<|?_
    refine i2 hb kr O O underlying9 O O (λq hL=> ?_);refine bF O O (λ_=>fJ underlying5 underlying3 _) O O<|Bnr (v:=I (ln x.toNat:Int)) O O (λ_=>(av _ _ _ (by have:=q.isLt;unfold inI;omega)).trans (by rw[(hS _ hL).eq];congr 2;omega))<|Asg O<|aa<|ar<|Rr<|?_
    exact au O O (λw' hw'=>⟨rfl,ae hw'⟩)
  ·obtain ⟨y2,hy⟩: ∃y:BitVec 64,x>>>16=y:=⟨_,rfl⟩
   have hn:y2.toNat=x.toNat / 2^16:=by rw[<-hy,BitVec.toNat_ushiftRight,Nat.shiftRight_eq_div_pow]
   have hS: ∀k,IsL y2.toNat k->IsL x.toNat (k+16):=λk hk=>by have:=hS _ (IsL.shift 16 (hn▸hk) h);rw[Nat.add_assoc]at this;exact this
   have hb:y2.toNat<65536:=by rw[hn];exact (Nat.div_lt_iff_lt_mul aC).2 hb
   clear hn;refine Bnb true O O (λ_=>bM _ _ _) (by rw[decide_eq_true_eq,BitVec.le_def];exact h)<|aa<|aQ O<|Xp<|Mv O<|Bnr (v:=U64 y2) O O (λ_=>(cB _ _ 16#64).trans (by rw[show (16#64).toNat=16 from O,hy]))<|Asg O<|aa<|Xq<|Mv O<|Bnr (v:=I 16) O O (λ_=>(av _ _ _ (by unfold inI;decide)).trans aE)<|Asg O<|aa<|ah<|Xp<|Mv O<|?_
   rcases Nat.lt_or_ge y2.toNat 256 with h|h
   ·have hb:=h
    refine Bnb false O O (λ_=>bM _ _ _) (by rw[decide_eq_false_iff_not,BitVec.le_def];exact Nat.not_le.2 h)<|aa<|aJ O<|ay<|Xp<|Mv O<|Mv O<|bF O O (λ_=>bX underlying22 underlying5 _) O O<|?_
    refine i2 hb kr O O underlying9 O O (λq hL=> ?_);refine bF O O (λ_=>fJ underlying5 underlying3 _) O O<|Bnr (v:=I (ln x.toNat:Int)) O O (λ_=>(av _ _ _ (by have:=q.isLt;unfold inI;omega)).trans (by rw[(hS _ hL).eq];congr 2;omega))<|Asg O<|aa<|ar<|Rr<|?_
    exact au O O (λw' hw'=>⟨rfl,ae hw'⟩)
   ·obtain ⟨y3,hy⟩: ∃y:BitVec 64,y2>>>8=y:=⟨_,rfl⟩
    have hn:y3.toNat=y2.toNat / 2^8:=by rw[<-hy,BitVec.toNat_ushiftRight,Nat.shiftRight_eq_div_pow]
    have hS: ∀k,IsL y3.toNat k->IsL x.toNat (k+24):=λk hk=>by have:=hS _ (IsL.shift 8 (hn▸hk) h);rw[Nat.add_assoc]at this;exact this
    have hb:y3.toNat<256:=by rw[hn];exact (Nat.div_lt_iff_lt_mul aC).2 hb
    clear hn;refine Bnb true O O (λ_=>bM _ _ _) (by rw[decide_eq_true_eq,BitVec.le_def];exact h)<|aa<|aQ O<|Xp<|Mv O<|Bnr (v:=U64 y3) O O (λ_=>(cB _ _ 8#64).trans (by rw[show (8#64).toNat=8 from O,hy]))<|Asg O<|aa<|Xq<|Mv O<|Bnr (v:=I 24) O O (λ_=>(av _ _ _ (by unfold inI;decide)).trans aE)<|Asg O<|aa<|Xp<|Mv O<|Mv O<|bF O O (λ_=>bX underlying22 underlying5 _) O O<|?_
    refine i2 hb kr O O underlying9 O O (λq hL=> ?_);refine bF O O (λ_=>fJ underlying5 underlying3 _) O O<|Bnr (v:=I (ln x.toNat:Int)) O O (λ_=>(av _ _ _ (by have:=q.isLt;unfold inI;omega)).trans (by rw[(hS _ hL).eq];congr 2;omega))<|Asg O<|aa<|ar<|Rr<|?_
    exact au O O (λw' hw'=>⟨rfl,ae hw'⟩)
 ·obtain ⟨y1,hy⟩: ∃y:BitVec 64,x>>>32=y:=⟨_,rfl⟩
  have hn:y1.toNat=x.toNat / 2^32:=by rw[<-hy,BitVec.toNat_ushiftRight,Nat.shiftRight_eq_div_pow]
  have hS: ∀k,IsL y1.toNat k->IsL x.toNat (k+32):=λk hk=>by have:=hS _ (IsL.shift 32 (hn▸hk) h);rw[Nat.add_assoc]at this;exact this
  have hb:y1.toNat<4294967296:=by rw[hn];exact (Nat.div_lt_iff_lt_mul aC).2 hb
  clear hn;refine Bnb true O O (λ_=>bM _ _ _) (by rw[decide_eq_true_eq,BitVec.le_def];exact h)<|aa<|aQ O<|Xp<|Mv O<|Bnr (v:=U64 y1) O O (λ_=>(cB _ _ 32#64).trans (by rw[show (32#64).toNat=32 from O,hy]))<|Asg O<|aa<|Xq<|Asg O<|aa<|ah<|Xp<|Mv O<|?_
  rcases Nat.lt_or_ge y1.toNat 65536 with h|h
  ·have hb:=h
   refine Bnb false O O (λ_=>bM _ _ _) (by rw[decide_eq_false_iff_not,BitVec.le_def];exact Nat.not_le.2 h)<|aa<|aJ O<|ay<|ah<|Xp<|Mv O<|?_
   rcases Nat.lt_or_ge y1.toNat 256 with h|h
   ·have hb:=h
    refine Bnb false O O (λ_=>bM _ _ _) (by rw[decide_eq_false_iff_not,BitVec.le_def];exact Nat.not_le.2 h)<|aa<|aJ O<|ay<|Xp<|Mv O<|Mv O<|bF O O (λ_=>bX underlying22 underlying5 _) O O<|?_
    refine i2 hb kr O O underlying9 O O (λq hL=> ?_);refine bF O O (λ_=>fJ underlying5 underlying3 _) O O<|Bnr (v:=I (ln x.toNat:Int)) O O (λ_=>(av _ _ _ (by have:=q.isLt;unfold inI;omega)).trans (by rw[(hS _ hL).eq];congr 2;omega))<|Asg O<|aa<|ar<|Rr<|?_
    exact au O O (λw' hw'=>⟨rfl,ae hw'⟩)
   ·obtain ⟨y3,hy⟩: ∃y:BitVec 64,y1>>>8=y:=⟨_,rfl⟩
    have hn:y3.toNat=y1.toNat / 2^8:=by rw[<-hy,BitVec.toNat_ushiftRight,Nat.shiftRight_eq_div_pow]
    have hS: ∀k,IsL y3.toNat k->IsL x.toNat (k+40):=λk hk=>by have:=hS _ (IsL.shift 8 (hn▸hk) h);rw[Nat.add_assoc]at this;exact this
    have hb:y3.toNat<256:=by rw[hn];exact (Nat.div_lt_iff_lt_mul aC).2 hb
    clear hn;refine Bnb true O O (λ_=>bM _ _ _) (by rw[decide_eq_true_eq,BitVec.le_def];exact h)<|aa<|aQ O<|Xp<|Mv O<|Bnr (v:=U64 y3) O O (λ_=>(cB _ _ 8#64).trans (by rw[show (8#64).toNat=8 from O,hy]))<|Asg O<|aa<|Xq<|Mv O<|Bnr (v:=I 40) O O (λ_=>(av _ _ _ (by unfold inI;decide)).trans aE)<|Asg O<|aa<|Xp<|Mv O<|Mv O<|bF O O (λ_=>bX underlying22 underlying5 _) O O<|?_
    refine i2 hb kr O O underlying9 O O (λq hL=> ?_);refine bF O O (λ_=>fJ underlying5 underlying3 _) O O<|Bnr (v:=I (ln x.toNat:Int)) O O (λ_=>(av _ _ _ (by have:=q.isLt;unfold inI;omega)).trans (by rw[(hS _ hL).eq];congr 2;omega))<|Asg O<|aa<|ar<|Rr<|?_
    exact au O O (λw' hw'=>⟨rfl,ae hw'⟩)
  ·obtain ⟨y2,hy⟩: ∃y:BitVec 64,y1>>>16=y:=⟨_,rfl⟩
   have hn:y2.toNat=y1.toNat / 2^16:=by rw[<-hy,BitVec.toNat_ushiftRight,Nat.shiftRight_eq_div_pow]
   have hS: ∀k,IsL y2.toNat k->IsL x.toNat (k+48):=λk hk=>by have:=hS _ (IsL.shift 16 (hn▸hk) h);rw[Nat.add_assoc]at this;exact this
   have hb:y2.toNat<65536:=by rw[hn];exact (Nat.div_lt_iff_lt_mul aC).2 hb
   clear hn;refine Bnb true O O (λ_=>bM _ _ _) (by rw[decide_eq_true_eq,BitVec.le_def];exact h)<|aa<|aQ O<|Xp<|Mv O<|Bnr (v:=U64 y2) O O (λ_=>(cB _ _ 16#64).trans (by rw[show (16#64).toNat=16 from O,hy]))<|Asg O<|aa<|Xq<|Mv O<|Bnr (v:=I 48) O O (λ_=>(av _ _ _ (by unfold inI;decide)).trans aE)<|Asg O<|aa<|ah<|Xp<|Mv O<|?_
   rcases Nat.lt_or_ge y2.toNat 256 with h|h
   ·have hb:=h
    refine Bnb false O O (λ_=>bM _ _ _) (by rw[decide_eq_false_iff_not,BitVec.le_def];exact Nat.not_le.2 h)<|aa<|aJ O<|ay<|Xp<|Mv O<|Mv O<|bF O O (λ_=>bX underlying22 underlying5 _) O O<|?_
    refine i2 hb kr O O underlying9 O O (λq hL=> ?_);refine bF O O (λ_=>fJ underlying5 underlying3 _) O O<|Bnr (v:=I (ln x.toNat:Int)) O O (λ_=>(av _ _ _ (by have:=q.isLt;unfold inI;omega)).trans (by rw[(hS _ hL).eq];congr 2;omega))<|Asg O<|aa<|ar<|Rr<|?_
    exact au O O (λw' hw'=>⟨rfl,ae hw'⟩)
   ·obtain ⟨y3,hy⟩: ∃y:BitVec 64,y2>>>8=y:=⟨_,rfl⟩
    have hn:y3.toNat=y2.toNat / 2^8:=by rw[<-hy,BitVec.toNat_ushiftRight,Nat.shiftRight_eq_div_pow]
    have hS: ∀k,IsL y3.toNat k->IsL x.toNat (k+56):=λk hk=>by have:=hS _ (IsL.shift 8 (hn▸hk) h);rw[Nat.add_assoc]at this;exact this
    have hb:y3.toNat<256:=by rw[hn];exact (Nat.div_lt_iff_lt_mul aC).2 hb
    clear hn;refine Bnb true O O (λ_=>bM _ _ _) (by rw[decide_eq_true_eq,BitVec.le_def];exact h)<|aa<|aQ O<|Xp<|Mv O<|Bnr (v:=U64 y3) O O (λ_=>(cB _ _ 8#64).trans (by rw[show (8#64).toNat=8 from O,hy]))<|Asg O<|aa<|Xq<|Mv O<|Bnr (v:=I 56) O O (λ_=>(av _ _ _ (by unfold inI;decide)).trans aE)<|Asg O<|aa<|Xp<|Mv O<|Mv O<|bF O O (λ_=>bX underlying22 underlying5 _) O O<|?_
    refine i2 hb kr O O underlying9 O O (λq hL=> ?_);refine bF O O (λ_=>fJ underlying5 underlying3 _) O O<|Bnr (v:=I (ln x.toNat:Int)) O O (λ_=>(av _ _ _ (by have:=q.isLt;unfold inI;omega)).trans (by rw[(hS _ hL).eq];congr 2;omega))<|Asg O<|aa<|ar<|Rr<|?_
    exact au O O (λw' hw'=>⟨rfl,ae hw'⟩)
theorem Lz(n:Nat):IsL n (ln n):=by
 unfold ln;by_cases h0:n=0
 ·rw[if_pos h0];exact ⟨om,λe he=>om⟩
 ·rw[if_neg h0]
  exact ⟨(Nat.log2_lt h0).1 (Nat.lt_succ_self _),λe he=>(Nat.le_log2 h0).1 om⟩
theorem G8(n:Nat):dep n=min (ln (n-1)) 62:=by
 have h:=Lz (n-1);refine (uC om ?_ (λe he=>by have:=h.2 e om;have:=Nat.two_pow_pos e;omega)).symm
 rcases Nat.le_total (ln (n-1)) 62 with h6|h6
 ·rw[Nat.min_eq_left h6];exact .inr (by have:=h.1;omega)
 ·rw[Nat.min_eq_right h6];exact .inl O
theorem r9(n:Int)(hn:n<9223372036854775808)(w:World)(hw:Gt w):CLS 148 [I n].toArray w (λe w'=>e=.returned (I (dep n.toNat:Nat))/\Grow w w'):=by
 refine Hf func148 O hw<|λhGF=>Xp<|Asg O<|aa<|Xp<|Mv O<|uN (z:=(if n<1 then (1:Int)else n)) O O O O O<|Bnr (v:=I (((n.toNat-1:Nat):Int))) O O (λ_=>(bp _ _ _ (by unfold inI;split<;>omega)).trans (by congr 2;split<;>omega))<|bF O O (λ_=>dh underlying3 underlying22 _) O O<|Cc O ent181 (λw' _ hG=>ta _ w' hG)<|?_
 rw[BitVec.toNat_ofInt,show ((((n.toNat-1:Nat):Int) % ((2^64:Nat):Int)).toNat)=n.toNat-1 from by omega]
 refine jU (z:=(dep n.toNat:Int)) O O (by rw[G8];split<;>omega) O O<|Asg O<|aa<|ar<|Rr<|?_
 exact au O O (λw' hw'=>⟨rfl,ae hw'⟩)
end
section
open Go.RowKit
open Sh
theorem ent114:aI prog 114:=λ_ _=>kr
abbrev LC(a:Option Addr)(len cap:Nat)(r:Rt):List Value:=.slice a len cap::r.map U8
abbrev LV(a:Option Addr)(len cap:Nat)(r:Rt):Value:=.agg (LC a len cap r).toArray
theorem eY{a:Option Addr}{len cap:Nat}{r:Rt}(hr:r.length=32):(LC a len cap r).length=33:=by rw[LC,List.length_cons,List.length_map,hr]
theorem oV(a:Option Addr)(len cap:Nat)(r:Rt):(LC a len cap r).all (·.oneCell')=true:=by
 rw[LC,List.all_cons,bg];rfl
theorem zvL(w:World):(zeroValue 239).run prog w=.ok (LV none 0 0 Z0) w:=(zeroValue239 w).trans aE
theorem Kg(a:Option Addr)(len cap:Nat)(w:World):(Instr.build 239 #[(0,.slice a len cap)]).run prog w=.ok (LV a len cap Z0) w:=
 cQ (c:=LC none 0 0 Z0) zvL underlying239 (lF O O sizeOf86 sizeOf27) [(0,.slice a len cap)] (by
  rw[lN (vs:=[.slice a len cap]) (off:=0) (size:=1) O O O (by show 1<=33;decide)]
  rfl) w
theorem Ey(a:Option Addr)(len cap:Nat)(r:Rt)(hr:r.length=32)(w:World):(Instr.build 239 #[(0,.slice a len cap),(1,.agg (r.map U8).toArray)]).run prog w=.ok (LV a len cap r) w:=
 cQ (c:=LC none 0 0 Z0) zvL underlying239 (lF O O sizeOf86 sizeOf27) [(0,.slice a len cap),(1,.agg (r.map U8).toArray)] (by
  rw[lN (vs:=[.slice a len cap]) (off:=0) (size:=1) O O O (by show 1<=33;decide),lN (vs:=r.map U8) (off:=1) (size:=32) O O (by rw[List.length_map,hr]) (by rw[List.length_map,hr];show 33<=33;decide),List.length_map,hr]
  simp[Instr.fill,Z0]) w
theorem lh{w:World}{b:Nat}{x:Value}{cs:List Value}(h:w.rangeAt b 0 (x::cs)):w.rangeAt b 1 cs:=λj v hv=>by
 have:=h (j+1) v (by simpa using hv)
 rw[show 0+(j+1)=1+j from by omega]at this
 exact this
theorem rl{n:Nat}(h:n<=1000000):(BitVec.ofInt 64 (n:Int)).toNat=n:=by rw[BitVec.toNat_ofInt];omega
theorem sX{l:List Rt}{r:Rt}(hl:AllR l)(hr:r.length=32)(i:Nat):(l.getD i r).length=32:=by
 rw[List.getD_eq_getElem?_getD]
 cases h:l[i]? with
 |none=>exact hr
 |some x=>exact hl x (List.mem_of_getElem? h)
theorem AC{r:Rt}{l:List Rt}(k:Nat):AllR (UpK P2 r l k):=CN P2 (Q:=λx=>x.length=32) cU r l k
theorem sg{l:List Rt}(hl:AllR l): ∀h,AllR (lev P2 Z0 h l)
 |0=>hl
 |_+1=>AC _
theorem pt(l:List Rt)(hl:AllR l)(hn:l.length<=65536)(r:Rt)(hr:r.length=32)(a:Option Addr)(cap:Nat)(x:BitVec 64)(w:World)(hw:Gt w)(ha:RtsAt w a l):CLS 180 [LV a l.length cap r,U64 x].toArray w (λe w'=>e=.returned (.agg ((l.getD x.toNat r).map U8).toArray)/\Grow w w'):=by
 refine Hf func180 O hw<|λhGF=>Xp<|Bx 2 hGF O<|λb2=>Al 4 hGF zv27<|λb4=>aa<|ah<|Xp<|Mv O<|Fa 0 O underlying239 O sizeOf86<|cr 2 O O O isAgg86 O O<|bv O (λ_=>aO underlying86 _ _ _ _) O O<|bF O O (λ_=>dh underlying3 underlying22 _) O O<|?_;rcases Nat.lt_or_ge x.toNat l.length with h|h
 ·obtain ⟨y,hxy⟩: ∃y,l[x.toNat]? =some y:=⟨_,List.getElem?_eq_getElem h⟩
  have hy:y.length=32:=hl y (List.mem_of_getElem? hxy);obtain ⟨ad,rfl,hc⟩:=ha x.toNat y hxy;have hR:l.getD x.toNat r=y:=by rw[List.getD_eq_getElem?_getD,hxy];rfl
  refine Bnb true O O (λ_=>gN _ _ _) (by rw[decide_eq_true_eq,BitVec.lt_def,rl om];exact h)<|aa<|aQ O<|Xp<|Fa 0 O underlying239 O sizeOf86<|cr 2 O O O isAgg86 O O<|Mv O<|z5 32 O O underlying86 sizeOf27 h O O<|bx (cs:=y.map U8) O isAgg27 sizeOf27 (by rw[List.length_map];exact hy) (λw' h j v hv=>((ae h).cell (block_lt_of_cell (hc j v hv))).trans (hc j v hv)) O O<|am 4 hGF O O O sizeOf27 (by rw[List.length_map];exact hy) (by rw[List.length_map];exact cG) (bg _) O<|aa<|ar<|Rr<|?_
  exact az 4 O O O isAgg27 sizeOf27 (by rw[List.length_map];exact hy) (λw' hw'=>⟨by rw[hR],ae hw'⟩)
 ·have hR:l.getD x.toNat r=r:=nW r h
  refine Bnb false O O (λ_=>gN _ _ _) (by rw[decide_eq_false_iff_not,BitVec.lt_def,rl om];omega)<|aa<|aJ O<|ay<|Xp<|Fa 1 O underlying239 O sizeOf27<|aH (cs:=r.map U8) O isAgg27 sizeOf27 (by rw[List.length_map];exact hr) (λw' hw'=>lh (aw (n:=2) O w' hw')) O O<|am 4 hGF O O O sizeOf27 (by rw[List.length_map];exact hr) (by rw[List.length_map];exact cG) (bg _) O<|aa<|ar<|Rr<|?_
  exact az 4 O O O isAgg27 sizeOf27 (by rw[List.length_map];exact hr) (λw' hw'=>⟨by rw[hR],ae hw'⟩)
theorem bv_n{n:Nat}(h:n<=1000000):BitVec.ofInt 64 (n:Int)=BitVec.ofNat 64 n:=by apply BitVec.eq_of_toNat_eq;rw[rl h,BitVec.toNat_ofNat];omega
theorem nt{n:Nat}(h:n<=1000000):(BitVec.ofNat 64 n).toNat=n:=by rw[BitVec.toNat_ofNat];omega
theorem vV{n:Nat}(h:n<=1000000):(BitVec.ofNat 64 n / 2#64+BitVec.ofNat 64 n % 2#64).toNat=(n+1) / 2:=by
 rw[BitVec.toNat_add,BitVec.toNat_udiv,BitVec.toNat_umod,nt h];show (n / 2+n % 2) % 18446744073709551616=_;omega
theorem zY{n:Nat}:BitVec.ofNat 64 n+1#64=BitVec.ofNat 64 (n+1):=by rw[BitVec.ofNat_add]
theorem zv{n:Nat}:BitVec.ofNat 64 n+2#64=BitVec.ofNat 64 (n+2):=by rw[BitVec.ofNat_add]
structure UpS(r:Rt)(l:List Rt) where
 (k b cap:Nat) (c:List Value)
 hk:k<=((l.length+1) / 2)
 hc:c.length=cap*32
 hn:k<=cap
 ht:c.take (32*k)=(UpK P2 r l k).flatten.map U8
theorem Bz{r:Rt}{l:List Rt}(k:Nat):((UpK P2 r l k).flatten.map U8).length=k*32:=by rw[List.length_map,cM _ (AC k),lU,Nat.mul_comm]
theorem vO{r:Rt}{l:List Rt}{k:Nat}:(UpK P2 r l (k+1)).flatten.map U8=(UpK P2 r l k).flatten.map U8++(P2 (l.getD (2*k) r) (l.getD (2*k+1) r)).map U8:=by
 rw[zh,List.flatten_append,List.map_append];simp
theorem Gv{s:Nat}{x:L8}(hx:x.length=s):RW s (λ_=>x) 1=x:=by
 rw[nE (λ_=>x) 0 hx,show RW s (λ_=>x) 0=[]from by simp[RW],List.nil_append]
def UpR(w w':World)(v:Value)(l:List Rt)(r:Rt):Prop:= ∃b c cap,v=LV (spt b) l.length cap r/\w.heap.size<=b/\OwnB w' b c 27/\c.take (32*l.length)=l.flatten.map U8
theorem Bv(l:List Rt)(hl:AllR l)(hn:l.length<=65536)(r:Rt)(hr:r.length=32)(a:Option Addr)(cap:Nat)(w:World)(hw:Gt w)(ha:RtsAt w a l):CLS 179 [LV a l.length cap r].toArray w (λe w'=> ∃v,e=.returned v/\Grow w w'/\UpR w w' v (upL P2 r l) (P2 r r)):=by
 refine Hf func179 O hw<|λhGF=>Xp<|Bx 1 hGF O<|λb1=>Al 2 hGF zvL<|λb2=>aa<|Xp<|Fa 0 O underlying239 O sizeOf86<|cr 1 O O O isAgg86 O O<|bv O (λ_=>aO underlying86 _ _ _ _) O O<|bF (v:=U64 (BitVec.ofNat 64 l.length)) O O (λ_=>(dh underlying3 underlying22 _).trans (by rw[bv_n om])) O O<|Asg O<|aa<|?_
 refine Fh (ι:=Nat×Nat) (λz=>[(1,pnt b1),(2,pnt b2),(3,U64 (BitVec.ofNat 64 l.length)),(4,pnt z.2)]) (λz=>[(1,b1,LC a l.length cap r,239),(2,b2,LC none 0 0 Z0,239),(4,z.2,LC (spt z.1) 0 ((l.length+1) / 2) (P2 r r),239),(15,z.1,(List.replicate (32*((l.length+1) / 2)) 0#8).map U8,27)]) hGF ?_ ?_
 ·refine zD (EE [2999995,2999999]) cY kr kr<|bK (m:=4) [0,1,2,3,4,6,7,8,9,10] kr<|Mv O<|Bnr O O (λ_=>gF _ _ _ aC)<|Mv O<|Bnr O O (λ_=>fH _ _ _ aC)<|Bnr O O (λ_=>aM _ _ _)<|Fa 1 O underlying239 O sizeOf27<|aH (cs:=r.map U8) O isAgg27 sizeOf27 (by rw[List.length_map];exact hr) (λw' hw'=>lh (aw (n:=1) O w' hw')) O O<|Fa 1 O underlying239 O sizeOf27<|aH (cs:=r.map U8) O isAgg27 sizeOf27 (by rw[List.length_map];exact hr) (λw' hw'=>lh (aw (n:=1) O w' hw')) O O<|Cc O ent118 (λw' _ hG=>km r r hr hr w' hG)<|?_
  rw[show SHA (r++r)=P2 r r from O];refine aa<|je (m:=3) [5,12] kr kr aC<|?_;intro i hi;simp only[List.mem_cons,List.not_mem_nil,or_false]at hi;rcases hi with rfl|rfl
  ·exact tG (l:=0) (m:=((l.length+1) / 2)) (c:=(List.replicate (32*((l.length+1) / 2)) 0#8).map U8) 15 hGF O O O (vV om) (Nat.zero_le _) underlying86 tiR ⟨om,om,om⟩ (oY _) O O<|λb15=>aa<|bK (m:=2) [11] kr<|cm (ps:=[(0,.tmp 15),(1,.tmp 20)]) (vs:=[.slice (spt b15) 0 ((l.length+1) / 2),.agg ((P2 r r).map U8).toArray]) O (λw=>Ey _ _ _ _ (cU _ _) w) O O<|aa<|bK (m:=1) [12] kr<|mK 4 hGF zvL O O O<|λb4=>aa<|bK (m:=0) [13] kr<|am 4 hGF O O O sizeOf239 (eY (cU _ _)) (eY cG) (oV _ _ _ _) O<|aa<|fP kr<|aV<|⟨rfl,(b15,b4),_,rfl,trv,trv⟩
  ·exact mK 4 hGF zvL O O O<|λb4=>aa<|bK (m:=2) [5] kr<|tG (l:=0) (m:=((l.length+1) / 2)) (c:=(List.replicate (32*((l.length+1) / 2)) 0#8).map U8) 15 hGF O O O (vV om) (Nat.zero_le _) underlying86 tiR ⟨om,om,om⟩ (oY _) O O<|λb15=>aa<|bK (m:=1) [11] kr<|cm (ps:=[(0,.tmp 15),(1,.tmp 20)]) (vs:=[.slice (spt b15) 0 ((l.length+1) / 2),.agg ((P2 r r).map U8).toArray]) O (λw=>Ey _ _ _ _ (cU _ _) w) O O<|aa<|bK (m:=0) [13] kr<|am 4 hGF O O O sizeOf239 (eY (cU _ _)) (eY cG) (oV _ _ _ _) O<|aa<|fP kr<|aV<|⟨rfl,(b15,b4),_,rfl,trv,trv⟩
 ·rintro ⟨b15,b4⟩
  dsimp only;refine ah<|Xp<|Asg O<|aa<|aq<|bU (ι:=UpS r l) (λx=>[(1,pnt b1),(2,pnt b2),(3,U64 (BitVec.ofNat 64 l.length)),(4,pnt b4),(5,U64 (BitVec.ofNat 64 (2*x.k)))]) (λx=>[(1,b1,LC a l.length cap r,239),(2,b2,LC none 0 0 Z0,239),(4,b4,LC (spt x.b) x.k x.cap (P2 r r),239),(15,x.b,x.c,27)]) (λx=>((l.length+1) / 2)-x.k) ⟨0,b15,((l.length+1) / 2),(List.replicate (32*((l.length+1) / 2)) 0#8).map U8,Nat.zero_le _,by rw[List.length_map,List.length_replicate,Nat.mul_comm],Nat.zero_le _,aE⟩ hGF trv trv<|?_
  rintro ⟨k,bb,cp,c,hk,hc,hkc,ht⟩;dsimp only;refine ah<|Xp<|Mv O<|Mv O<|?_;rcases Nat.lt_or_ge (2*k) l.length with hlt|hge
  ·refine Bnb true O O (λ_=>gN _ _ _) (by rw[decide_eq_true_eq,BitVec.lt_def,nt om,nt om];exact hlt)<|aa<|aQ O<|ay<|ah<|aq<|Xe [2999998]<|Fa 0 O underlying239 O sizeOf86<|cr 4 O O O isAgg86 O O<|ao 1 O O isAgg239 sizeOf239 (eY hr) O O<|Mv O<|Cc O ent180 (λw' hw' hG=>pt l hl hn r hr a cap _ w' hG (ha.grow (ae hw')))<|?_
   rw[nt om];refine ao 1 O O isAgg239 sizeOf239 (eY hr) O O<|Mv O<|Bnr (v:=U64 (BitVec.ofNat 64 (2*k+1))) O O (λ_=>(aM _ _ _).trans (by rw[zY]))<|Cc O ent180 (λw' hw' hG=>pt l hl hn r hr a cap _ w' hG (ha.grow (ae hw')))<|?_
   rw[nt om];refine Cc O ent118 (λw' _ hG=>km _ _ (sX hl hr _) (sX hl hr _) w' hG) ?_;rw[show SHA (l.getD (2*k) r++l.getD (2*k+1) r)=(P2 (l.getD (2*k) r) (l.getD (2*k+1) r))from O];refine kf (uf:=U8) (s:=32) 37 (λ_=>(P2 (l.getD (2*k) r) (l.getD (2*k+1) r))) (List.replicate 32 0#8) hGF O O O (λi hi=>cU _ _) aC aC underlying86 sizeOf27 O zv27 O O ?_;intro b37;rw[Gv (cU _ _)];refine kX (s:=32) (nx:=k) (ny:=1) (xs:=(UpK P2 r l k).flatten.map U8) (ys:=(P2 (l.getD (2*k) r) (l.getD (2*k+1) r)).map U8) 15 hGF O O underlying86 underlying86 tiR O (.inr ⟨bb,c,rfl,rfl,hc,hkc,Bz k,by rw[Bz,Nat.mul_comm];exact ht⟩) (by rw[List.length_map,cU]) (λw' h=>aw (n:=37) O w' h) (bg _) aC om om O O (λb9 c9 cap9 e9 l9 t9=> ?_)
   refine Fa 0 O underlying239 O sizeOf86<|df 4 hGF O O O sizeOf86 O aB O<|aa<|Xq<|Mv O<|Bnr (v:=U64 (BitVec.ofNat 64 (2*(k+1)))) O O (λ_=>(aM _ _ _).trans (by rw[zv];rfl))<|Asg O<|aa<|?_
   repeat (refine bf ?_)
   exact aV<|⟨rfl,⟨k+1,b9,cap9,c9,om,e9,l9,by rw[vO,<-t9,<-vO,Bz,Nat.mul_comm]⟩,_,by show ((l.length+1) / 2)-(k+1)<((l.length+1) / 2)-k;omega,rfl,trv,trv⟩
  ·obtain rfl:k=((l.length+1) / 2):=om
   refine Bnb false O O (λ_=>gN _ _ _) (by rw[decide_eq_false_iff_not,BitVec.lt_def,nt om,nt om];omega)<|aa<|aJ O<|bh<|Xp<|ao 4 O O isAgg239 sizeOf239 (eY (cU _ _)) O O<|am 2 hGF O O O sizeOf239 (eY (cU _ _)) (eY cG) (oV _ _ _ _) O<|aa<|ar<|Rr<|?_
   exact az 2 O O O isAgg239 sizeOf239 (eY (cU _ _)) (λw' hw'=>⟨_,rfl,ae hw',bb,c,cp,by rw[upL,lU],(hw'.own 15 _ _ _ O).2.elim id False.elim,(hw'.own 15 _ _ _ O).1,by rw[upL,lU];exact ht⟩)
end
section
open Go.RowKit
open Sh
structure TopS(w:World)(l:List Rt)(D b4 b5:Nat) where
 (h:Nat) (a:Option Addr) (cap:Nat) (own:Hl)
 hD:h<=D
 hR: ∀w',Hp (pl w) ((4,b4,Z0.map U8,27)::(5,b5,LC a (lev P2 Z0 h l).length cap (zrT P2 Z0 h),239)::own) w'->RtsAt w' a (lev P2 Z0 h l)
theorem HW{n b:Nat}{c:List Value}{t:TypeId}{w w':World}(h1:w.heap.size<=b)(h2:OwnB w' b c t): ∀n' b' c' t',lkB [(n,b,c,t)] n'=some (b',c',t')->w.heap.size<=b'/\OwnB w' b' c' t':=λn' b' c' t' hl=>by
 rcases bq hl with ⟨_,e⟩|⟨_,hl⟩
 ·cases e;exact ⟨h1,h2⟩
 ·cases hl
theorem K9(h:Nat)(l:List Rt):lev P2 Z0 (h+1) l=upL P2 (zrT P2 Z0 h) (lev P2 Z0 h l):=rfl
theorem Iz(h:Nat):zrT P2 Z0 (h+1)=P2 (zrT P2 Z0 h) (zrT P2 Z0 h):=rfl
theorem wU(D:Nat)(hD64:D<=64)(l:List Rt)(hl:AllR l)(hn:l.length<=65536)(a:Option Addr)(cap:Nat)(w:World)(hw:Gt w)(ha:RtsAt w a l):CLS 147 [.slice a l.length cap,I (D:Int)].toArray w (λe w'=>e=.returned (.agg ((tre P2 Z0 D l).map U8).toArray)/\Grow w w'):=by
 refine Hf func147 O hw<|λhGF=>ai (E:=EE [179])<|Al 4 hGF zv27<|λb4=>aa<|ai (E:=EE [179])<|Mv O<|cm (ps:=[(0,.tmp 6)]) (vs:=[.slice a l.length cap]) O (λw=>Kg _ _ _ w) O O<|Al 5 hGF zvL<|λb5=>am 5 hGF O O O sizeOf239 (eY (cG)) (eY (cG)) (oV _ _ _ _) O<|aa<|ah<|ai (E:=EE [179])<|Mv O<|Mv O<|aa<|aq<|bU (ι:=TopS w l D b4 b5) (λx=>[(4,pnt b4),(5,pnt b5),(8,I (D:Int)),(9,I (x.h:Int))]) (λx=>(4,b4,Z0.map U8,27)::(5,b5,LC x.a (lev P2 Z0 x.h l).length x.cap (zrT P2 Z0 x.h),239)::x.own) (λx=>D-x.h) ⟨0,a,cap,[],Nat.zero_le _,λw' hw'=>ha.grow (ae hw')⟩ hGF trv trv<|?_;rintro ⟨h,a,cap,own,hD,hR⟩;dsimp only;refine ai (E:=EE [179]) ?_;rcases Nat.lt_or_ge h D with hlt|hge
 ·refine Bnb true O O (λ_=>aF _ _ _) (by simp;omega)<|aa<|ah<|aQ O<|ay<|ah<|aq<|ce (E:=EE [179])<|ao 5 O O isAgg239 sizeOf239 (eY (eX _)) O O<|?_
  refine cw O O ent179 O O (λw' hw'=>(Bv _ (sg hl h) (Nat.le_trans (qU P2 Z0 h l) hn) _ (eX h) _ _ w' (hGF.g _ _ _ hw') (hR w' hw')).mono λe1 w2 h9=> ?_);obtain ⟨_,rfl,hg,b9,c9,cap9,rfl,hb9,ho9,ht9⟩:=h9;rw[<-K9]at ht9⊢;rw[<-Iz];refine ⟨_,_,rfl,aT hGF,hw'.news aL hg [(12,b9,c9,27)] (HW hb9 ho9) de, ?_⟩;clear hw' hg hb9 ho9;refine am 5 hGF O O O sizeOf239 (eY (eX _)) (eY (eX _)) (oV _ _ _ _) O<|aa<|ce (E:=EE [179])<|Bnr (v:=I (((h+1:Nat):Int))) O O (λ_=>(av _ _ _ aG).trans aE)<|Mv O<|aa<|?_
  repeat (refine bf ?_)
  exact aV<|⟨rfl,⟨h+1,some ⟨b9,0,none⟩,cap9,[(12,b9,c9,27)],hlt,λw' hw'=>nU (sg hl (h+1)) (aw (n:=12) O w' hw') ht9⟩,_,by show D-(h+1)<D-h;omega,rfl,trv,trv⟩
 ·obtain rfl:h=D:=om
  refine Bnb false O O (λ_=>aF _ _ _) (by rw[decide_eq_false_iff_not];omega)<|aa<|ah<|aJ O<|bh<|ai (E:=EE [179])<|ao 5 O O isAgg239 sizeOf239 (eY (eX _)) O O<|Cc O ent180 (λw' hw' hG=>pt _ (sg hl h) (Nat.le_trans (qU P2 Z0 h l) hn) _ (eX h) _ _ 0#64 w' hG (hR w' hw'))<|?_
  rw[show (0#64).toNat=0 from O,DK];refine am 4 hGF O O O sizeOf27 (by rw[List.length_map];exact cq hl _) (by rw[List.length_map];exact cG) (bg _) O<|aa<|ar<|Rr<|?_
  exact az 4 O O O isAgg27 sizeOf27 (by rw[List.length_map];exact cq hl _) (λw' hw'=>⟨rfl,ae hw'⟩)
theorem wp(n:Int)(h63:n<9223372036854775808)(l:List Rt)(hl:AllR l)(len:Nat)(hlen:l.length=len)(hln:len<=65536)(a:Option Addr)(cap:Nat)(hn: ¬n.toNat<len)(w:World)(hw:Gt w)(hr:RtsAt w a l):CLS 114 [.slice a len cap,I n].toArray w (λe w'=>e=.returned (.tuple #[.agg ((tre P2 Z0 (dep n.toNat) l).map U8).toArray,I 0])/\Grow w w'):=by
 refine Hf func114 O hw<|λhGF=>Xp<|Al 4 hGF zv27<|λb4=>Asg O<|aa<|Xp<|Mv O<|uN (z:=(if n<0 then (0:Int)else n)) O O O O O<|Asg O<|aa<|ah<|Xp<|Mv O<|bv O (λ_=>aO underlying86 _ _ _ _) O O<|Mv O<|Bnb false O O (λ_=>di _ _ _) (by rw[decide_eq_false_iff_not];split<;>omega)<|aa<|aJ O<|ay<|Xp<|Mv O<|Mv O<|Cc O ent148 (λw' _ hG=>r9 (if n<0 then (0:Int)else n) (by split<;>omega) w' hG)<|?_
 rw[show (if n<0 then (0:Int)else n).toNat=n.toNat from by split<;>omega]
 refine Cc O ent147 (λw' hw' hG=>by have:=wU (dep n.toNat) (by have:=(mG n.toNat).1;omega) l hl om a cap w' hG (hr.grow (ae hw'));rw[hlen]at this;exact this)<|am 4 hGF O O O sizeOf27 (by rw[List.length_map];exact cq hl _) (by rw[List.length_map];exact cG) (bg _) O<|Asg O<|aa<|ar<|Rr<|?_
 exact bY 4 O O O O isAgg27 sizeOf27 (by rw[List.length_map];exact cq hl _) (λw' hw'=>⟨rfl,ae hw'⟩)
end
section
open Go.RowKit
open Sh
theorem ent117:aI prog 117:=λ_ _=>kr
theorem ent149:aI prog 149:=λ_ _=>kr
theorem ent81:aI prog 81:=λ_ _=>kr
structure StH(w:World)(bc bi n:Nat)(x:BitVec 64):Prop where
 c:OwnB w bc [I (n:Int)] 3
 i:OwnB w bi [U64 x] 22
def StV(x:BitVec 64)(n:Nat):List (List Value):=(List.range n).map λ(i:Nat)=>[I (i:Int),.bool (x.toNat.testBit i)]
theorem qO(x:BitVec 64)(n:Nat):(StV x n).length=n:=by rw[StV,List.length_map,List.length_range]
theorem wI(x:BitVec 64)(n i:Nat)(h:i<n):(StV x n)[i]? =some [I (i:Int),.bool (x.toNat.testBit i)]:=by rw[StV,List.getElem?_map,List.getElem?_range h];rfl
theorem Hy{x:BitVec 64}{n i:Nat}{v:List Value}(h:(StV x n)[i]? =some v):i<n/\[I (i:Int),.bool (x.toNat.testBit i)]=v:=by
 have hi:i<n:=by
  rcases Nat.lt_or_ge i n with hk|hk
  ·exact hk
  ·rw[List.getElem?_eq_none (by rw[qO];exact hk)]at h;cases h
 exact ⟨hi,Option.some.inj ((wI x n i hi).symm.trans h)⟩
theorem row2{n m b1 b2:Nat}{c1 c2:List Value}{t1 t2:TypeId}{w w':World}(h1:w.heap.size<=b1)(h2:w.heap.size<=b2)(o1:OwnB w' b1 c1 t1)(o2:OwnB w' b2 c2 t2): ∀n' b' c' t',lkB [(n,b1,c1,t1),(m,b2,c2,t2)] n'=some (b',c',t')->w.heap.size<=b'/\OwnB w' b' c' t':=λn' b' c' t' hl=>by
 rcases bq hl with ⟨_,e⟩|⟨_,hl⟩
 ·cases e;exact ⟨h1,o1⟩
 ·rcases bq hl with ⟨_,e⟩|⟨_,hl⟩
  ·cases e;exact ⟨h2,o2⟩
  ·cases hl
theorem sA(x:BitVec 64)(n:Nat)(w:World)(hw:Gt w):CLS 117 [U64 x,I (n:Int)].toArray w (λe w'=> ∃bc bi,e=.returned (.func (.func 149) #[] #[pnt bc,pnt bi])/\Grow w w'/\w.heap.size<=bc/\w.heap.size<=bi/\bc≠bi/\StH w' bc bi (n) x):=by
 refine Hf func117 O hw<|λhGF=>Xp<|gl 2 hGF O O O<|λb2=>gl 3 hGF O O O<|λb3=>Asg O<|aa<|Xp<|dJ O O O O<|Asg O<|aa<|ar<|Rr<|?_;exact au O O (λw' hw'=>⟨b3,b2,rfl,ae hw',(hw'.own 3 _ _ _ O).2.elim id False.elim,(hw'.own 2 _ _ _ O).2.elim id False.elim,λe=>by subst e;exact absurd (hw'.inj 3 2 _ _ _ _ _ O O) aC,(hw'.own 3 _ _ _ O).1,(hw'.own 2 _ _ _ O).1⟩)
theorem xX(bc bi n:Nat)(hn:n<=65536)(x:BitVec 64):jl prog Gt 149 [pnt bc,pnt bi] (StV x n) (λw=>StH w bc bi n x):=by
 intro l J Jx hJ hJx hRd hGx hY w hj;have okJ: ∀k,BOk Gt (Bi w (λY=>J Y k)):=λk=>⟨λ_ _ _ h=>(hRd _ _ _ h.rid).1,hJ k⟩;have okX: ∀k,BOk Gt (Bi w (λY=>Jx Y k)):=λk=>⟨λ_ _ _ h=>hGx _ _ _ h.rid,hJx k⟩;have c1: ∀k L w',Hp (Bi w (λY=>J Y k)) L w'->StH w' bc bi n x:=λk L w' h=>(hRd _ _ _ h.rid).2;refine eo (G:=Gt) func149 O O (Hp (Bi w (λY=>J Y 0)) []) (cH (Bi w _) hj (hJ 0)) (aT (okJ 0))<|Xp<|aP O isAgg3 (λw h=>(c1 _ _ w h).c.cell 0) O O<|Mv O<|aa<|aq<|jz (ι:={i:Nat // i<=n}) (λy=>[(0,.func (.yield l) #[] #[]),(1,pnt bc),(2,pnt bi),(5,I (n:Int)),(6,I (y.1:Int))]) (λy=>Bi w (λY=>J Y y.1)) (λy=>[]) (λy=>n-y.1) ⟨0,Nat.zero_le _⟩ (λ_=>okJ _) O trv trivial<|?_;rintro ⟨i,hi⟩;dsimp only;refine Xp ?_;rcases Nat.lt_or_ge i n with hlt|hge
 ·refine Bnb true O O (λ_=>aF _ _ _) (by simp;omega)<|aa<|ah<|aQ O<|ay<|ah<|aq<|Xp<|Mv O<|Asg O<|aa<|Xp<|Mv O<|Mv O<|aP O isAgg22 (λw h=>(c1 _ _ w h).i.cell 0) O O<|Mv O<|Bnr O O (λ_=>cE _ _ _ om)<|Bnr O O (λ_=>ej _ _ _)<|Bnr (v:=.bool (x.toNat.testBit i)) O O (λ_=>(bC _ _ 1#64).trans (by rw[Int.toNat_natCast,Bq]))<|?_
  refine eN (hY.b (k:=i) (wI x n i hlt) w) (okJ _) (okX _) O O O O O ?_ ?_
  ·refine co O (λ_=>bT _) O O<|aa<|aJ O<|ay<|Xq<|Bnr (v:=I (((i+1:Nat):Int))) O O (λ_=>(av _ _ _ aG).trans aE)<|Mv O<|aa<|?_
   repeat (refine bf ?_)
   exact aV<|⟨rfl,⟨i+1,hlt⟩,_,by show n-(i+1)<n-i;omega,rfl,trv,trivial⟩
  ·refine co O (λ_=>bT _) O O<|aa<|aQ O<|ar<|Rr<|?_
   repeat (first|refine iA ?_|refine gX ?_|refine gT O ?_|refine cV ?_|refine cZ ?_)
   exact ec O (λw hw=>⟨⟨_,rfl⟩,.inr ⟨_,cR (hJx _) hw.rid⟩⟩)
 ·obtain rfl:i=n:=om
  refine Bnb false O O (λ_=>aF _ _ _) (by rw[decide_eq_false_iff_not];omega)<|aa<|ah<|aJ O<|bh<|?_
  repeat (first|refine iA ?_|refine gX ?_|refine gT O ?_|refine cV ?_|refine cZ ?_)
  refine dQ O (λw hw=>⟨⟨_,rfl⟩,.inl ?_⟩);have:=cR (hJ _) hw.rid;rw[qO];exact this
theorem Fj{v0:Rt}{b:List Rt}{x:BitVec 64}{root:Rt}(h: ¬x>>>b.length=0#64):vfy v0 b x root=false:=by
 have h6:b.length<64:=by
  rcases Nat.lt_or_ge b.length 64 with h1|h1
  ·exact h1
  ·exact absurd (by apply BitVec.eq_of_toNat_eq;rw[BitVec.toNat_ushiftRight,Nat.shiftRight_eq_div_pow,Nat.div_eq_of_lt (Nat.lt_of_lt_of_le x.isLt (Nat.pow_le_pow_right aC h1))];rfl) h
 unfold vfy;rw[show decide (64<=b.length)=false from decide_eq_false om,Bool.false_or,beq_eq_false_iff_ne.2 h,Bool.and_false]
theorem Ce{v0:Rt}{b:List Rt}{x:BitVec 64}{root:Rt}(h:x>>>b.length=0#64):vfy v0 b x root=decide (fld P2 x.toNat 0 v0 b=root):=by
 unfold vfy;rw[h];simp
theorem ul(v0:Rt)(hv0:v0.length=32)(b:List Rt)(hl:AllR b)(hln:b.length<=65536)(a:Option Addr)(cap:Nat)(x:BitVec 64)(root:Rt)(hroot:root.length=32)(w:World)(hw:Gt w)(hr:RtsAt w a b):
 CLS 81 [.agg (v0.map U8).toArray,.slice a b.length cap,U64 x,.agg (root.map U8).toArray].toArray w (λe w'=>e=.returned (.bool (vfy v0 b x root))/\Grow w w'):=by
 have hGF:BOk Gt (pl w):=gt_low.plain hw;refine eJ (G:=Gt) func81 O O (Hp (pl w) []) (cH (pl w) trivial aL) (aT hGF)<|ai (E:=EE [117])<|Bx 4 hGF O<|λb4=>gl 5 hGF O O O<|λb5=>Bx 7 hGF O<|λb7=>Asg O<|aa<|ah<|ai (E:=EE [117])<|Mv O<|cr 5 O O O isAgg86 O O<|bv O (λ_=>aO underlying86 _ _ _ _) O O<|Bnr (v:=U64 (x>>>b.length)) O O (λ_=>(cE _ _ _ om).trans (by rw[Int.toNat_natCast]))<|?_
 by_cases hz:x>>>b.length=0#64
 ·refine Bnb false O O (λ_=>ni _ _ _) (by rw[hz];rfl)<|aa<|aJ O<|ay<|ai (E:=EE [117])<|ao 4 O O isAgg27 sizeOf27 (by rw[List.length_map];exact hv0) O O<|Al 9 hGF zv27<|λb9=>am 9 hGF O O O sizeOf27 (by rw[List.length_map];exact hv0) (by rw[List.length_map];exact cG) (bg _) O<|aa<|ah<|ai (E:=EE [117])<|Mv O<|cr 5 O O O isAgg86 O O<|bv O (λ_=>aO underlying86 _ _ _ _) O O<|?_
  refine cw O O ent117 O O (λw1 hC=>(sA x b.length w1 (hGF.g _ _ _ hC)).mono λe1 w2 h=> ?_);obtain ⟨bc,bi,rfl,hg,h1,h2,hne,hs⟩:=h;refine ⟨_,_,rfl,aT hGF,hC.news aL hg [(101,bc,_,3),(102,bi,_,22)] (row2 h1 h2 hs.c hs.i) (nF hne), ?_⟩;clear hC hg h1 h2 hs hne;refine aa<|aq<|?_;refine jA (λ_=>pl w) (λ_ _=>pl w) (λ_=>hGF) (λ_ _=>hGF) (λ_=>rfl) (λ_ _=>rfl) O O ent149 (xX bc bi b.length om x) (λv hv=>by obtain ⟨k,hk,rfl⟩:=List.mem_map.1 hv;rfl) O (λk=>[(4,b4,v0.map U8,27),(5,b5,[.slice a b.length cap],86),(7,b7,root.map U8,27),(9,b9,(fld P2 x.toNat 0 v0 (b.take k)).map U8,27),(101,bc,[I (b.length:Int)],3),(102,bi,[U64 x],22)]) (λ_ _ _=>False) trv (λk _ w' h=>⟨(h.own 101 _ _ _ O).1,(h.own 102 _ _ _ O).1⟩) ?_ ?_ (λ_ _ _ _ _ h=>h.elim)
  ·intro k v hv R hR
   have hgw: ∀L w',Hp (R.b (pl w)) L w'->Grow w w':=λL w' h=>((hR (pl w) O hGF).2.2 _ _ _ h).elim λ_ h2=>h2.below (λ_ h=>h);obtain ⟨hk,rfl⟩:=Hy hv;obtain ⟨y,hby⟩: ∃y,b[k]? =some y:=⟨_,List.getElem?_eq_getElem hk⟩;have hy:y.length=32:=hl y (List.mem_of_getElem? hby);obtain ⟨ad,rfl,hyc⟩:=hr k y hby;have hstep:=BF P2 (i:=x.toNat) v0 hby;have hbk:x.toNat.testBit k=true->k<64:=λh=>by rcases Nat.lt_or_ge k 64 with h1|h1;exact h1;rw[Nat.testBit_lt_two_pow (Nat.lt_of_lt_of_le x.isLt (Nat.pow_le_pow_right aC h1))]at h;cases h
   cases hbit:x.toNat.testBit k
   ·have hst:fld P2 x.toNat 0 v0 (b.take (k+1))=P2 (fld P2 x.toNat 0 v0 (b.take k)) y:=by rw[hstep,Jc P2 _ _ hbit]
    refine ai (E:=EE [117])<|Asg O<|aa<|ce (E:=EE [117])<|Asg O<|aa<|?_;refine ⟨rfl,_,rfl, ?_⟩;refine aq<|ai (E:=EE [117])<|Mv O<|aa<|aJ O<|Xe [117]<|ao 9 O O isAgg27 sizeOf27 (by rw[List.length_map];exact pO _ _ _ hv0) O O<|cr 5 O O O isAgg86 O O<|Mv O<|eH k 32 O O underlying86 sizeOf27 O om O O<|bx (cs:=y.map U8) O isAgg27 sizeOf27 (by rw[List.length_map];exact hy) (λw' h j v hv=>((hgw _ w' h).cell (block_lt_of_cell (hyc j v hv))).trans (hyc j v hv)) O O<|Cc O ent118 (λw' _ hG=>km (fld P2 x.toNat 0 v0 (b.take k)) y (pO _ _ _ hv0) hy w' hG)<|?_
    rw[show SHA ((fld P2 x.toNat 0 v0 (b.take k))++y)=P2 (fld P2 x.toNat 0 v0 (b.take k)) y from O,<-hst];refine am 9 (hR (pl w) O hGF).2.1 O O O sizeOf27 (by rw[List.length_map];exact pO _ _ _ hv0) (by rw[List.length_map];exact pO _ _ _ hv0) (bg _) O<|aa<|?_
    repeat (refine bf ?_)
    exact ⟨_,rfl,trv⟩
   ·have hst:fld P2 x.toNat 0 v0 (b.take (k+1))=P2 y (fld P2 x.toNat 0 v0 (b.take k)):=by rw[hstep,Jo P2 _ _ (hbk hbit) hbit]
    refine ai (E:=EE [117])<|Asg O<|aa<|ce (E:=EE [117])<|Asg O<|aa<|?_;refine ⟨rfl,_,rfl, ?_⟩;refine aq<|ai (E:=EE [117])<|Mv O<|aa<|aQ O<|Xe [117]<|cr 5 O O O isAgg86 O O<|Mv O<|eH k 32 O O underlying86 sizeOf27 O om O O<|bx (cs:=y.map U8) O isAgg27 sizeOf27 (by rw[List.length_map];exact hy) (λw' h j v hv=>((hgw _ w' h).cell (block_lt_of_cell (hyc j v hv))).trans (hyc j v hv)) O O<|ao 9 O O isAgg27 sizeOf27 (by rw[List.length_map];exact pO _ _ _ hv0) O O<|Cc O ent118 (λw' _ hG=>km y (fld P2 x.toNat 0 v0 (b.take k)) hy (pO _ _ _ hv0) w' hG)<|?_
    rw[show SHA (y++(fld P2 x.toNat 0 v0 (b.take k)))=P2 y (fld P2 x.toNat 0 v0 (b.take k))from O,<-hst];refine am 9 (hR (pl w) O hGF).2.1 O O O sizeOf27 (by rw[List.length_map];exact pO _ _ _ hv0) (by rw[List.length_map];exact pO _ _ _ hv0) (bg _) O<|aa<|?_
    repeat (refine bf ?_)
    exact ⟨_,rfl,trv⟩
  ·intro D hD
   rw[qO,List.take_length];refine ai (E:=EE [117])<|ao 9 O O isAgg27 sizeOf27 (by rw[List.length_map];exact pO _ _ _ hv0) O O<|ao 7 O O isAgg27 sizeOf27 (by rw[List.length_map];exact hroot) O O<|dq (v:=.bool (decide (fld P2 x.toNat 0 v0 b=root))) O O (λw'=>FT _ _ _ _ _ w') (λw'=>FR _ _ (pO _ _ _ hv0) hroot w') O O<|Asg O<|aa<|ar<|Rr<|?_
   exact im (.inl O) aL (au O O (λw' hw'=>⟨by rw[Ce hz],ae hw'⟩))
 ·refine Bnb true O O (λ_=>ni _ _ _) (bne_iff_ne.2 hz)<|aa<|aQ O<|ai (E:=EE [117])<|Asg O<|aa<|ar<|Rr<|?_
  exact rE (.inl O) (au O O (λw' hw'=>⟨by rw[Fj hz];rfl,ae hw'⟩))
end
section
open Go.RowKit
open Sh
theorem ent53:aI prog 53:=λ_ _=>kr
theorem ent89:aI prog 89:=λ_ _=>kr
theorem nc{cs:List Value}: ∀j v,cs[j]? =some v->cs[0+j]? =some v:=λj v hv=>by rw[Nat.zero_add];exact hv
theorem Hd.a_s{h:Hd}: ∀j v,[U64 h.s][j]? =some v->h.cs[0+j]? =some v:=ek (pre:=[]) O
theorem St.at_f{s:St}: ∀j v,s.f.cs[j]? =some v->s.cs[0+j]? =some v:=ek (pre:=[]) O
theorem AO(u:Up)(hk:u.Ok)(w:World)(hw:Gt w):CLS 19 [.agg u.cs.toArray].toArray w (λe w'=>e=.returned (.bool u.isn)/\Grow w w'):=by
 refine Hf func19 O hw<|λhGF=>Xp<|Bx 1 hGF O<|λb1=>Asg O<|aa<|Xp<|Fa 147 O underlying71 O sizeOf36<|aH (cs:=u.br.map U8) O isAgg36 sizeOf36 (by rw[List.length_map];exact hk.br) (λw' hw' j v hv=>by have:=(aw (n:=1) O w' hw') _ v ((Up.l3 hk) j v hv);rwa [Nat.zero_add]at this) O O<|ed Fb underlying36 sizeOf28 O O<|dq (v:=.bool (!decide (u.br=Zs 160))) O O (λw'=>J6 _ _ _ _ _ w') (λw'=>nQ Lt aC u.br (Zs 160) hk.br O w') O O<|Asg O<|aa<|ar<|Rr<|?_
 exact au O O (λw' hw'=>⟨rfl,ae hw'⟩)
theorem BA(u:Up)(hk:u.Ok)(w:World)(hw:Gt w):CLS 21 [.agg u.cs.toArray].toArray w (λe w'=>e=.returned (.bool u.isf)/\Grow w w'):=by
 refine Hf func21 O hw<|λhGF=>Xp<|Bx 1 hGF O<|λb1=>Asg O<|aa<|Xp<|Fa 405 O underlying71 O sizeOf64<|aH (cs:=u.fy.map U8) O isAgg64 sizeOf64 (by rw[List.length_map];exact hk.fy) (λw' hw' j v hv=>by have:=(aw (n:=1) O w' hw') _ v ((Up.l5 hk) j v hv);rwa [Nat.zero_add]at this) O O<|ed zvT6 underlying64 sizeOf28 O O<|dq (v:=.bool (!decide (u.fy=Zs 192))) O O (λw'=>IT _ _ _ _ _ w') (λw'=>nQ Lu aC u.fy (Zs 192) hk.fy O w') O O<|Asg O<|aa<|ar<|Rr<|?_
 exact au O O (λw' hw'=>⟨rfl,ae hw'⟩)
theorem Bu(c:Co)(hk:c.Ok)(hln:c.ks.length<=1000000)(w:World)(hw:Gt w)(hrw:RwsAt 48 w c.ka c.ks):CLS 53 [.agg c.cs.toArray].toArray w (λe w'=>e=.returned (.bool (oQ c))/\Grow w w'):=by
 refine Hf func53 O hw<|λhGF=>Xp<|Bx 1 hGF O<|λb1=>Asg O<|aa<|ah<|Xp<|Fa 0 O underlying35 O sizeOf31<|cr 1 O O ((Co.a0) 0 (.slice c.ka c.ks.length c.kc) O) isAgg31 O O<|bv O (λ_=>aO underlying31 _ _ _ _) O O<|Mv O<|aa<|aq<|bU (ι:={i:Nat // i<=c.ks.length/\∀j r,j<i->c.ks[j]? =some r->r=(Zs 48)}) (λx=>[(1,pnt b1),(6,.slice c.ka c.ks.length c.kc),(7,I (c.ks.length:Int)),(8,I (x.1:Int))]) (λ_=>[(1,b1,c.cs,35)]) (λx=>c.ks.length-x.1) ⟨0,Nat.zero_le _,λj r hj=>absurd hj (Nat.not_lt_zero j)⟩ hGF trv trv<|?_;rintro ⟨i,hi,hno⟩;dsimp only;refine Xp<|Bnr O O (λ_=>aF _ _ _)<|aa<|ah<|?_;refine cj O (λhc=> ?_) (λhc=> ?_)
 ·have hlt:i<c.ks.length:=(by simp at hc;omega)
  clear hc;obtain ⟨x,hx⟩: ∃x,c.ks[i]? =some x:=⟨_,List.getElem?_eq_getElem hlt⟩;have hxl:=hk.ks x (List.mem_of_getElem? hx);refine ay<|ah<|aq<|Xp<|?_;obtain ⟨ad,hae,hcell⟩:=hrw i x hx;refine eH (ad:=ad) i 48 (by rw[<-hae];rfl) O underlying31 sizeOf33 O hlt O O<|bx (cs:=x.map U8) O isAgg33 sizeOf33 (by rw[List.length_map];exact hxl) (λw' h j v hv=>((ae h).cell (block_lt_of_cell (hcell j v hv))).trans (hcell j v hv)) O O<|Al 4 hGF zy<|λb4=>am 4 hGF O O O sizeOf33 (by rw[List.length_map];exact hxl) (by rw[List.length_map];rfl) (bg _) O<|aa<|Xp<|ao 4 O O isAgg33 sizeOf33 (by rw[List.length_map];exact hxl) O O<|ed zy underlying33 sizeOf5 O O<|?_
  rcases Bool.eq_false_or_eq_true (decide (x=(Zs 48)))with hq|hq
  ·refine kt false O O (λw'=>Am _ _ _ _ _ w') (λ_=>nQ yS aC x (Zs 48) hxl O _) (by rw[hq];rfl) O O<|aa<|aJ O<|ay<|Xq<|Bnr (v:=I (((i+1:Nat):Int))) O O (λ_=>(av _ _ _ aG).trans aE)<|Mv O<|aa<|?_
   repeat (refine bf ?_)
   exact aV<|⟨rfl,⟨i+1,hlt,λj r hj hr=>(Nat.lt_or_ge j i).elim (λh=>hno j r h hr) (λh=>by have e:j=i:=om;subst e;rw[hx]at hr;cases hr;exact of_decide_eq_true hq)⟩,_,by show c.ks.length-(i+1)<c.ks.length-i;omega,rfl,trv,trv⟩
  ·refine kt true O O (λw'=>Am _ _ _ _ _ w') (λ_=>nQ yS aC x (Zs 48) hxl O _) (by rw[hq];rfl) O O<|aa<|aQ O<|Xp<|Asg O<|aa<|ar<|Rr<|?_
   exact au O O (λw' hw'=>⟨by rw[G0 hx hq];rfl,ae hw'⟩)
 ·have hie:i=c.ks.length:=(by simp at hc;omega)
  clear hc;refine bh<|Xp<|Fa 1 O underlying35 O sizeOf33<|aH (cs:=c.sum.map U8) O isAgg33 sizeOf33 (by rw[List.length_map];exact hk.sum) (λw' hw' j v hv=>by have:=(aw (n:=1) O w' hw') _ v ((Co.a_sum) j v hv);rwa [Nat.zero_add]at this) O O<|ed zy underlying33 sizeOf5 O O<|dq (v:=.bool (decide (c.sum=(Zs 48)))) O O (λw'=>Am _ _ _ _ _ w') (λw'=>wN yS aC c.sum (Zs 48) hk.sum O w') O O<|Asg O<|aa<|ar<|Rr<|?_
  exact au O O (λw' hw'=>⟨by rw[Du (λj r hj=>hno j r om)],ae hw'⟩)
theorem HP(s:St)(hk:s.Ok)(hln:s.nx.ks.length<=1000000)(w:World)(hw:Gt w)(hrw:RwsAt 48 w s.nx.ka s.nx.ks):CLS 23 [.agg s.cs.toArray].toArray w (λe w'=>e=.returned (.bool (!oQ s.nx))/\Grow w w'):=by
 refine Hf func23 O hw<|λhGF=>Xp<|Bx 1 hGF O<|λb1=>Asg O<|aa<|Xp<|Fa 245 O underlying53 O sizeOf35<|aH (cs:=s.nx.cs) O isAgg35 sizeOf35 (Co.len hk.nx) (λw' hw' j v hv=>by have:=(aw (n:=1) O w' hw') _ v ((St.at_nx hk) j v hv);rwa [Nat.zero_add]at this) O O<|Cc O ent53 (λw' hw' hG=>Bu s.nx hk.nx hln w' hG (hrw.grow (ae hw')))<|co O (λ_=>bT _) O O<|Asg O<|aa<|ar<|Rr<|?_
 exact au O O (λw' hw'=>⟨rfl,ae hw'⟩)
theorem Gd(l:List Bool)(hl:l.length<=1000000)(a:Option Addr)(cap:Nat)(w:World)(hw:Gt w)(hcl:CellsAt w a (l.map .bool)):CLS 89 [.slice a l.length cap].toArray w (λe w'=>e=.returned (I (onN l:Int))/\Grow w w'):=by
 refine Hf func89 O hw<|λhGF=>Xp<|Asg O<|aa<|Xp<|Asg O<|aa<|ah<|Xp<|Mv O<|bv O (λ_=>aO underlying65 _ _ _ _) O O<|Mv O<|aa<|aq<|bU (ι:={i:Nat // i<=l.length}) (λx=>[(6,.slice a l.length cap),(7,I (l.length:Int)),(3,I (onN (l.take x.1):Int)),(8,I (x.1:Int))]) (λ_=>[]) (λx=>l.length-x.1) ⟨0,Nat.zero_le _⟩ hGF trv trivial<|?_;rintro ⟨i,hi⟩;dsimp only;refine Xp<|Bnr O O (λ_=>aF _ _ _)<|aa<|ah<|?_;refine cj O (λhc=> ?_) (λhc=> ?_)
 ·have hlt:i<l.length:=(by simp at hc;omega)
  clear hc;obtain ⟨x,hx⟩: ∃x,l[i]? =some x:=⟨_,List.getElem?_eq_getElem hlt⟩;refine ay<|ah<|aq<|Xp<|?_;obtain ⟨ad,hae,hcell⟩:=hcl i (.bool x) (by rw[List.getElem?_map,hx];rfl)
  refine eH (ad:=ad) i 1 (by rw[<-hae];rfl) O underlying65 sizeOf4 O hlt O O ?_
  rcases Bool.eq_false_or_eq_true x with hq|hq
  ·refine aP (v:=.bool true) O isAgg4 (λw' h=>by rw[Nat.mul_one];have h9:=((ae h).cell (block_lt_of_cell hcell)).trans hcell;rw[hq]at h9;exact h9) O O<|Asg O<|aa<|Xp<|Mv O<|aa<|aQ O<|Xq<|Mv O<|Bnr (v:=I ((onN (l.take i)+1:Nat):Int)) O O (λ_=>(av _ _ _ (by have:=GJ (l.take i);rw[List.length_take]at this;unfold inI;omega)).trans aE)<|Asg O<|aa<|Xq<|Bnr (v:=I (((i+1:Nat):Int))) O O (λ_=>(av _ _ _ aG).trans aE)<|Mv O<|aa<|?_
   repeat (refine bf ?_)
   refine aV ?_;rw[hq]at hx;exact ⟨rfl,⟨i+1,hlt⟩,_,by show l.length-(i+1)<l.length-i;omega,rfl,⟨rfl,rfl,by rw[tK l i _ hx];rfl,rfl,trivial⟩,trivial⟩
  ·refine aP (v:=.bool false) O isAgg4 (λw' h=>by rw[Nat.mul_one];have h9:=((ae h).cell (block_lt_of_cell hcell)).trans hcell;rw[hq]at h9;exact h9) O O<|Asg O<|aa<|Xp<|Mv O<|aa<|aJ O<|ay<|Xq<|Bnr (v:=I (((i+1:Nat):Int))) O O (λ_=>(av _ _ _ aG).trans aE)<|Mv O<|aa<|?_
   repeat (refine bf ?_)
   refine aV ?_;rw[hq]at hx;exact ⟨rfl,⟨i+1,hlt⟩,_,by show l.length-(i+1)<l.length-i;omega,rfl,⟨rfl,rfl,by rw[tK l i _ hx];rfl,rfl,trivial⟩,trivial⟩
 ·have hie:i=l.length:=(by simp at hc;omega)
  clear hc;refine bh<|Xp<|Mv O<|Asg O<|aa<|ar<|Rr<|?_;exact au O O (λw' hw'=>⟨by rw[List.take_of_length_le om],ae hw'⟩)
end
section
open Go.RowKit
theorem ent37:aI prog 37:=λ_ _=>kr
theorem ent122:aI prog 122:=λ_ _=>kr
theorem ent77:aI prog 77:=λ_ _=>kr
theorem ent78:aI prog 78:=λ_ _=>kr
theorem wr(n:BitVec 64)(w:World)(hw:Gt w):CLS 77 [U64 n].toArray w (λe w'=>e=.returned (.bool (g9 n))/\Grow w w'):=by
 refine Hf func77 O hw<|λhGF=>Xp<|Asg O<|aa<|Xp<|Mv O<|?_;rcases Bool.eq_false_or_eq_true (decide (1#64<=n))with h1|h1
 ·refine Bnb true O O (λ_=>bM _ n 1#64) (h1)<|Mv O<|Mv O<|?_
  rcases Bool.eq_false_or_eq_true (decide (n<=65536#64))with h2|h2
  ·refine Bnb true O O (λ_=>fG _ n 65536#64) (h2)<|Pk O O O<|Asg O<|aa<|ar<|Rr<|?_
   exact au O O (λw' hw'=>⟨by unfold g9;rw[h1,h2];rfl,ae hw'⟩)
  ·refine Bnb false O O (λ_=>fG _ n 65536#64) (h2)<|Pk O O O<|Asg O<|aa<|ar<|Rr<|?_
   exact au O O (λw' hw'=>⟨by unfold g9;rw[h1,h2];rfl,ae hw'⟩)
 ·refine Bnb false O O (λ_=>bM _ n 1#64) (h1)<|Mv O<|Sk<|Sk<|Pk O O O<|Asg O<|aa<|ar<|Rr<|?_
  exact au O O (λw' hw'=>⟨by unfold g9;rw[h1];rfl,ae hw'⟩)
theorem EG(z:Int)(w:World)(hw:Gt w):CLS 78 [I z].toArray w (λe w'=>e=.returned (.bool (gS z))/\Grow w w'):=by
 refine Hf func78 O hw<|λhGF=>Xp<|Asg O<|aa<|Xp<|Mv O<|?_;rcases Bool.eq_false_or_eq_true (decide (z>=1))with h1|h1
 ·refine Bnb true O O (λ_=>da _ z 1) (h1)<|Mv O<|Mv O<|?_
  rcases Bool.eq_false_or_eq_true (decide (z<=512))with h2|h2
  ·refine Bnb true O O (λ_=>mF _ z 512) (h2)<|Pk O O O<|Mv O<|Mv O<|Mv O<|Bnr (v:=I (z-1)) O O (λ_=>bp _ _ _ (by unfold inI;simp at h1 h2;omega))<|Bnr (v:=I (DU z (z-1))) O O (λ_=>wW _ _ _ _)<|Bnr (v:=.bool (gS z)) O O (λ_=>(ct _ _ _).trans (by rw[yQ z (by simpa using h1) (by simpa using h2)]))<|Pk O O O<|Asg O<|aa<|ar<|Rr<|?_
   exact au O O (λw' hw'=>⟨rfl,ae hw'⟩)
  ·refine Bnb false O O (λ_=>mF _ z 512) (h2)<|Pk O O O<|Mv O<|Sk<|Sk<|Sk<|Sk<|Sk<|Pk O O O<|Asg O<|aa<|ar<|Rr<|?_
   exact au O O (λw' hw'=>⟨by rw[Cp (of_decide_eq_false h2)];rfl,ae hw'⟩)
 ·refine Bnb false O O (λ_=>da _ z 1) (h1)<|Mv O<|Sk<|Sk<|Pk O O O<|Mv O<|Sk<|Sk<|Sk<|Sk<|Sk<|Pk O O O<|Asg O<|aa<|ar<|Rr<|?_
  exact au O O (λw' hw'=>⟨by rw[DT (of_decide_eq_false h1)];rfl,ae hw'⟩)
theorem vC(c:Cf)(hc_:c.Ok)(w:World)(hw:Gt w):CLS 37 [.agg c.cs.toArray].toArray w (λe w'=>e=.returned (I c.chk)/\Grow w w'):=by
 refine Hf func37 O hw<|λhGF=>Xp<|Bx 1 hGF O<|λb1=>Asg O<|aa<|ah<|Xp<|Fa 36 O underlying50 O sizeOf22<|aP (v:=U64 c.s) O isAgg22 (λw' hw'=>by have:=(aw (n:=1) O w' hw') 36 _ (Cf.at_s hc_);rwa [Nat.zero_add]at this) O O<|?_
 rcases Bool.eq_false_or_eq_true (g9 c.s)with h1|h1
 ·refine Cbl true O ent77 (wr c.s) (h1)<|co O (λ_=>bT _) O O<|Mv O<|Fa 37 O underlying50 O sizeOf22<|aP (v:=U64 c.e) O isAgg22 (λw' hw'=>by have:=(aw (n:=1) O w' hw') 37 _ (Cf.at_e hc_);rwa [Nat.zero_add]at this) O O<|?_
  rcases Bool.eq_false_or_eq_true (g9 c.e)with h2|h2
  ·refine Cbl true O ent77 (wr c.e) (h2)<|co O (λ_=>bT _) O O<|Pk O O O<|Mv O<|Fa 38 O underlying50 O sizeOf3<|aP (v:=I c.z) O isAgg3 (λw' hw'=>by have:=(aw (n:=1) O w' hw') 38 _ (Cf.at_z hc_);rwa [Nat.zero_add]at this) O O<|?_
   rcases Bool.eq_false_or_eq_true (gS c.z)with h3|h3
   ·refine Cbl true O ent78 (EG c.z) (h3)<|co O (λ_=>bT _) O O<|Pk O O O<|aa<|aJ O<|ay<|Xp<|Asg O<|aa<|ar<|Rr<|?_
    exact au O O (λw' hw'=>⟨by unfold Cf.chk Cf.rt;rw[h1,h2,h3];rfl,ae hw'⟩)
   ·refine Cbl false O ent78 (EG c.z) (h3)<|co O (λ_=>bT _) O O<|Pk O O O<|aa<|aQ O<|Xp<|Asg O<|aa<|ar<|Rr<|?_
    exact au O O (λw' hw'=>⟨by unfold Cf.chk Cf.rt;rw[h1,h2,h3];rfl,ae hw'⟩)
  ·refine Cbl false O ent77 (wr c.e) (h2)<|co O (λ_=>bT _) O O<|Pk O O O<|Mv O<|Sk<|Sk<|Sk<|Sk<|Pk O O O<|aa<|aQ O<|Xp<|Asg O<|aa<|ar<|Rr<|?_
   exact au O O (λw' hw'=>⟨by unfold Cf.chk Cf.rt;rw[h1,h2];rfl,ae hw'⟩)
 ·refine Cbl false O ent77 (wr c.s) (h1)<|co O (λ_=>bT _) O O<|Mv O<|Sk<|Sk<|Sk<|Sk<|Pk O O O<|Mv O<|Sk<|Sk<|Sk<|Sk<|Pk O O O<|aa<|aQ O<|Xp<|Asg O<|aa<|ar<|Rr<|?_
  exact au O O (λw' hw'=>⟨by unfold Cf.chk Cf.rt;rw[h1];rfl,ae hw'⟩)
theorem Is(c:Cf)(hc_:c.Ok)(n:BitVec 64)(w:World)(hw:Gt w):CLS 153 [.agg c.cs.toArray,U64 n].toArray w (λe w'=>e=.returned (U64 (c.ep n))/\Grow w w'):=by
 refine Hf func153 O hw<|λhGF=>Xp<|Bx 2 hGF O<|λb2=>Asg O<|aa<|ah<|Xp<|aH (cs:=c.cs) O isAgg50 sizeOf50 (Cf.len hc_) (λw' hw' j v hv=>by have:=(aw (n:=2) O w' hw') _ v (Cf.all j v hv);rwa [Nat.zero_add]at this) O O<|Ca O (vC c hc_)<|?_
 rcases Bool.eq_false_or_eq_true (c.rt)with hr|hr
 ·refine Bnb false O O (λ_=>cF _ c.chk 0) (by rw[EB hr];rfl)<|aa<|aJ O<|ay<|Xp<|Mv O<|Fa 36 O underlying50 O sizeOf22<|aP (v:=U64 c.s) O isAgg22 (λw' hw'=>by have:=(aw (n:=2) O w' hw') 36 _ (Cf.at_s hc_);rwa [Nat.zero_add]at this) O O<|Bnr (v:=U64 (n / c.s)) O O (λ_=>gF _ _ _ (nC (J3 hr)))<|Asg O<|aa<|ar<|Rr<|?_
  exact au O O (λw' hw'=>⟨by rw[Lb hr],ae hw'⟩)
 ·refine Bnb true O O (λ_=>cF _ c.chk 0) (by rw[E5 hr];rfl)<|aa<|aQ O<|Xp<|Asg O<|aa<|ar<|Rr<|?_
  exact au O O (λw' hw'=>⟨by rw[ep_f hr];rfl,ae hw'⟩)
theorem Kq(c:Cf)(hc_:c.Ok)(n:BitVec 64)(w:World)(hw:Gt w):CLS 122 [.agg c.cs.toArray,U64 n].toArray w (λe w'=>e=.returned (U64 (c.pe n))/\Grow w w'):=by
 refine Hf func122 O hw<|λhGF=>Xp<|Bx 2 hGF O<|λb2=>Asg O<|aa<|ah<|Xp<|aH (cs:=c.cs) O isAgg50 sizeOf50 (Cf.len hc_) (λw' hw' j v hv=>by have:=(aw (n:=2) O w' hw') _ v (Cf.all j v hv);rwa [Nat.zero_add]at this) O O<|Ca O (vC c hc_)<|?_
 rcases Bool.eq_false_or_eq_true (c.rt)with hr|hr
 ·refine Bnb false O O (λ_=>cF _ c.chk 0) (by rw[EB hr];rfl)<|aa<|aJ O<|ay<|Xd []<|aH (cs:=c.cs) O isAgg50 sizeOf50 (Cf.len hc_) (λw' hw' j v hv=>by have:=(aw (n:=2) O w' hw') _ v (Cf.all j v hv);rwa [Nat.zero_add]at this) O O<|Mv O<|Ca O (Is c hc_ n)<|Fa 37 O underlying50 O sizeOf22<|aP (v:=U64 c.e) O isAgg22 (λw' hw'=>by have:=(aw (n:=2) O w' hw') 37 _ (Cf.at_e hc_);rwa [Nat.zero_add]at this) O O<|Bnr (v:=U64 (c.ep n / c.e)) O O (λ_=>gF _ _ _ (nC (In hr)))<|Asg O<|aa<|ar<|Rr<|?_
  exact au O O (λw' hw'=>⟨by rw[Iy hr,Lb hr],ae hw'⟩)
 ·refine Bnb true O O (λ_=>cF _ c.chk 0) (by rw[E5 hr];rfl)<|aa<|aQ O<|Xp<|Asg O<|aa<|ar<|Rr<|?_
  exact au O O (λw' hw'=>⟨by rw[Jq hr];rfl,ae hw'⟩)
end
section
open Go.RowKit
open Sh
theorem Up.at_s{u:Up}:u.cs[0]? =some (U64 u.at_.s):=Up.l1 0 _ O
theorem Up.at_f{u:Up}(k:u.Ok):u.cs[307]? =some (U64 u.fi.s):=Up.l4 k 0 _ O
theorem Bw(a b:BitVec 64):(a==b)=decide (a=b):=rfl
end
section
open Go.RowKit
open Sh
end
section
open Go.RowKit
open Sh
end
end Go.Proofs.YtfakhlafilbjkaaGreatDoor
