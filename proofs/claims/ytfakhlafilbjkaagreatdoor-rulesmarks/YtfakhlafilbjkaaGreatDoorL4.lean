/- L4 -/
import Derived.Test.YtfakhlafilbjkaaGreatDoorL3
set_option maxRecDepth 100000
set_option maxHeartbeats 1000000
namespace Go.Proofs.YtfakhlafilbjkaaGreatDoor
open Go.Proofs.Tryz
section
open Go.RowKit
open Sh
theorem ent8:aJ prog 8:=λ_ _=>kr
theorem ent25:aJ prog 25:=λ_ _=>kr
theorem ent14:aJ prog 14:=λ_ _=>kr
theorem ent19:aJ prog 19:=λ_ _=>kr
theorem ent21:aJ prog 21:=λ_ _=>kr
theorem ent23:aJ prog 23:=λ_ _=>kr
theorem ent17:aJ prog 17:=λ_ _=>kr
def onN(l:List Bool):Nat:=(l.filter id).length
def cT(l:List Bool):Bool:=decide (2*l.length<=3*onN l)
def Up.isn(u:Up):Bool:= !decide (u.br=Zs 160)
def Up.isf(u:Up):Bool:= !decide (u.fy=Zs 192)
def oH(c:Co):Bool:=c.ks.all (λk=>decide (k=Zs 48)) && decide (c.sum=Zs 48)
def Up.rip(u:Up)(c:Cf):Bool:=u.isn && decide (c.pe u.at_.s=c.pe u.sl)
def Up.nea(u:Up)(c:Cf):Bool:=decide (c.pe u.fi.s=c.pe u.at_.s)
def lE(c:Cf)(a b:Up):Bool:=
 bif cT a.sy.bs !=cT b.sy.bs then cT a.sy.bs else
 bif !cT a.sy.bs && decide (onN a.sy.bs≠onN b.sy.bs)then decide (onN b.sy.bs<onN a.sy.bs)else
 bif a.rip c !=b.rip c then a.rip c else
 bif a.isf !=b.isf then a.isf else
 bif a.isf && (a.nea c !=b.nea c)then a.nea c else
 bif decide (onN a.sy.bs≠onN b.sy.bs)then decide (onN b.sy.bs<onN a.sy.bs)else
 bif decide (a.at_.s≠b.at_.s)then decide (a.at_.s<b.at_.s)else decide (a.sl<b.sl)
def iY(c:Cf)(a b:Up):Bool:=bif c.rt then lE c a b else false
def VM(w:World)(s:St)(u:Up):Prop:=RwsAt 48 w s.nw.ka s.nw.ks/\RwsAt 48 w s.nx.ka s.nx.ks/\RwsAt 48 w u.nx.ka u.nx.ks/\CellsAt w u.sy.ba (u.sy.bs.map .bool)
def VB(s:St)(u:Up):Prop:=s.nw.ks.length<=1000/\s.nx.ks.length<=1000/\u.nx.ks.length<=1000/\u.sy.bs.length<=1000
structure RulesP:Prop where
 isn: ∀(u:Up),u.Ok->∀(w:World),Gt w->CLS 19 [.agg u.cs.toArray].toArray w (λe w'=>e=.returned (.bool u.isn)/\Grow w w')
 isf: ∀(u:Up),u.Ok->∀(w:World),Gt w->CLS 21 [.agg u.cs.toArray].toArray w (λe w'=>e=.returned (.bool u.isf)/\Grow w w')
 kno: ∀(s:St),s.Ok->s.nx.ks.length<=1000->∀(w:World),Gt w->RwsAt 48 w s.nx.ka s.nx.ks->CLS 23 [.agg s.cs.toArray].toArray w (λe w'=>e=.returned (.bool (!oH s.nx))/\Grow w w')
 bet: ∀(c:Cf) (a b:Up),c.Ok->a.Ok->b.Ok->a.sy.bs.length<=1000->b.sy.bs.length<=1000->∀(w:World),Gt w->CellsAt w a.sy.ba (a.sy.bs.map .bool)->CellsAt w b.sy.ba (b.sy.bs.map .bool)->CLS 17 [.agg c.cs.toArray,.agg a.cs.toArray,.agg b.cs.toArray].toArray w (λe w'=>e=.returned (.bool (iY c a b))/\Grow w w')
 beg: ∀(c:Cf) (t:Rt) (b:Bo),c.Ok->t.length=32->b.Ok->b.nw.ks.length<=1000->∀(w:World),Gt w->RwsAt 48 w b.nw.ka b.nw.ks->CLS 14 [.agg c.cs.toArray,.agg (t.map U8).toArray,.agg b.cs.toArray].toArray w (λe w'=>e=.returned (I (bif c.rt then lS t b else 210))/\Grow w w')
 vS: ∀(c:Cf) (s:St) (u:Up) (n:BitVec 64),c.Ok->s.Ok->u.Ok->VB s u->c.rt=false->∀(w:World),Gt w->VM w s u->CLS 25 [.agg c.cs.toArray,.agg s.cs.toArray,.agg u.cs.toArray,U64 n].toArray w (λe w'=>e=.returned (I 210)/\Grow w w')
 vF: ∀(c:Cf) (s:St) (u:Up) (n:BitVec 64),c.Ok->s.Ok->u.Ok->VB s u->c.rt=true->onN u.sy.bs=0->∀(w:World),Gt w->VM w s u->CLS 25 [.agg c.cs.toArray,.agg s.cs.toArray,.agg u.cs.toArray,U64 n].toArray w (λe w'=>e=.returned (I 232)/\Grow w w')
 vE: ∀(c:Cf) (s:St) (u:Up) (n:BitVec 64),c.Ok->s.Ok->u.Ok->VB s u->c.rt=true->onN u.sy.bs≠0->n<u.sl->∀(w:World),Gt w->VM w s u->CLS 25 [.agg c.cs.toArray,.agg s.cs.toArray,.agg u.cs.toArray,U64 n].toArray w (λe w'=>e=.returned (I 233)/\Grow w w')
 vW: ∀(c:Cf) (s:St) (u:Up) (n:BitVec 64),c.Ok->s.Ok->u.Ok->VB s u->c.rt=true->onN u.sy.bs≠0->¬n<u.sl->u.at_.s<u.sl->¬u.at_.s<u.fi.s->c.pe u.sl=c.pe s.f.s->s.f.s<u.at_.s->u.isf=false->u.fi=Hdz->u.isn=false->oH u.nx=true->u.sy.sig=Zs 96->∀(w:World),Gt w->VM w s u->CLS 25 [.agg c.cs.toArray,.agg s.cs.toArray,.agg u.cs.toArray,U64 n].toArray w (λe w'=>e=.returned (I 238)/\Grow w w')
def cK:Cf:=cfP 1#64 32 4 1#64 8#64 1
theorem km:cK.Ok:=lq _ _ _ _ _ _ aC aC
theorem sN:cK.rt=true:=by decide+kernel
theorem CN:cK.pe 5#64=0#64:=by decide+kernel
theorem cK_7:cK.pe 7#64=0#64:=by decide+kernel
def Hd6:Hd:=⟨6#64,0#64,Z0,Z0,Z0⟩
def Up0:Up:=⟨Hdz,Co0,Zs 160,Hdz,Zs 192,⟨[],none,0,Zs 96⟩,0#64⟩
def mK(b:Nat)(x:Bool):Up:=⟨Hd6,Co0,Zs 160,Hdz,Zs 192,⟨[x],some ⟨b,0,none⟩,1,Zs 96⟩,7#64⟩
theorem ji(b:Nat)(x:Bool):(mK b x).Ok:=⟨⟨rfl,rfl,rfl⟩,jH,rfl,iO,rfl,⟨rfl⟩,⟩
theorem Af:Up0.Ok:=⟨iO,jH,rfl,iO,rfl,⟨rfl⟩⟩
theorem Ii(w:World):(zeroValue 71).run prog w=.ok (.agg Up0.cs.toArray) w:=(zeroValue71 w).trans aE
theorem zvSt(w:World):(zeroValue 53).run prog w=.ok (.agg St0.cs.toArray) w:=(zeroValue53 w).trans aE
def UA(b:Nat):Up:=⟨Hdz,Co0,Zs 160,Hdz,Zs 192,⟨[true],some ⟨b,0,none⟩,1,Zs 96⟩,0#64⟩
def UB(b:Nat):Up:=⟨Hdz,Co0,Zs 160,Hdz,Zs 192,⟨[true],some ⟨b,0,none⟩,1,Zs 96⟩,7#64⟩
theorem GJ(b:Nat):Up0.cs.set 597 (.slice (spt b) 1 1)=(UA b).cs:=kr
theorem Gg(b:Nat):(UA b).cs.set 694 (nrm (.int .u64 7))=(UB b).cs:=kr
theorem Im(b:Nat):(UB b).cs.set 0 (nrm (.int .u64 6))=(mK b true).cs:=kr
theorem JP(b:Nat):(mK b true).cs=(mK b false).cs:=rfl
theorem St.one(s:St):s.cs.all (·.oneCell')=true:=by
 rw[St.cs,List.all_append,List.all_append,List.all_append,List.all_append,Hd.one,Hd.one,Co.one,Co.one];rfl
theorem I6(f o:Hd)(nw:Co)(hf:f.Ok)(ho:o.Ok)(hn:nw.Ok)(w:World):(Instr.build 53 #[(0,.agg f.cs.toArray),(1,.agg o.cs.toArray),(2,.agg nw.cs.toArray)]).run prog w=.ok (.agg (St.cs ⟨f,o,nw,Co0,none,0,0,0#64,0#64⟩).toArray) w:=
 cP (c:=[]++(Hdz.cs++(Hdz.cs++(Co0.cs++(Co0.cs++[Value.slice none 0 0,U64 0#64,U64 0#64]))))) (ps:= #[(0,98),(98,98),(196,49),(245,49),(294,1),(295,1),(296,1)]) (λw=>(zeroValue53 w).trans aE) underlying53 (λw=>by simp[sizeOf22,sizeOf30,sizeOf35,sizeOf51]) [(0,.agg f.cs.toArray),(1,.agg o.cs.toArray),(2,.agg nw.cs.toArray)] (by
  rw[ek (pre:=[]) (old:=Hdz.cs) (vs:=f.cs) O O (by rw[Hd.len hf];rfl),ek (pre:=[]++f.cs) (old:=Hdz.cs) (vs:=o.cs) (by rw[List.nil_append,Hd.len hf];rfl) O (by rw[Hd.len ho];rfl),
   ek (pre:=[]++f.cs++o.cs) (old:=Co0.cs) (vs:=nw.cs) (by rw[List.nil_append,List.length_append,Hd.len hf,Hd.len ho];rfl) O (by rw[Co.len hn];rfl)]
  simp[Instr.fill,St.cs]) w
theorem xq{bs:By}{i:Nat}{r:Rt}(hr:r.length=32)(hi:32*i+32<=bs.length):((jW bs i r).drop (32*i)).take 32=r:=by
 rw[jW,List.append_assoc,List.drop_left' (by rw[List.length_take];omega),List.take_left' hr]
theorem A4{bs:By}{i j:Nat}{r:Rt}(hi:32*i<=bs.length)(hj:j<i):((jW bs i r).drop (32*j)).take 32=(bs.drop (32*j)).take 32:=by
 rw[jW,List.append_assoc,List.drop_append_of_le_length (by rw[List.length_take];omega),List.take_append_of_le_length (by rw[List.length_drop,List.length_take];omega),List.drop_take,List.take_take,Nat.min_eq_left om]
theorem Ir{x:BitVec 64}{a b c:Rt}(ha:a.length=32)(hb:b.length=32)(_hc:c.length=32):(di (LVS x a b c) 24).getD 22 Z0=b:=by
 have l0:=io x 768;have l1:(jW (LVB x 768) 20 a).length=768:=(iM ha (by rw[l0];decide)).trans l0
 have l2:(jW (jW (LVB x 768) 20 a) 22 b).length=768:=(iM hb (by rw[l1];decide)).trans l1
 rw[di,List.getD_eq_getElem?_getD,List.getElem?_map,List.getElem?_range aC];show ((LVS x a b c).drop (32*22)).take 32=b;rw[LVS,A4 (by rw[l2];decide) aC,xq hb (by rw[l1];decide)]
theorem Bl: ∀(l:List Rt),AllR l->di l.flatten l.length=l:=λl hl=>by
 apply List.ext_getElem (by rw[fQ])
 intro i h1 h2;have h3:(di l.flatten l.length)[i]? =some ((l.flatten.drop (32*i)).take 32):=by
  rw[di,List.getElem?_map,List.getElem?_range h2];rfl
 have h4:=(List.getElem?_eq_some_iff.1 h3).2;rw[h4];have e:l=l.take i++(l[i]::l.drop (i+1)):=by rw[<-List.drop_eq_getElem_cons h2,List.take_append_drop]
 have h5:(l.take i).flatten.length=32*i:=by rw[cV _ (hl.take i),List.length_take,Nat.min_eq_left om]
 conv=>lhs;rw[e]
 rw[List.flatten_append,List.flatten_cons,List.drop_left' h5,List.take_left' (hl _ (List.getElem_mem h2))]
theorem Ce(sd q:BitVec 64)(m1 m2:Co)(n:Nat):vfy (m1.rt n) (di (BOV sd q m1 m2 n).br 5) 22#64 (BOV sd q m1 m2 n).hd.b=true:=by
 unfold BOV HDV STV;dsimp only;have hl:=d9 (n:=24) (lT (x:=sd+q) (db (nR q) Z0) (Co.rt_len m1 n) (Co.rt_len m2 n));have hg:=Ir (x:=sd+q) (db (nR q) Z0) (Co.rt_len m1 n) (Co.rt_len m2 n);have hn:(di (LVS (sd+q) (P2 (nR q) Z0) (m1.rt n) (m2.rt n)) 24).length=24:=fQ _ _;generalize di (LVS (sd+q) (P2 (nR q) Z0) (m1.rt n) (m2.rt n)) 24=l at hl hg hn⊢;have ht:l.take (2^5)=l:=List.take_of_length_le om;rw[ht];have hb:AllR (brF P2 Z0 5 l (22#64).toNat):=mw 5 l hl;have hbl:(brF P2 Z0 5 l (22#64).toNat).length=5:=kK _ _ _ _ _;have hc:=Bl _ hb;rw[hbl]at hc;rw[hc];have h1:=r7 P2 Z0 22 5 l aC om;rw[show 22 % 2^5=22 from O,hg]at h1;unfold vfy;rw[show (22#64).toNat=22 from O]at hbl⊢;rw[h1,hbl,decide_eq_true O];rfl
end
section
open Go.RowKit
open Sh
theorem Gr{bc bw bm:Nat}{cf:Cf}{sd:BitVec 64}{k:Nat}(hk:(cN bc bw bm cf sd).own k):k=bc\/k=bw:=by
 rcases hk with h|h|⟨_,h,_⟩|⟨_,h,_⟩|⟨_,h,_⟩|⟨_,h,_⟩
 ·exact .inl h
 ·exact .inr h
 ·cases h
 ·cases h
 ·cases h
 ·cases h
theorem Iq(w:World)(a:Option Addr):RwsAt 48 w a []:=λi r h=>by simp at h
theorem GA{sd q:BitVec 64}{m1 m2:Co}{n:Nat}(h:m1.Ok):(BOV sd q m1 m2 n).Ok:=by
 have hl:=d9 (n:=24) (lT (x:=sd+q) (db (nR q) Z0) (Co.rt_len m1 n) (Co.rt_len m2 n));have hb:=mw (i:=(22#64).toNat) 5 _ (hl.take (2^5));have hn:=kK P2 Z0 5 ((di (LVS (sd+q) (P2 (nR q) Z0) (m1.rt n) (m2.rt n)) 24).take (2^5)) (22#64).toNat;have hh:=sp sd q (fin:=Z0) (Co.rt_len m1 n) (Co.rt_len m2 n);unfold BOV;exact ⟨hh,h,by dsimp only;rw[cV _ hb,hn]⟩
theorem Ah{m1 m2:Co}(h1:xz 1#64 1 0#64 m1)(h2:xz 1#64 1 1#64 m2): ¬(HDV 1#64 5#64 Z0 (m1.rt 1) (m2.rt 1)).rt=Z0:=by
 rw[rtK0 (m:=m1) (by rw[h1.1];exact congrArg (λx=>[x]) Jf) (h1.2.trans kys0),rtK1 (m:=m2) (by rw[h2.1];exact congrArg (λx=>[x]) ID) (h2.2.trans kys1),hdK]
 exact GG
def GK(c:Cn)(q:BitVec 64)(n:Nat)(w1 w2:World)(v:Value):Prop:= ∃d m1 m2,v=.agg (BOV c.sd q m1 m2 n).cs.toArray/\ChAt w2 d/\Ext w1 (2*(n+1)) c d/\(∀m∈d.ms,m.ks.length=n)/\cB d.ats d.ms (c.cf.pe q)=some m1/\cB d.ats d.ms (c.cf.pe q+1#64)=some m2
theorem IJ(c:Cn)(q:BitVec 64)(n:Nat)(hz:c.cf.z=(n:Int))(hn:n<=512)(hnK:c.nK<=400000)(hnS:c.nS<=400000)(hnA:c.ats.length<=400000)(hmn: ∀m∈c.ms,m.ks.length=n)(w:World)(hw:Gt w)(hch:ChAt w c):CLS 10 [pnt c.bc,U64 q].toArray w (λe w2=> ∃v,e=.returned v/\MM c.own w w2/\GK c q n w w2 v):=
 (xT c q n hz hn hnK hnS hnA hmn w hw hch).mono λ_e _w2 ⟨d,m1,m2,he,hm,hc,hx,hl,k1,k2,_⟩=>⟨_,he,hm,d,m1,m2,rfl,hc,hx,hl,k1,k2⟩
theorem D1(hR:RulesP)(w:World)(hw:Gt w):CLS 8 [].toArray w (λe w'=>e=.returned (.bool true)/\Grow w w'):=by
 refine Hf func8 O hw<|λhGF=>ao (E:=EE [26])<|Asg O<|aa<|ao (E:=EE [26])<|?_;refine cx O O ent26 O O (λw' hw'=>(uX 1#64 1#64 8#64 1 w' (hGF.g _ _ _ hw')).mono λe w'' h=> ?_);obtain ⟨bc,bw,bm,rfl,hg,hch,z1,z2⟩:=h;have y1:=Nat.le_trans (ae hw').size z1;have y2:=Nat.le_trans (ae hw').size z2;refine ⟨_,(λw''=>Hp (pl w) [] w''/\ChAt w'' (cN bc bw bm cK 1#64)),rfl,bQ (aR hGF) (λ_ _ x g=>x.grow g),⟨hw'.grow aM hg,hch⟩, ?_⟩;clear hw' hg hch;refine Asg O<|aa<|?_;obtain ⟨c0,hc0⟩: ∃x,cN bc bw bm cK 1#64=x:=⟨_,rfl⟩;have hbc:c0.bc=bc:=by rw[<-hc0];rfl
 have hcf:c0.cf=cK:=by rw[<-hc0];rfl
 have hsd:c0.sd=1#64:=by rw[<-hc0];rfl
 have how: ∀k,c0.own k->w.heap.size<=k:=λk hk=>by rw[<-hc0]at hk;rcases Gr hk with rfl|rfl;exact y1;exact y2
 have hT: ∀w',Gt w'->ChAt w' c0->CLS 10 [pnt bc,U64 5#64].toArray w' (λe w2=> ∃v,e=.returned v/\MM c0.own w' w2/\GK c0 5#64 1 w' w2 v):=λw' g hc=>by have h:=IJ c0 5#64 1 (by rw[hcf];rfl) aC (by rw[<-hc0];exact Nat.zero_le _) (by rw[<-hc0];exact Nat.zero_le _) (by rw[<-hc0];exact Nat.zero_le _) (λm hm=>by rw[<-hc0]at hm;cases hm) w' g hc;rw[hbc]at h;exact h
 refine iN gt_low (λw1 hC1 gw1=> ?_);rw[hc0]at hC1;have hG1:Grow w w1:=ae hC1.1;have ch1:=hC1.2;have hGF1:=gt_low.plain gw1;clear hC1;refine ao (E:=EE [10])<|Mv O<|?_;refine fu gt_low (M:=c0.own) ch1.low O O ent10 O O hGF1 (Q:=GK c0 5#64 1) (λw' h g'=>hT w' g' (ch1.grow h)) (λw2a wa v g12 hm2 ga hq=> ?_);obtain ⟨d,m1,m2,rfl,cha,exa,hla,k1,k2⟩:=hq;have hGFa:=gt_low.plain ga;have hGa:Grow w wa:=hm2.grow0 (hG1.trans g12) how;rw[hcf,CN]at k1 k2;rw[hsd];have hm1:=iX _ _ k1;obtain ⟨m1ok,m1r,_⟩:=cha.ks m1 hm1;have m1l:=hla m1 hm1;have dcf:d.cf=cK:=exa.cf.trans hcf;have dsd:d.sd=1#64:=exa.sd.trans hsd;have dbc:d.bc=bc:=exa.bc.trans hbc;have d1:xz 1#64 1 0#64 m1:=(exa.doc _ _ k1).elim (λh=>by rw[<-hc0]at h;cases h) (λh=>by rw[hsd,hcf]at h;exact h)
 have d2:xz 1#64 1 1#64 m2:=(exa.doc _ _ k2).elim (λh=>by rw[<-hc0]at h;cases h) (λh=>by rw[hsd,hcf]at h;exact h)
 have hne:=Ah d1 d2;have hvf:=Ce 1#64 5#64 m1 m2 1;have bok:(BOV 1#64 5#64 m1 m2 1).Ok:=GA m1ok;have bhd:(BOV 1#64 5#64 m1 m2 1).hd=HDV 1#64 5#64 Z0 (m1.rt 1) (m2.rt 1):=rfl;have bnw:(BOV 1#64 5#64 m1 m2 1).nw=m1:=rfl;have qK:=exa.nK;have qS:=exa.nS;have qA:=exa.nA;have zK:c0.nK=0:=by rw[<-hc0];rfl
 have zS:c0.nS=0:=by rw[<-hc0];rfl
 have zA:c0.ats.length=0:=by rw[<-hc0];rfl
 have hTr: ∀w',Grow wa w'->Gt w'->CLS 11 [pnt bc,U64 5#64].toArray w' (λe w''=>e=.returned (.agg ((HDV 1#64 5#64 Z0 (m1.rt 1) (m2.rt 1)).rt.map U8).toArray)/\Grow w' w''):=λw' h g'=>by have h1:=yC d 5#64 1 m1 m2 (by rw[dcf,CN];exact k1) (by rw[dcf,CN];exact k2) (by rw[dcf];rfl) aC om om om hla w' g' (cha.grow h);rw[dbc,dsd]at h1;exact h1
 obtain ⟨hr,hhr⟩: ∃x,(HDV 1#64 5#64 Z0 (m1.rt 1) (m2.rt 1)).rt=x:=⟨_,rfl⟩;have hrl:hr.length=32:=by rw[<-hhr];exact Hd.rt_len (sp _ _ (Co.rt_len _ _) (Co.rt_len _ _))
 rw[hhr]at hne hTr;rw[<-bhd]at hhr;have b5:(BOV 1#64 5#64 m1 m2 1).hd.s=5#64:=rfl;rw[show m1.rt 1=(BOV 1#64 5#64 m1 m2 1).nw.rt (BOV 1#64 5#64 m1 m2 1).nw.ks.length from by rw[bnw,m1l]]at hvf
 clear bhd;generalize BOV 1#64 5#64 m1 m2 1=bo at hvf bok bnw hhr b5⊢;subst bnw;have hB0:lS hr bo=0:=vT (decide_eq_true hhr) hvf;have hB1:lS Z0 bo=230:=yV (decide_eq_false (λh=>hne (hhr.symm.trans h)));have hcfg: ∀w',Grow wa w'->∀j v,cK.cs[j]? =some v->w'.cell? ((⟨bc,2,none⟩:Addr).add j)=some v:=λw' h j v hv=>by rw[Addr.add_mid,<-dbc];exact ((cha.grow h).oc.cell _).trans ((Cn.at_cf cha.cf j (by have:=(List.getElem?_eq_some_iff.1 hv).1;rwa [Cf.len km]at this)).trans (by rw[dcf];exact hv))
 obtain ⟨st,hst⟩: ∃x:St,x=⟨bo.hd,bo.hd,bo.nw,Co0,none,0,0,0#64,0#64⟩:=⟨_,rfl⟩;have sok:st.Ok:=by rw[hst];exact ⟨bok.hd,bok.hd,bok.nw,jH⟩
 have sf5:st.f.s=5#64:=by rw[hst];exact b5
 have hvb: ∀b x,VB st (mK b x):=λb x=>by rw[hst];exact ⟨by show bo.nw.ks.length<=1000;omega,Nat.zero_le _,Nat.zero_le _,by show 1<=1000;decide⟩
 have hvm: ∀w' b x,Grow wa w'->w'.rangeAt b 0 [.bool x]->VM w' st (mK b x):=λw' b x h hr=>by rw[hst];exact ⟨m1r.grow h,Iq _ _,Iq _ _,CellsAt.range hr⟩
 refine Al 2 hGFa HR<|λb2=>am 2 hGFa O O O sizeOf38 (Bo.len bok) O (Bo.one _) O<|aa<|Xp<|Fa 0 O underlying38 O sizeOf30<|az (cs:=bo.hd.cs) O isAgg30 sizeOf30 (Hd.len bok.hd) (λw' hw' j v hv=>by have:=(av (n:=2) O w' hw') _ v (Bo.at_hd j v hv);rwa [Nat.zero_add]at this) O O<|Fa 0 O underlying38 O sizeOf30<|az (cs:=bo.hd.cs) O isAgg30 sizeOf30 (Hd.len bok.hd) (λw' hw' j v hv=>by have:=(av (n:=2) O w' hw') _ v (Bo.at_hd j v hv);rwa [Nat.zero_add]at this) O O<|Fa 98 O underlying38 O sizeOf35<|az (cs:=bo.nw.cs) O isAgg35 sizeOf35 (Co.len bok.nw) (λw' hw' j v hv=>by have:=(av (n:=2) O w' hw') _ v (Bo.at_nw bok j v hv);rwa [Nat.zero_add]at this) O O<|cj (ps:=[(0,.tmp 11),(1,.tmp 13),(2,.tmp 15)]) (vs:=[.agg bo.hd.cs.toArray,.agg bo.hd.cs.toArray,.agg bo.nw.cs.toArray]) O (λw=>I6 bo.hd bo.hd bo.nw bok.hd bok.hd bok.nw w) O O<|?_
 rw[<-hst];refine Al 3 hGFa zvSt<|λb3=>am 3 hGFa O O O sizeOf53 (St.len sok) (St.len FR) (St.one _) O<|aa<|Xp<|Al 4 hGFa Ii<|λb4=>aa<|Xp<|iy 17 [.bool true] (ps:=[(0,.const (.bool true))]) hGFa O O O aC aC underlying65 sizeOf4 zeroValue4 O O O<|λb17=>Fa 597 O underlying71 O sizeOf69<|Fa 597 O underlying69 O sizeOf65<|bU 4 hGFa O O O sizeOf65 O (by rw[Up.len Af];decide) O<|?_
 rw[show Up0.cs.set 597 (.slice (spt b17) [Value.bool true].length [Value.bool true].length)=(UA b17).cs from GJ b17];refine aa<|Xp<|Fa 694 O underlying71 O sizeOf22<|bU 4 hGFa O O O sizeOf22 O (by rw[Up.len (u:=UA b17) ⟨iO,jH,rfl,iO,rfl,⟨rfl⟩⟩];decide) O<|?_
 rw[show (UA b17).cs.set 694 _=(UB b17).cs from Gg b17];refine Fa 0 O underlying71 O sizeOf30<|Fa 0 O underlying30 O sizeOf22<|bU 4 hGFa O O O sizeOf22 O (by rw[Up.len (u:=UB b17) ⟨iO,jH,rfl,iO,rfl,⟨rfl⟩⟩];decide) O<|?_
 rw[show (UB b17).cs.set 0 _=(mK b17 true).cs from Im b17];refine aa<|Xd []<|Mv O<|aW O O O<|Fa 2 O underlying61 O sizeOf50<|bA (cs:=cK.cs) O isAgg50 sizeOf50 (Cf.len km) (λw' h=>hcfg w' (ae h)) O O<|ah 3 O O isAgg53 sizeOf53 (St.len sok) O O<|ah 4 O O isAgg71 sizeOf71 (Up.len (ji b17 true)) O O<|Cc O ent25 (λw' hw' hG=>hR.vE cK st (mK b17 true) 6#64 km sok (ji _ _) (hvb _ _) sN (by show 1≠0;decide) (by show 6#64<7#64;decide) w' hG (hvm w' b17 true (ae hw') (av (n:=17) O w' hw')))<|Asg O<|aa<|Xd []<|Mv O<|aW O O O<|Fa 2 O underlying61 O sizeOf50<|bA (cs:=cK.cs) O isAgg50 sizeOf50 (Cf.len km) (λw' h=>hcfg w' (ae h)) O O<|ah 3 O O isAgg53 sizeOf53 (St.len sok) O O<|ah 4 O O isAgg71 sizeOf71 (Up.len (ji b17 true)) O O<|Cc O ent25 (λw' hw' hG=>hR.vW cK st (mK b17 true) 7#64 km sok (ji _ _) (hvb _ _) sN (by show 1≠0;decide) (by show¬7#64<7#64;decide) (by show 6#64<7#64;decide) (by show¬6#64<0#64;decide) (by rw[sf5,CN];exact cK_7) (by rw[sf5];show 5#64<6#64;decide) kr O kr kr O w' hG (hvm w' b17 true (ae hw') (av (n:=17) O w' hw')))<|Asg O<|aa<|Xp<|Fa 597 O underlying71 O sizeOf69<|Fa 597 O underlying69 O sizeOf65<|aU 4 O O (show (mK b17 true).cs[597]? =some (.slice (spt b17) 1 1)from by kernel_rfl) isAgg65 O O<|rx 0 O O underlying65 sizeOf4 O aC O O<|bU 17 hGFa O O O sizeOf4 O aC O<|?_
 rw[show [Value.bool true].set 0 (nrm (.bool false))=[Value.bool false]from O,JP b17];refine aa<|Xd []<|Mv O<|aW O O O<|Fa 2 O underlying61 O sizeOf50<|bA (cs:=cK.cs) O isAgg50 sizeOf50 (Cf.len km) (λw' h=>hcfg w' (ae h)) O O<|Mv O<|Cc O ent11 (λw' hw' hG=>hTr w' (ae hw') hG)<|ah 2 O O isAgg38 sizeOf38 (Bo.len bok) O O<|Cc O ent14 (λw' hw' hG=>hR.beg cK hr bo km hrl bok om w' hG (m1r.grow (ae hw')))<|?_;rw[show (bif cK.rt then lS hr bo else 210)=0 from by rw[sN,hB0];rfl]
 refine Bnb true O O (λ_=>bN _ 0 0) O<|Mv O<|Mv O<|aW O O O<|Fa 2 O underlying61 O sizeOf50<|bA (cs:=cK.cs) O isAgg50 sizeOf50 (Cf.len km) (λw' h=>hcfg w' (ae h)) O O<|cj (ps:=[]) (vs:=[]) (v:=.agg (Z0.map U8).toArray) O (λw=>ut w) O O<|ah 2 O O isAgg38 sizeOf38 (Bo.len bok) O O<|Cc O ent14 (λw' hw' hG=>hR.beg cK Z0 bo km O bok om w' hG (m1r.grow (ae hw')))<|?_;rw[show (bif cK.rt then lS Z0 bo else 210)=230 from by rw[sN,hB1];rfl]
 refine Bnb true O O (λ_=>bN _ 230 230) O<|Pk O O O<|Mv O<|Mv O<|Bnb true O O (λ_=>bN _ 233 233) O<|Pk O O O<|Mv O<|Mv O<|Bnb true O O (λ_=>bN _ 238 238) O<|Pk O O O<|Mv O<|Mv O<|aW O O O<|Fa 2 O underlying61 O sizeOf50<|bA (cs:=cK.cs) O isAgg50 sizeOf50 (Cf.len km) (λw' h=>hcfg w' (ae h)) O O<|ah 3 O O isAgg53 sizeOf53 (St.len sok) O O<|ah 4 O O isAgg71 sizeOf71 (Up.len (ji b17 false)) O O<|Cc O ent25 (λw' hw' hG=>hR.vF cK st (mK b17 false) 7#64 km sok (ji _ _) (hvb _ _) sN O w' hG (hvm w' b17 false (ae hw') (av (n:=17) O w' hw')))<|Bnb true O O (λ_=>bN _ 232 232) O<|Pk O O O<|Mv O<|ah 4 O O isAgg71 sizeOf71 (Up.len (ji b17 false)) O O<|Cc O ent19 (λw' hw' hG=>hR.isn (mK b17 false) (ji _ _) w' hG)<|?_;rw[show (mK b17 false).isn=false from by kernel_rfl]
 refine bR O (λ_=>bH _) O O<|Pk O O O<|Mv O<|ah 3 O O isAgg53 sizeOf53 (St.len sok) O O<|Cc O ent23 (λw' hw' hG=>hR.kno st sok (by rw[hst];exact Nat.zero_le _) w' hG (by rw[hst];exact Iq _ _))<|?_
 rw[show (!oH st.nx)=false from by rw[hst];kernel_rfl]
 refine bR O (λ_=>bH _) O O<|Pk O O O<|Asg O<|aa<|aq<|Rr<|?_;exact au O O (λw' hw'=>⟨rfl,hGa.trans (ae hw')⟩)
end
section
open Go.RowKit
open Sh
theorem JQ(op:BinOp)(x y:Operand)(xs ys:Array Value)(w:World):(eqGuard op 36 x y (.agg xs) (.agg ys)).run prog w=.ok () w:=run_eqGuard_agg w op 36 x y xs ys kr
theorem Jm(op:BinOp)(x y:Operand)(xs ys:Array Value)(w:World):(eqGuard op 64 x y (.agg xs) (.agg ys)).run prog w=.ok () w:=run_eqGuard_agg w op 64 x y xs ys kr
theorem BV(op:BinOp)(x y:Operand)(xs ys:Array Value)(w:World):(eqGuard op 33 x y (.agg xs) (.agg ys)).run prog w=.ok () w:=run_eqGuard_agg w op 33 x y xs ys kr
theorem BR:EqB prog 28 32 2:=EJ underlying28 underlying5 sizeOf5 isAgg5
theorem Mh:EqB prog 36 160 3:=vH (k:=5) (n:=32) aC underlying36 isAgg28 sizeOf28 BR
theorem KN:EqB prog 64 192 3:=vH (k:=6) (n:=32) aC underlying64 isAgg28 sizeOf28 BR
theorem AU:EqB prog 33 48 2:=EJ underlying33 underlying5 sizeOf5 isAgg5
theorem I4(w:World):(zeroValue 64).run prog w=.ok (.agg ((Zs 192).map U8).toArray) w:=(zeroValue64 w).trans aE
theorem A1(w:World):(zeroValue 33).run prog w=.ok (.agg ((Zs 48).map U8).toArray) w:=(zeroValue33 w).trans aE
theorem Hm{c:Co}{i:Nat}{x:By}(hx:c.ks[i]? =some x)(h:decide (x=(Zs 48))=false):oH c=false:=by
 unfold oH;rw[Bool.and_eq_false_iff];refine .inl (Bool.eq_false_iff.2 λh1=> ?_);have h2:=List.all_eq_true.1 h1 x (List.mem_of_getElem? hx);rw[h]at h2
 cases h2
theorem Ei{c:Co}(h: ∀j r,j<c.ks.length->c.ks[j]? =some r->r=(Zs 48)):oH c=decide (c.sum=(Zs 48)):=by
 unfold oH;rw[show c.ks.all (λk=>decide (k=(Zs 48)))=true from List.all_eq_true.2 λx hx=>by
  obtain ⟨j,hj,rfl⟩:=List.mem_iff_getElem.1 hx;exact decide_eq_true (h j _ hj (List.getElem?_eq_getElem hj)),Bool.true_and]
theorem St.at_nx{s:St}(k:s.Ok)(j:Nat)(v:Value)(h:s.nx.cs[j]? =some v):s.cs[245+j]? =some v:=by
 rw[St.cs,List.getElem?_append_right (by rw[Hd.len k.f];omega),Hd.len k.f,List.getElem?_append_right (by rw[Hd.len k.o];omega),Hd.len k.o,List.getElem?_append_right (by rw[Co.len k.nw];omega),Co.len k.nw,show 245+j-98-98-49=j from by omega,List.getElem?_append_left (List.getElem?_eq_some_iff.1 h).1];exact h
theorem St.at_nw{s:St}(k:s.Ok)(j:Nat)(v:Value)(h:s.nw.cs[j]? =some v):s.cs[196+j]? =some v:=by
 rw[St.cs,List.getElem?_append_right (by rw[Hd.len k.f];omega),Hd.len k.f,List.getElem?_append_right (by rw[Hd.len k.o];omega),Hd.len k.o,show 196+j-98-98=j from by omega,List.getElem?_append_left (List.getElem?_eq_some_iff.1 h).1];exact h
theorem tg(l:List Bool)(i:Nat)(b:Bool)(h:l[i]? =some b):onN (l.take (i+1))=onN (l.take i)+b.toNat:=by
 unfold onN;rw[List.take_add_one,h,List.filter_append,List.length_append]
 cases b<;>rfl
theorem zU(l:List Bool):onN l<=l.length:=List.length_filter_le _ _
end
section
open Go.RowKit
open Sh
theorem Up.at_bs{u:Up}(k:u.Ok):u.cs[597]? =some (.slice u.sy.ba u.sy.bs.length u.sy.bc):=Up.l6 k 0 _ O
end
section
open Go.RowKit
open Sh
theorem Up.at_s{u:Up}:u.cs[0]? =some (U64 u.at_.s):=Up.l1 0 _ O
theorem Up.at_f{u:Up}(k:u.Ok):u.cs[307]? =some (U64 u.fi.s):=Up.l4 k 0 _ O
theorem na(a b:BitVec 64):(a==b)=decide (a=b):=rfl
end
section
open Go.RowKit
open Sh
theorem betG: ∀xa xb N n1 n2 ra rb fa fb ga gb T T':Bool,(n1 && n2)=false->(T && T')=false->
 ((bif xa !=xb then xa else bif !xa && N then n1 else bif ra !=rb then ra else bif fa !=fb then fa else bif fa && (ga !=gb)then ga else T) &&
  (bif xb !=xa then xb else bif !xb && N then n2 else bif rb !=ra then rb else bif fb !=fa then fb else bif fb && (gb !=ga)then gb else T'))=false:=by decide+kernel
theorem vv(a b:BitVec 64):(decide (a<b) && decide (b<a))=false:=by
 by_cases h:a<b
 ·rw[decide_eq_true h,decide_eq_false (λh2=>by have h3:=BitVec.lt_def.1 h;have h4:=BitVec.lt_def.1 h2;omega)];rfl
 ·rw[decide_eq_false h];rfl
theorem yN(a b:Nat):(decide (b<a) && decide (a<b))=false:=by
 by_cases h:b<a
 ·rw[decide_eq_true h,decide_eq_false (λh2=>om)];rfl
 ·rw[decide_eq_false h];rfl
theorem ne_n(a b:Nat):decide (b≠a)=decide (a≠b):=decide_eq_decide.2 ⟨λh e=>h e.symm,λh e=>h e.symm⟩
theorem ne_u(a b:BitVec 64):decide (b≠a)=decide (a≠b):=decide_eq_decide.2 ⟨λh e=>h e.symm,λh e=>h e.symm⟩
theorem JJ: ∀d u v r s:Bool,(u && v)=false->(r && s)=false->((bif d then u else r) && (bif d then v else s))=false:=aC
theorem xI(c:Cf)(a b:Up):(lE c a b && lE c b a)=false:=by
 unfold lE;rw[ne_n (onN a.sy.bs) (onN b.sy.bs),ne_u a.at_.s b.at_.s];exact betG _ _ _ _ _ _ _ _ _ _ _ _ _ (yN _ _) (JJ _ _ _ _ _ (yN _ _) (JJ _ _ _ _ _ (vv _ _) (vv _ _)))
end
section
open Go.RowKit
open Sh
theorem lA{c:Cf}{a b:Up}(hr:c.rt=true)(m:cT a.sy.bs=true)(h:cT b.sy.bs=false\/(cT b.sy.bs=true/\((a.rip c=true/\b.rip c=false)\/(a.rip c=true/\b.rip c=true/\((a.isf=true/\b.isf=false)\/(a.isf=true/\b.isf=true/\
 ((a.nea c=true/\b.nea c=false)\/(a.nea c=true/\b.nea c=true/\(onN b.sy.bs<onN a.sy.bs\/(onN a.sy.bs=onN b.sy.bs/\(a.at_.s<b.at_.s\/(a.at_.s=b.at_.s/\a.sl<b.sl))))))))))))  :iY c a b=true/\iY c b a=false:=by
 have h1:lE c a b=true:=by
  rcases h with h|⟨h,⟨h1,h2⟩|⟨h1,h2,⟨h3,h4⟩|⟨h3,h4,⟨h5,h6⟩|⟨h5,h6,h7|⟨h7,h8|⟨h8,h9⟩⟩⟩⟩⟩⟩
  ·simp[lE,m,h]
  ·simp[lE,m,h,h1,h2]
  ·simp[lE,m,h,h1,h2,h3,h4]
  ·simp[lE,m,h,h1,h2,h3,h4,h5,h6]
  ·have hn: ¬onN a.sy.bs=onN b.sy.bs:=om
   simp[lE,m,h,h1,h2,h3,h4,h5,h6,h7,hn]
  ·have hn: ¬a.at_.s=b.at_.s:=λe=>by have:=BitVec.lt_def.1 h8;rw[e]at this;omega
   simp[lE,m,h,h1,h2,h3,h4,h5,h6,h7,h8,hn]
  ·simp[lE,m,h,h1,h2,h3,h4,h5,h6,h7,h8,h9]
 have h2:=xI c a b;rw[h1,Bool.true_and]at h2;exact ⟨by rw[iY,hr];exact h1,by rw[iY,hr];exact h2⟩
def cM:Cf:=⟨Z0,Zs 4,2#64,2#64,8⟩
theorem dX:cM.Ok:=⟨rfl,rfl⟩
theorem lV:cM.rt=true:=by decide+kernel
theorem I8(w:World):(Instr.build 50 #[(2,U64 2#64),(3,U64 2#64),(4,I 8)]).run prog w=.ok (.agg cM.cs.toArray) w:=
 cP H9 underlying50 (ps:= #[(0,32),(32,4),(36,1),(37,1),(38,1)]) (λw=>by simp[sizeOf22,sizeOf28,sizeOf3,sizeOf48]) [(2,U64 2#64),(3,U64 2#64),(4,I 8)] O w
def UM(x y:BitVec 64)(p q:BitVec 8)(f:BitVec 64)(l:List Bool)(a:Option Addr)(c:Nat):Up:=⟨⟨x,0#64,Z0,Z0,Z0⟩,Co0,p::Zs 159,⟨f,0#64,Z0,Z0,Z0⟩,q::Zs 191,⟨l,a,c,Zs 96⟩,y⟩
theorem dG(x y:BitVec 64)(p q:BitVec 8)(f:BitVec 64)(l:List Bool)(a:Option Addr)(c:Nat):(UM x y p q f l a c).Ok:=⟨⟨rfl,rfl,rfl⟩,jH,rfl,⟨rfl,rfl,rfl⟩,rfl,⟨rfl⟩⟩
theorem um_0:Up0.cs=(UM 0#64 0#64 0#8 0#8 0#64 [] none 0).cs:=rfl
section
variable (x y z f:BitVec 64) (p q r:BitVec 8) (l m:List Bool) (a b:Option Addr) (c d:Nat)
theorem E0:(UM x y p q f l a c).cs.set 0 (U64 z)=(UM z y p q f l a c).cs:=kr
theorem xh:(UM x y p q f l a c).cs.set 694 (U64 z)=(UM x z p q f l a c).cs:=kr
theorem vU:(UM x y p q f l a c).cs.set 307 (U64 z)=(UM x y p q z l a c).cs:=kr
theorem DI:(UM x y p q f l a c).cs.set 147 (nrm (.int .u8 1))=(UM x y 1#8 q f l a c).cs:=kr
theorem Cp:(UM x y p q f l a c).cs.set 405 (nrm (.int .u8 1))=(UM x y p 1#8 f l a c).cs:=kr
theorem wM:(UM x y p q f l a c).cs.set 597 (.slice b m.length d)=(UM x y p q f m b d).cs:=kr
theorem eP(h:l.length=m.length):(UM x y p q f l a c).cs=(UM x y p q f m a c).cs:=by
 simp only[UM,Up.cs,Ag.cs,h]
theorem Ek:lay 147 ((Zs 160).map U8) (UM x y p q f l a c).cs=(UM x y 0#8 q f l a c).cs:=kr
theorem D7:lay 405 ((Zs 192).map U8) (UM x y p q f l a c).cs=(UM x y p 0#8 f l a c).cs:=kr
theorem B8:(UM x y 1#8 q f l a c).isn=true:=kr
theorem DY:(UM x y 0#8 q f l a c).isn=false:=kr
theorem iq:(UM x y p 1#8 f l a c).isf=true:=kr
theorem C5:(UM x y p 0#8 f l a c).isf=false:=kr
end
def sM(T:BitVec 64):BitVec 64:=4#64*(1#64+T)
theorem yK{T j:BitVec 64}(h:T.toNat<65536)(hj:j.toNat<4):cM.pe (sM T+j)=1#64+T:=by
 rw[Es lV];show (4#64*(1#64+T)+j) / 2#64 / 2#64=1#64+T;apply BitVec.eq_of_toNat_eq;simp only[BitVec.toNat_udiv,BitVec.toNat_add,BitVec.toNat_mul,BitVec.toNat_ofNat,Nat.reducePow,Nat.reduceMod];omega
theorem J9{T:BitVec 64}(h:T.toNat<65536):cM.pe (sM T)=1#64+T:=by have:=yK (j:=0#64) h aC;rwa [BitVec.add_zero]at this
theorem JF{T:BitVec 64}(h:T.toNat<65536):cM.pe (sM T-1#64)=T:=by
 rw[Es lV];show (4#64*(1#64+T)-1#64) / 2#64 / 2#64=T;apply BitVec.eq_of_toNat_eq;simp only[BitVec.toNat_udiv,BitVec.toNat_sub,BitVec.toNat_add,BitVec.toNat_mul,BitVec.toNat_ofNat,Nat.reducePow,Nat.reduceMod,Nat.reduceSub];omega
theorem Mq{T j k:BitVec 64}(_h:T.toNat<65536)(hk:k.toNat<4)(hj:j.toNat<k.toNat):sM T+j<sM T+k:=by
 rw[BitVec.lt_def];show (4#64*(1#64+T)+j).toNat<(4#64*(1#64+T)+k).toNat;simp only[BitVec.toNat_add,BitVec.toNat_mul,BitVec.toNat_ofNat];omega
def FB(i:Nat):List Bool:=(List.range 8).map λj=>decide (j<i)
def FBV(i:Nat):List Value:=(FB i).map .bool
theorem DM: ∀i,i<6->(FBV i).set i (nrm (.bool true))=FBV (i+1)
 |0,_=>rfl|1,_=>rfl|2,_=>rfl|3,_=>rfl|4,_=>rfl|5,_=>rfl
 |n+6,h=>om
theorem fC:cT (FB 6)=true:=aC
theorem BF:cT (FB 7)=true:=aC
theorem Kk:onN (FB 6)<onN (FB 7):=aC
theorem CU: ∀k,k<6->cT ((FB 6).set k false)=false
 |0,_=>by decide|1,_=>by decide|2,_=>by decide|3,_=>by decide|4,_=>by decide|5,_=>aC
 |n+6,h=>om
theorem fL(i:Nat):(FB i).length=8:=by simp[FB]
theorem BM{c xs:List Value}{k:Nat}(v:Value)(h:c.take 8=xs):(c.set k v).take 8=xs.set k v:=by rw[<-h,List.take_set]
theorem kg{T:BitVec 64}(h:T.toNat<65536){j k:BitVec 64}(hj:j.toNat<4)(hk:k.toNat<4){q:BitVec 8}{f:BitVec 64}{l:List Bool}{a:Option Addr}{c:Nat}:(UM (sM T+j) (sM T+k) 1#8 q f l a c).rip cM=true:=by
 rw[Up.rip,B8,Bool.true_and];exact decide_eq_true ((yK h hj).trans (yK h hk).symm)
theorem pL{T:BitVec 64}(h:T.toNat<65536){j:BitVec 64}(hj:j.toNat<4){y:BitVec 64}{p q:BitVec 8}{l:List Bool}{a:Option Addr}{c:Nat}:(UM (sM T+j) y p q (sM T) l a c).nea cM=true:=by
 rw[Up.nea];exact decide_eq_true ((J9 h).trans (yK h hj).symm)
theorem Cw{P:Program}{s d:TypeId}{sd:TypeDesc}(hs:P.underlying s=some sd)(hd:P.underlying d=some (.int .u64))(x:Int){w:World}:(convert s d (.int .u16 x)).run P w=.ok (U64 (BitVec.ofInt 64 x)) w:=by
 rw[iV hs hd];have:IntKind.wrap .u64 x=((BitVec.ofInt 64 x).toNat:Int):=by
  simp only[IntKind.wrap,IntKind.signed,IntKind.bits,Bool.false_and];rw[if_neg aB,BitVec.toNat_ofInt,Int.toNat_of_nonneg (Int.emod_nonneg _ aC)];rfl
 rw[this];rfl
theorem IF:TI prog 4 (.bool false) 1 1:=kZ kr
theorem xN(hR:RulesP)(wh nn:Int)(t:Int)(T:BitVec 64)(hT:T=BitVec.ofInt 64 t)(hTl:T.toNat<65536)(w:World)(hw:Gt w):CLS 7 [I wh,I nn,.int .u16 t].toArray w (λe w'=>e=.returned (.bool true)/\Grow w w'):=by
 refine Hf func7 O hw<|λhGF=>Xp<|Asg O<|aa<|ai<|Xp<|Cc O ent8 (λw' _ hG=>D1 hR w' hG)<|bR O (λ_=>bH _) O O<|aa<|aH O<|aw<|Xp<|cj (ps:=[(2,.const (U64 2#64)),(3,.const (U64 2#64)),(4,.const (I 8))]) (vs:=[U64 2#64,U64 2#64,I 8]) O (λw=>I8 w) O O<|Al 7 hGF H9<|λb7=>am 7 hGF O O O sizeOf50 (Cf.len dX) (Cf.len (c:=Cf0) ⟨rfl,rfl⟩) (Cf.one _) O<|aa<|Xp<|Mv O<|bI (v:=U64 T) O O (λw'=>by rw[hT];exact Cw underlying23 underlying22 t) O O<|Bnr (v:=U64 (1#64+T)) O O (λ_=>aL _ 1#64 T)<|Bnr (v:=U64 (sM T)) O O (λ_=>cq _ 4#64 (1#64+T))<|Asg O<|aa<|Xp<|Al 9 hGF Ii<|?_
 intro b9;rw[um_0];refine aa<|Xp<|Mv O<|Bnr (v:=U64 (sM T+1#64)) O O (λ_=>aL _ (sM T) 1#64)<|Mv O<|Bnr (v:=U64 (sM T+2#64)) O O (λ_=>aL _ (sM T) 2#64)<|Fa 0 O underlying71 O sizeOf30<|Fa 0 O underlying30 O sizeOf22<|bU 9 hGF O O O sizeOf22 O (by rw[Up.len (dG _ _ _ _ _ _ _ _)];decide) O<|?_
 rw[E0];refine Fa 694 O underlying71 O sizeOf22<|bU 9 hGF O O O sizeOf22 O (by rw[Up.len (dG _ _ _ _ _ _ _ _)];decide) O<|?_
 rw[xh];refine aa<|Xp<|gq (l:=8) (m:=8) (c:=FBV 0) 26 hGF O O (Nat.le_refl _) underlying65 IF ⟨aC,aC,aC⟩ kr O O<|λb26=>Fa 597 O underlying71 O sizeOf69<|Fa 597 O underlying69 O sizeOf65<|bU 9 hGF O O O sizeOf65 O (by rw[Up.len (dG _ _ _ _ _ _ _ _)];decide) O<|?_
 rw[show (.slice (spt b26) 8 8:Value)=.slice (spt b26) (FB 0).length 8 from O,wM];refine aa<|ai<|Xp<|Asg O<|aa<|ar<|bV (ι:={i:Nat // i<=6}) (λx=>[(0,I wh),(1,I nn),(8,U64 (sM T)),(7,pnt b7),(9,pnt b9),(10,I (x.1:Int))]) (λx=>[(26,b26,FBV x.1,4),(9,b9,(UM (sM T+1#64) (sM T+2#64) 0#8 0#8 0#64 (FB 0) (spt b26) 8).cs,71),(7,b7,cM.cs,50)]) (λx=>6-x.1) ⟨0,Nat.zero_le _⟩ hGF trv trv<|?_;rintro ⟨i,hi⟩;dsimp only;refine ai<|Xp<|Mv O<|Bnr O O (λ_=>aI _ _ _)<|aa<|?_;refine ct O (λhc=> ?_) (λhc=> ?_)
 ·have hlt:i<6:=(by simp at hc;omega)
  clear hc;refine aw<|ai<|ar<|Xq<|Fa 597 O underlying71 O sizeOf69<|Fa 597 O underlying69 O sizeOf65<|aU 9 O O (Up.at_bs (dG _ _ _ _ _ _ _ _)) isAgg65 O O<|Mv O<|rx i O O underlying65 sizeOf4 O (by show i<(FB 0).length;rw[fL];omega) O O<|bU 26 hGF O O O sizeOf4 O (by show i<8;omega) O<|?_
  rw[DM i om];refine aa<|Xq<|Mv O<|Bnr (v:=I (((i+1:Nat):Int))) O O (λ_=>(ay _ _ _ aG).trans aE)<|Asg O<|aa<|?_
  repeat (refine bg ?_)
  exact aV<|⟨rfl,⟨i+1,hlt⟩,_,by show 6-(i+1)<6-i;omega,rfl,trv,trv⟩
 ·obtain rfl:i=6:=(by simp at hc;omega)
  clear hc;refine bp<|Xp<|Fa 147 O underlying71 O sizeOf36<|mU 0 147 O O underlying36 sizeOf28 O aC O O O<|jN 0 O O underlying28 sizeOf5 O aC O O<|bU 9 hGF O O O sizeOf5 O (by rw[Up.len (dG _ _ _ _ _ _ _ _)];decide) O<|?_
  rw[DI];refine Fa 405 O underlying71 O sizeOf64<|mU 0 405 O O underlying64 sizeOf28 O aC O O O<|jN 0 O O underlying28 sizeOf5 O aC O O<|bU 9 hGF O O O sizeOf5 O (by rw[Up.len (dG _ _ _ _ _ _ _ _)];decide) O<|?_
  rw[Cp];refine aa<|Xp<|Mv O<|Fa 307 O underlying71 O sizeOf30<|Fa 307 O underlying30 O sizeOf22<|bU 9 hGF O O O sizeOf22 O (by rw[Up.len (dG _ _ _ _ _ _ _ _)];decide) O<|?_
  rw[vU];refine aa<|Xp<|ah 9 O O isAgg71 sizeOf71 (Up.len (dG _ _ _ _ _ _ _ _)) O O<|Al 11 hGF Ii<|λb11=>am 11 hGF O O O sizeOf71 (Up.len (dG _ _ _ _ _ _ _ _)) (Up.len Af) O O<|aa<|Xp<|Fa 597 O underlying71 O sizeOf69<|Fa 597 O underlying69 O sizeOf65<|aU 9 O O (Up.at_bs (dG _ _ _ _ _ _ _ _)) isAgg65 O O<|?_;refine vh (xs:=[]) (ys:=FBV 6) 51 hGF O O underlying65 underlying65 IF O (.inl ⟨rfl,rfl,rfl⟩) (av (n:=26) O) O aC aC aC O O (λb51 c51 k51 hl51 hk51 ht51=> ?_);have ht8:c51.take 8=FBV 6:=ht51;have hc8:8<=c51.length:=by rw[hl51];exact hk51
  refine Fa 597 O underlying71 O sizeOf69<|Fa 597 O underlying69 O sizeOf65<|bU 11 hGF O O O sizeOf65 O (by rw[Up.len (dG _ _ _ _ _ _ _ _)];decide) O<|?_
  rw[show∀(k:Nat),(.slice (spt b51) ([]++FBV 6:List Value).length k:Value)=.slice (spt b51) (FB 6).length k from λ_=>rfl,wM];refine aa<|ai<|Xp<|Mv O<|Ca O (vo wh 7 aC aC)<|?_;obtain ⟨pk,hpk⟩: ∃x,plc wh 7=x:=⟨_,rfl⟩;rw[hpk];refine aa<|ar<|Xp<|?_;rcases Bool.eq_false_or_eq_true (pk==0)with hq|hq
  ·refine Bnb true O O (λ_=>bN _ pk 0) (hq)<|Asg O<|aa<|aP O<|Xe []<|Fa 597 O underlying71 O sizeOf69<|Fa 597 O underlying69 O sizeOf65<|aU 11 O O (Up.at_bs (dG _ _ _ _ _ _ _ _)) isAgg65 O O<|Mv O<|Ca O (vo nn 6 aC aC)<|?_
   obtain ⟨kk,hkk⟩: ∃k:Nat,plc nn 6=(k:Int):=⟨(plc nn 6).toNat,by have:=Gd (k:=nn) (n:=6) aC;omega⟩
   have hk6:kk<6:=by have:=FK (k:=nn) (n:=6) aC;omega
   rw[hkk];refine rx kk O O underlying65 sizeOf4 O (by show kk<8;omega) O O<|bU 51 hGF O O O sizeOf4 O om O<|aa<|?_
   obtain ⟨ua,hua⟩: ∃u,u=UM (sM T+1#64) (sM T+2#64) 1#8 1#8 (sM T) (FB 6) (spt b26) 8:=⟨_,rfl⟩;obtain ⟨ub,hub⟩: ∃u,u=UM (sM T+1#64) (sM T+2#64) 1#8 1#8 (sM T) ((FB 6).set kk false) (spt b51) k51:=⟨_,rfl⟩;have hua2:ua.Ok:=by rw[hua];exact dG _ _ _ _ _ _ _ _
   have hub2:ub.Ok:=by rw[hub];exact dG _ _ _ _ _ _ _ _
   have hbb:iY cM ua ub=true/\iY cM ub ua=false:=by rw[hua,hub];exact lA lV fC (.inl (CU kk hk6))
   have hca: ∀w' L,Hp (pl w) L w'->lkB L 26=some (b26,(FB 6).map .bool,4)->CellsAt w' ua.sy.ba (ua.sy.bs.map .bool):=λw' L h hl=>by rw[hua];exact CellsAt.range (av (n:=26) hl w' h)
   have h8e:(c51.set kk (nrm (.bool false))).take 8=((FB 6).set kk false).map .bool:=by rw[BM _ ht8];exact mG .. 
   have hcb: ∀w' L,Hp (pl w) L w'->lkB L 51=some (b51,c51.set kk (nrm (.bool false)),4)->CellsAt w' ub.sy.ba (ub.sy.bs.map .bool):=λw' L h hl=>by rw[hub];show CellsAt w' (spt b51) (((FB 6).set kk false).map .bool);rw[<-h8e];exact (CellsAt.range (av (n:=51) hl w' h)).take 8
   have e9:(UM (sM T+1#64) (sM T+2#64) 1#8 1#8 (sM T) (FB 0) (spt b26) 8).cs=ua.cs:=(eP _ _ _ _ _ _ _ _ _ (by simp[fL])).trans (congrArg Up.cs hua.symm)
   have e11:(UM (sM T+1#64) (sM T+2#64) 1#8 1#8 (sM T) (FB 6) (spt b51) k51).cs=ub.cs:=(eP _ _ _ _ _ _ _ _ _ aB).trans (congrArg Up.cs hub.symm);rw[e9,e11];have l1:ua.sy.bs.length<=1000:=by rw[hua];show (FB 6).length<=1000;decide
   have l2:ub.sy.bs.length<=1000:=by rw[hub];show ((FB 6).set kk false).length<=1000;simp[fL]
   refine Xp<|ah 7 O O isAgg50 sizeOf50 (Cf.len dX) O O<|ah 9 O O isAgg71 sizeOf71 (Up.len hua2) O O<|ah 11 O O isAgg71 sizeOf71 (Up.len hub2) O O<|Cc O ent17 (λw' hw' hG=>hR.bet cM ua ub dX hua2 hub2 l1 l2 w' hG (hca w' _ hw' O) (hcb w' _ hw' O))<|?_;rw[hbb.1];refine Mv O<|ah 7 O O isAgg50 sizeOf50 (Cf.len dX) O O<|ah 11 O O isAgg71 sizeOf71 (Up.len hub2) O O<|ah 9 O O isAgg71 sizeOf71 (Up.len hua2) O O<|Cc O ent17 (λw' hw' hG=>hR.bet cM ub ua dX hub2 hua2 l2 l1 w' hG (hcb w' _ hw' O) (hca w' _ hw' O))<|?_;rw[hbb.2];refine bR O (λ_=>bH _) O O<|Pk O O O<|Asg O<|aa<|aq<|Rr<|?_;exact au O O (λw' hw'=>⟨rfl,ae hw'⟩)
  ·refine Bnb false O O (λ_=>bN _ pk 0) (hq)<|Asg O<|aa<|aH O<|Xp<|?_
   rcases Bool.eq_false_or_eq_true (pk==1)with hq|hq
   ·refine Bnb true O O (λ_=>bN _ pk 1) (hq)<|Asg O<|aa<|aP O<|Xq<|dI Dh underlying36 sizeOf28 O O<|Fa 147 O underlying71 O sizeOf36<|ff 11 _ hGF O O O sizeOf36 O (bj _) (by rw[Up.len (dG _ _ _ _ _ _ _ _)];decide) (Ek _ _ _ _ _ _ _ _) O<|aa<|?_
    obtain ⟨ua,hua⟩: ∃u,u=UM (sM T+1#64) (sM T+2#64) 1#8 1#8 (sM T) (FB 6) (spt b26) 8:=⟨_,rfl⟩;obtain ⟨ub,hub⟩: ∃u,u=UM (sM T+1#64) (sM T+2#64) 0#8 1#8 (sM T) (FB 6) (spt b51) k51:=⟨_,rfl⟩;have hua2:ua.Ok:=by rw[hua];exact dG _ _ _ _ _ _ _ _
    have hub2:ub.Ok:=by rw[hub];exact dG _ _ _ _ _ _ _ _
    have hbb:iY cM ua ub=true/\iY cM ub ua=false:=by rw[hua,hub];exact lA lV fC (.inr ⟨fC,.inl ⟨kg hTl aC aC,by rw[Up.rip,DY];rfl⟩⟩)
    have hca: ∀w' L,Hp (pl w) L w'->lkB L 26=some (b26,(FB 6).map .bool,4)->CellsAt w' ua.sy.ba (ua.sy.bs.map .bool):=λw' L h hl=>by rw[hua];exact CellsAt.range (av (n:=26) hl w' h)
    have h8e:(c51).take 8=(FB 6).map .bool:=ht8;have hcb: ∀w' L,Hp (pl w) L w'->lkB L 51=some (b51,c51,4)->CellsAt w' ub.sy.ba (ub.sy.bs.map .bool):=λw' L h hl=>by rw[hub];show CellsAt w' (spt b51) ((FB 6).map .bool);rw[<-h8e];exact (CellsAt.range (av (n:=51) hl w' h)).take 8
    have e9:(UM (sM T+1#64) (sM T+2#64) 1#8 1#8 (sM T) (FB 0) (spt b26) 8).cs=ua.cs:=(eP _ _ _ _ _ _ _ _ _ (by simp[fL])).trans (congrArg Up.cs hua.symm)
    have e11:(UM (sM T+1#64) (sM T+2#64) 0#8 1#8 (sM T) (FB 6) (spt b51) k51).cs=ub.cs:=(eP _ _ _ _ _ _ _ _ _ aB).trans (congrArg Up.cs hub.symm);rw[e9,e11];have l1:ua.sy.bs.length<=1000:=by rw[hua];show (FB 6).length<=1000;decide
    have l2:ub.sy.bs.length<=1000:=by rw[hub];show (FB 6).length<=1000;simp[fL]
    refine Xp<|ah 7 O O isAgg50 sizeOf50 (Cf.len dX) O O<|ah 9 O O isAgg71 sizeOf71 (Up.len hua2) O O<|ah 11 O O isAgg71 sizeOf71 (Up.len hub2) O O<|Cc O ent17 (λw' hw' hG=>hR.bet cM ua ub dX hua2 hub2 l1 l2 w' hG (hca w' _ hw' O) (hcb w' _ hw' O))<|?_;rw[hbb.1];refine Mv O<|ah 7 O O isAgg50 sizeOf50 (Cf.len dX) O O<|ah 11 O O isAgg71 sizeOf71 (Up.len hub2) O O<|ah 9 O O isAgg71 sizeOf71 (Up.len hua2) O O<|Cc O ent17 (λw' hw' hG=>hR.bet cM ub ua dX hub2 hua2 l2 l1 w' hG (hcb w' _ hw' O) (hca w' _ hw' O))<|?_;rw[hbb.2];refine bR O (λ_=>bH _) O O<|Pk O O O<|Asg O<|aa<|aq<|Rr<|?_;exact au O O (λw' hw'=>⟨rfl,ae hw'⟩)
   ·refine Bnb false O O (λ_=>bN _ pk 1) (hq)<|Asg O<|aa<|aH O<|Xp<|?_
    rcases Bool.eq_false_or_eq_true (pk==2)with hq|hq
    ·refine Bnb true O O (λ_=>bN _ pk 2) (hq)<|Asg O<|aa<|aP O<|Xq<|dI I4 underlying64 sizeOf28 O O<|Fa 405 O underlying71 O sizeOf64<|ff 11 _ hGF O O O sizeOf64 O (bj _) (by rw[Up.len (dG _ _ _ _ _ _ _ _)];decide) (D7 _ _ _ _ _ _ _ _) O<|aa<|?_
     obtain ⟨ua,hua⟩: ∃u,u=UM (sM T+1#64) (sM T+2#64) 1#8 1#8 (sM T) (FB 6) (spt b26) 8:=⟨_,rfl⟩;obtain ⟨ub,hub⟩: ∃u,u=UM (sM T+1#64) (sM T+2#64) 1#8 0#8 (sM T) (FB 6) (spt b51) k51:=⟨_,rfl⟩;have hua2:ua.Ok:=by rw[hua];exact dG _ _ _ _ _ _ _ _
     have hub2:ub.Ok:=by rw[hub];exact dG _ _ _ _ _ _ _ _
     have hbb:iY cM ua ub=true/\iY cM ub ua=false:=by rw[hua,hub];exact lA lV fC (.inr ⟨fC,.inr ⟨kg hTl aC aC,kg hTl aC aC,.inl ⟨iq ..,C5 ..⟩⟩⟩)
     have hca: ∀w' L,Hp (pl w) L w'->lkB L 26=some (b26,(FB 6).map .bool,4)->CellsAt w' ua.sy.ba (ua.sy.bs.map .bool):=λw' L h hl=>by rw[hua];exact CellsAt.range (av (n:=26) hl w' h)
     have h8e:(c51).take 8=(FB 6).map .bool:=ht8;have hcb: ∀w' L,Hp (pl w) L w'->lkB L 51=some (b51,c51,4)->CellsAt w' ub.sy.ba (ub.sy.bs.map .bool):=λw' L h hl=>by rw[hub];show CellsAt w' (spt b51) ((FB 6).map .bool);rw[<-h8e];exact (CellsAt.range (av (n:=51) hl w' h)).take 8
     have e9:(UM (sM T+1#64) (sM T+2#64) 1#8 1#8 (sM T) (FB 0) (spt b26) 8).cs=ua.cs:=(eP _ _ _ _ _ _ _ _ _ (by simp[fL])).trans (congrArg Up.cs hua.symm)
     have e11:(UM (sM T+1#64) (sM T+2#64) 1#8 0#8 (sM T) (FB 6) (spt b51) k51).cs=ub.cs:=(eP _ _ _ _ _ _ _ _ _ aB).trans (congrArg Up.cs hub.symm);rw[e9,e11];have l1:ua.sy.bs.length<=1000:=by rw[hua];show (FB 6).length<=1000;decide
     have l2:ub.sy.bs.length<=1000:=by rw[hub];show (FB 6).length<=1000;simp[fL]
     refine Xp<|ah 7 O O isAgg50 sizeOf50 (Cf.len dX) O O<|ah 9 O O isAgg71 sizeOf71 (Up.len hua2) O O<|ah 11 O O isAgg71 sizeOf71 (Up.len hub2) O O<|Cc O ent17 (λw' hw' hG=>hR.bet cM ua ub dX hua2 hub2 l1 l2 w' hG (hca w' _ hw' O) (hcb w' _ hw' O))<|?_;rw[hbb.1];refine Mv O<|ah 7 O O isAgg50 sizeOf50 (Cf.len dX) O O<|ah 11 O O isAgg71 sizeOf71 (Up.len hub2) O O<|ah 9 O O isAgg71 sizeOf71 (Up.len hua2) O O<|Cc O ent17 (λw' hw' hG=>hR.bet cM ub ua dX hub2 hua2 l2 l1 w' hG (hcb w' _ hw' O) (hca w' _ hw' O))<|?_;rw[hbb.2];refine bR O (λ_=>bH _) O O<|Pk O O O<|Asg O<|aa<|aq<|Rr<|?_;exact au O O (λw' hw'=>⟨rfl,ae hw'⟩)
    ·refine Bnb false O O (λ_=>bN _ pk 2) (hq)<|Asg O<|aa<|aH O<|Xp<|?_
     rcases Bool.eq_false_or_eq_true (pk==3)with hq|hq
     ·refine Bnb true O O (λ_=>bN _ pk 3) (hq)<|Asg O<|aa<|aP O<|Xq<|Mv O<|Bnr (v:=U64 (sM T-1#64)) O O (λ_=>gR _ (sM T) 1#64)<|Fa 307 O underlying71 O sizeOf30<|Fa 307 O underlying30 O sizeOf22<|bU 11 hGF O O O sizeOf22 O (by rw[Up.len (dG _ _ _ _ _ _ _ _)];decide) O<|?_
      rw[vU];refine aa ?_;obtain ⟨ua,hua⟩: ∃u,u=UM (sM T+1#64) (sM T+2#64) 1#8 1#8 (sM T) (FB 6) (spt b26) 8:=⟨_,rfl⟩;obtain ⟨ub,hub⟩: ∃u,u=UM (sM T+1#64) (sM T+2#64) 1#8 1#8 (sM T-1#64) (FB 6) (spt b51) k51:=⟨_,rfl⟩;have hua2:ua.Ok:=by rw[hua];exact dG _ _ _ _ _ _ _ _
      have hub2:ub.Ok:=by rw[hub];exact dG _ _ _ _ _ _ _ _
      have nea_no:(UM (sM T+1#64) (sM T+2#64) 1#8 1#8 (sM T-1#64) (FB 6) (spt b51) k51).nea cM=false:=by rw[Up.nea];exact decide_eq_false (λe=>by have e2:cM.pe (sM T-1#64)=cM.pe (sM T+1#64):=e;rw[JF hTl,yK hTl aC]at e2;have e3:=congrArg BitVec.toNat e2;rw[BitVec.toNat_add]at e3;simp at e3;omega)
      have hbb:iY cM ua ub=true/\iY cM ub ua=false:=by rw[hua,hub];exact lA lV fC (.inr ⟨fC,.inr ⟨kg hTl aC aC,kg hTl aC aC,.inr ⟨iq ..,iq ..,.inl ⟨pL hTl aC,nea_no⟩⟩⟩⟩)
      have hca: ∀w' L,Hp (pl w) L w'->lkB L 26=some (b26,(FB 6).map .bool,4)->CellsAt w' ua.sy.ba (ua.sy.bs.map .bool):=λw' L h hl=>by rw[hua];exact CellsAt.range (av (n:=26) hl w' h)
      have h8e:(c51).take 8=(FB 6).map .bool:=ht8;have hcb: ∀w' L,Hp (pl w) L w'->lkB L 51=some (b51,c51,4)->CellsAt w' ub.sy.ba (ub.sy.bs.map .bool):=λw' L h hl=>by rw[hub];show CellsAt w' (spt b51) ((FB 6).map .bool);rw[<-h8e];exact (CellsAt.range (av (n:=51) hl w' h)).take 8
      have e9:(UM (sM T+1#64) (sM T+2#64) 1#8 1#8 (sM T) (FB 0) (spt b26) 8).cs=ua.cs:=(eP _ _ _ _ _ _ _ _ _ (by simp[fL])).trans (congrArg Up.cs hua.symm)
      have e11:(UM (sM T+1#64) (sM T+2#64) 1#8 1#8 (sM T-1#64) (FB 6) (spt b51) k51).cs=ub.cs:=(eP _ _ _ _ _ _ _ _ _ aB).trans (congrArg Up.cs hub.symm);rw[e9,e11];have l1:ua.sy.bs.length<=1000:=by rw[hua];show (FB 6).length<=1000;decide
      have l2:ub.sy.bs.length<=1000:=by rw[hub];show (FB 6).length<=1000;simp[fL]
      refine Xp<|ah 7 O O isAgg50 sizeOf50 (Cf.len dX) O O<|ah 9 O O isAgg71 sizeOf71 (Up.len hua2) O O<|ah 11 O O isAgg71 sizeOf71 (Up.len hub2) O O<|Cc O ent17 (λw' hw' hG=>hR.bet cM ua ub dX hua2 hub2 l1 l2 w' hG (hca w' _ hw' O) (hcb w' _ hw' O))<|?_;rw[hbb.1];refine Mv O<|ah 7 O O isAgg50 sizeOf50 (Cf.len dX) O O<|ah 11 O O isAgg71 sizeOf71 (Up.len hub2) O O<|ah 9 O O isAgg71 sizeOf71 (Up.len hua2) O O<|Cc O ent17 (λw' hw' hG=>hR.bet cM ub ua dX hub2 hua2 l2 l1 w' hG (hcb w' _ hw' O) (hca w' _ hw' O))<|?_;rw[hbb.2];refine bR O (λ_=>bH _) O O<|Pk O O O<|Asg O<|aa<|aq<|Rr<|?_;exact au O O (λw' hw'=>⟨rfl,ae hw'⟩)
     ·refine Bnb false O O (λ_=>bN _ pk 3) (hq)<|Asg O<|aa<|aH O<|Xp<|?_
      rcases Bool.eq_false_or_eq_true (pk==4)with hq|hq
      ·refine Bnb true O O (λ_=>bN _ pk 4) (hq)<|Asg O<|aa<|aP O<|Xq<|Fa 597 O underlying71 O sizeOf69<|Fa 597 O underlying69 O sizeOf65<|aU 9 O O (Up.at_bs (dG _ _ _ _ _ _ _ _)) isAgg65 O O<|rx 6 O O underlying65 sizeOf4 O (by show 6<8;decide) O O<|bU 26 hGF O O O sizeOf4 O (by show 6<8;decide) O<|?_
       rw[show (FBV 6).set 6 (nrm (.bool true))=FBV 7 from O];refine aa ?_;obtain ⟨ua,hua⟩: ∃u,u=UM (sM T+1#64) (sM T+2#64) 1#8 1#8 (sM T) (FB 7) (spt b26) 8:=⟨_,rfl⟩;obtain ⟨ub,hub⟩: ∃u,u=UM (sM T+1#64) (sM T+2#64) 1#8 1#8 (sM T) (FB 6) (spt b51) k51:=⟨_,rfl⟩;have hua2:ua.Ok:=by rw[hua];exact dG _ _ _ _ _ _ _ _
       have hub2:ub.Ok:=by rw[hub];exact dG _ _ _ _ _ _ _ _
       have hbb:iY cM ua ub=true/\iY cM ub ua=false:=by rw[hua,hub];exact lA lV BF (.inr ⟨fC,.inr ⟨kg hTl aC aC,kg hTl aC aC,.inr ⟨iq ..,iq ..,.inr ⟨pL hTl aC,pL hTl aC,.inl Kk⟩⟩⟩⟩)
       have hca: ∀w' L,Hp (pl w) L w'->lkB L 26=some (b26,(FB 7).map .bool,4)->CellsAt w' ua.sy.ba (ua.sy.bs.map .bool):=λw' L h hl=>by rw[hua];exact CellsAt.range (av (n:=26) hl w' h)
       have h8e:(c51).take 8=(FB 6).map .bool:=ht8;have hcb: ∀w' L,Hp (pl w) L w'->lkB L 51=some (b51,c51,4)->CellsAt w' ub.sy.ba (ub.sy.bs.map .bool):=λw' L h hl=>by rw[hub];show CellsAt w' (spt b51) ((FB 6).map .bool);rw[<-h8e];exact (CellsAt.range (av (n:=51) hl w' h)).take 8
       have e9:(UM (sM T+1#64) (sM T+2#64) 1#8 1#8 (sM T) (FB 0) (spt b26) 8).cs=ua.cs:=(eP _ _ _ _ _ _ _ _ _ (by simp[fL])).trans (congrArg Up.cs hua.symm)
       have e11:(UM (sM T+1#64) (sM T+2#64) 1#8 1#8 (sM T) (FB 6) (spt b51) k51).cs=ub.cs:=(eP _ _ _ _ _ _ _ _ _ aB).trans (congrArg Up.cs hub.symm);rw[e9,e11];have l1:ua.sy.bs.length<=1000:=by rw[hua];show (FB 7).length<=1000;decide
       have l2:ub.sy.bs.length<=1000:=by rw[hub];show (FB 6).length<=1000;simp[fL]
       refine Xp<|ah 7 O O isAgg50 sizeOf50 (Cf.len dX) O O<|ah 9 O O isAgg71 sizeOf71 (Up.len hua2) O O<|ah 11 O O isAgg71 sizeOf71 (Up.len hub2) O O<|Cc O ent17 (λw' hw' hG=>hR.bet cM ua ub dX hua2 hub2 l1 l2 w' hG (hca w' _ hw' O) (hcb w' _ hw' O))<|?_;rw[hbb.1];refine Mv O<|ah 7 O O isAgg50 sizeOf50 (Cf.len dX) O O<|ah 11 O O isAgg71 sizeOf71 (Up.len hub2) O O<|ah 9 O O isAgg71 sizeOf71 (Up.len hua2) O O<|Cc O ent17 (λw' hw' hG=>hR.bet cM ub ua dX hub2 hua2 l2 l1 w' hG (hcb w' _ hw' O) (hca w' _ hw' O))<|?_;rw[hbb.2];refine bR O (λ_=>bH _) O O<|Pk O O O<|Asg O<|aa<|aq<|Rr<|?_;exact au O O (λw' hw'=>⟨rfl,ae hw'⟩)
      ·refine Bnb false O O (λ_=>bN _ pk 4) (hq)<|Asg O<|aa<|aH O<|Xp<|?_
       rcases Bool.eq_false_or_eq_true (pk==5)with hq|hq
       ·refine Bnb true O O (λ_=>bN _ pk 5) (hq)<|Asg O<|aa<|aP O<|Xq<|Mv O<|Bnr (v:=U64 (sM T+2#64)) O O (λ_=>aL _ (sM T) 2#64)<|Fa 0 O underlying71 O sizeOf30<|Fa 0 O underlying30 O sizeOf22<|bU 11 hGF O O O sizeOf22 O (by rw[Up.len (dG _ _ _ _ _ _ _ _)];decide) O<|?_
        rw[E0];refine aa ?_;obtain ⟨ua,hua⟩: ∃u,u=UM (sM T+1#64) (sM T+2#64) 1#8 1#8 (sM T) (FB 6) (spt b26) 8:=⟨_,rfl⟩;obtain ⟨ub,hub⟩: ∃u,u=UM (sM T+2#64) (sM T+2#64) 1#8 1#8 (sM T) (FB 6) (spt b51) k51:=⟨_,rfl⟩;have hua2:ua.Ok:=by rw[hua];exact dG _ _ _ _ _ _ _ _
        have hub2:ub.Ok:=by rw[hub];exact dG _ _ _ _ _ _ _ _
        have hbb:iY cM ua ub=true/\iY cM ub ua=false:=by rw[hua,hub];exact lA lV fC (.inr ⟨fC,.inr ⟨kg hTl aC aC,kg hTl aC aC,.inr ⟨iq ..,iq ..,.inr ⟨pL hTl aC,pL hTl aC,.inr ⟨rfl,.inl (Mq hTl aC aC)⟩⟩⟩⟩⟩)
        have hca: ∀w' L,Hp (pl w) L w'->lkB L 26=some (b26,(FB 6).map .bool,4)->CellsAt w' ua.sy.ba (ua.sy.bs.map .bool):=λw' L h hl=>by rw[hua];exact CellsAt.range (av (n:=26) hl w' h)
        have h8e:(c51).take 8=(FB 6).map .bool:=ht8;have hcb: ∀w' L,Hp (pl w) L w'->lkB L 51=some (b51,c51,4)->CellsAt w' ub.sy.ba (ub.sy.bs.map .bool):=λw' L h hl=>by rw[hub];show CellsAt w' (spt b51) ((FB 6).map .bool);rw[<-h8e];exact (CellsAt.range (av (n:=51) hl w' h)).take 8
        have e9:(UM (sM T+1#64) (sM T+2#64) 1#8 1#8 (sM T) (FB 0) (spt b26) 8).cs=ua.cs:=(eP _ _ _ _ _ _ _ _ _ (by simp[fL])).trans (congrArg Up.cs hua.symm)
        have e11:(UM (sM T+2#64) (sM T+2#64) 1#8 1#8 (sM T) (FB 6) (spt b51) k51).cs=ub.cs:=(eP _ _ _ _ _ _ _ _ _ aB).trans (congrArg Up.cs hub.symm);rw[e9,e11];have l1:ua.sy.bs.length<=1000:=by rw[hua];show (FB 6).length<=1000;decide
        have l2:ub.sy.bs.length<=1000:=by rw[hub];show (FB 6).length<=1000;simp[fL]
        refine Xp<|ah 7 O O isAgg50 sizeOf50 (Cf.len dX) O O<|ah 9 O O isAgg71 sizeOf71 (Up.len hua2) O O<|ah 11 O O isAgg71 sizeOf71 (Up.len hub2) O O<|Cc O ent17 (λw' hw' hG=>hR.bet cM ua ub dX hua2 hub2 l1 l2 w' hG (hca w' _ hw' O) (hcb w' _ hw' O))<|?_;rw[hbb.1];refine Mv O<|ah 7 O O isAgg50 sizeOf50 (Cf.len dX) O O<|ah 11 O O isAgg71 sizeOf71 (Up.len hub2) O O<|ah 9 O O isAgg71 sizeOf71 (Up.len hua2) O O<|Cc O ent17 (λw' hw' hG=>hR.bet cM ub ua dX hub2 hua2 l2 l1 w' hG (hcb w' _ hw' O) (hca w' _ hw' O))<|?_;rw[hbb.2];refine bR O (λ_=>bH _) O O<|Pk O O O<|Asg O<|aa<|aq<|Rr<|?_;exact au O O (λw' hw'=>⟨rfl,ae hw'⟩)
       ·refine Bnb false O O (λ_=>bN _ pk 5) (hq)<|Asg O<|aa<|aH O<|Xq<|Mv O<|Bnr (v:=U64 (sM T+3#64)) O O (λ_=>aL _ (sM T) 3#64)<|Fa 694 O underlying71 O sizeOf22<|bU 11 hGF O O O sizeOf22 O (by rw[Up.len (dG _ _ _ _ _ _ _ _)];decide) O<|?_
        rw[xh];refine aa ?_;obtain ⟨ua,hua⟩: ∃u,u=UM (sM T+1#64) (sM T+2#64) 1#8 1#8 (sM T) (FB 6) (spt b26) 8:=⟨_,rfl⟩;obtain ⟨ub,hub⟩: ∃u,u=UM (sM T+1#64) (sM T+3#64) 1#8 1#8 (sM T) (FB 6) (spt b51) k51:=⟨_,rfl⟩;have hua2:ua.Ok:=by rw[hua];exact dG _ _ _ _ _ _ _ _
        have hub2:ub.Ok:=by rw[hub];exact dG _ _ _ _ _ _ _ _
        have hbb:iY cM ua ub=true/\iY cM ub ua=false:=by rw[hua,hub];exact lA lV fC (.inr ⟨fC,.inr ⟨kg hTl aC aC,kg hTl aC aC,.inr ⟨iq ..,iq ..,.inr ⟨pL hTl aC,pL hTl aC,.inr ⟨rfl,.inr ⟨rfl,Mq hTl aC aC⟩⟩⟩⟩⟩⟩)
        have hca: ∀w' L,Hp (pl w) L w'->lkB L 26=some (b26,(FB 6).map .bool,4)->CellsAt w' ua.sy.ba (ua.sy.bs.map .bool):=λw' L h hl=>by rw[hua];exact CellsAt.range (av (n:=26) hl w' h)
        have h8e:(c51).take 8=(FB 6).map .bool:=ht8;have hcb: ∀w' L,Hp (pl w) L w'->lkB L 51=some (b51,c51,4)->CellsAt w' ub.sy.ba (ub.sy.bs.map .bool):=λw' L h hl=>by rw[hub];show CellsAt w' (spt b51) ((FB 6).map .bool);rw[<-h8e];exact (CellsAt.range (av (n:=51) hl w' h)).take 8
        have e9:(UM (sM T+1#64) (sM T+2#64) 1#8 1#8 (sM T) (FB 0) (spt b26) 8).cs=ua.cs:=(eP _ _ _ _ _ _ _ _ _ (by simp[fL])).trans (congrArg Up.cs hua.symm)
        have e11:(UM (sM T+1#64) (sM T+3#64) 1#8 1#8 (sM T) (FB 6) (spt b51) k51).cs=ub.cs:=(eP _ _ _ _ _ _ _ _ _ aB).trans (congrArg Up.cs hub.symm);rw[e9,e11];have l1:ua.sy.bs.length<=1000:=by rw[hua];show (FB 6).length<=1000;decide
        have l2:ub.sy.bs.length<=1000:=by rw[hub];show (FB 6).length<=1000;simp[fL]
        refine Xp<|ah 7 O O isAgg50 sizeOf50 (Cf.len dX) O O<|ah 9 O O isAgg71 sizeOf71 (Up.len hua2) O O<|ah 11 O O isAgg71 sizeOf71 (Up.len hub2) O O<|Cc O ent17 (λw' hw' hG=>hR.bet cM ua ub dX hua2 hub2 l1 l2 w' hG (hca w' _ hw' O) (hcb w' _ hw' O))<|?_;rw[hbb.1];refine Mv O<|ah 7 O O isAgg50 sizeOf50 (Cf.len dX) O O<|ah 11 O O isAgg71 sizeOf71 (Up.len hub2) O O<|ah 9 O O isAgg71 sizeOf71 (Up.len hua2) O O<|Cc O ent17 (λw' hw' hG=>hR.bet cM ub ua dX hub2 hua2 l2 l1 w' hG (hcb w' _ hw' O) (hca w' _ hw' O))<|?_;rw[hbb.2];refine bR O (λ_=>bH _) O O<|Pk O O O<|Asg O<|aa<|aq<|Rr<|?_;exact au O O (λw' hw'=>⟨rfl,ae hw'⟩)
end
section
open Go.RowKit
open Sh
theorem ent181:aJ prog 181:=λ_ _=>kr
theorem ent148:aJ prog 148:=λ_ _=>kr
theorem ent180:aJ prog 180:=λ_ _=>kr
theorem ent179:aJ prog 179:=λ_ _=>kr
theorem ent147:aJ prog 147:=λ_ _=>kr
theorem i3{P:Program}{G:Cls}{ro:Option Nat}{ops:Array Oper}{N:Nat}{ds:List Deferred}{fs:List Nat}{Z:Fr->Cls->Prop}{F:Fr}{C:Cls}{rest:List Oper}{d:Nat}{ty:TypeId}{pos:String}{af:Array Edge}{gd:Option (Nat×Bool)}{t:TypeId}{x ix:Operand}{s:ByteArray}{y:BitVec 64}(hb:y.toNat<256)(hT:BG s=true)(hx:evF F x=some (.string s))(hi:evF F ix=some (U8 (y.setWidth 8)))(hu:P.underlying t=some .string)
 (hw:bf ops F ⟨some d,.index t x ix,ty,pos,af,gd⟩=some true) (hd:Nat.blt d N=true) (h: ∀q:BitVec 8,IsL y.toNat q.toNat->Lx P G ro ops N ds (EE fs) Z rest ((d,U8 q)::F) C):Lx P G ro ops N ds (EE fs) Z (⟨some d,.index t x ix,ty,pos,af,gd⟩::rest) F C:=by
 obtain ⟨q,hq,hL⟩:=xt hT hb;have e:(y.setWidth 8).toNat=y.toNat:=by rw[BitVec.toNat_setWidth,Nat.mod_eq_of_lt hb]
 exact DK hx hi hu om (by rw[Int.toNat_natCast,e];exact hq) hw hd (h q hL)
theorem sY(x:BitVec 64)(w:World)(hw:Gt w):CLS 181 [U64 x].toArray w (λe w'=>e=.returned (I (ln x.toNat:Int))/\Grow w w'):=by
 have hS: ∀k,IsL x.toNat k->IsL x.toNat (k+0):=λk hk=>hk;have hb:x.toNat<4294967296*4294967296:=x.isLt;refine Hf func181 O hw<|λhGF=>Xp<|Asg O<|aa<|ai<|Xp<|Mv O<|?_;rcases Nat.lt_or_ge x.toNat 4294967296 with h|h
 ·have hb:=h
  refine Bnb false O O (λ_=>bP _ _ _) (by rw[decide_eq_false_iff_not,BitVec.le_def];exact Nat.not_le.2 h)<|aa<|aH O<|aw<|ai<|Xp<|Mv O<|?_
  rcases Nat.lt_or_ge x.toNat 65536 with h|h
  ·have hb:=h
   refine Bnb false O O (λ_=>bP _ _ _) (by rw[decide_eq_false_iff_not,BitVec.le_def];exact Nat.not_le.2 h)<|aa<|aH O<|aw<|ai<|Xp<|Mv O<|?_
   rcases Nat.lt_or_ge x.toNat 256 with h|h
   ·have hb:=h
    refine Bnb false O O (λ_=>bP _ _ _) (by rw[decide_eq_false_iff_not,BitVec.le_def];exact Nat.not_le.2 h)<|aa<|aH O<|aw<|Xp<|Mv O<|Mv O<|bI O O (λ_=>cg underlying22 underlying5 _) O O<|?_
    refine i3 hb kr O O underlying9 O O (λq hL=> ?_);refine bI O O (λ_=>fV underlying5 underlying3 _) O O<|Bnr (v:=I (ln x.toNat:Int)) O O (λ_=>(ay _ _ _ (by have:=q.isLt;unfold inI;omega)).trans (by rw[(hS _ hL).eq];congr 2;omega))<|Asg O<|aa<|aq<|Rr<|?_
    exact au O O (λw' hw'=>⟨rfl,ae hw'⟩)
   ·obtain ⟨y3,hy⟩: ∃y:BitVec 64,x>>>8=y:=⟨_,rfl⟩
    have hn:y3.toNat=x.toNat / 2^8:=by rw[<-hy,BitVec.toNat_ushiftRight,Nat.shiftRight_eq_div_pow]
    have hS: ∀k,IsL y3.toNat k->IsL x.toNat (k+8):=λk hk=>by have:=hS _ (IsL.shift 8 (hn▸hk) h);rw[Nat.add_assoc]at this;exact this
    have hb:y3.toNat<256:=by rw[hn];exact (Nat.div_lt_iff_lt_mul aC).2 hb
    clear hn;refine Bnb true O O (λ_=>bP _ _ _) (by rw[decide_eq_true_eq,BitVec.le_def];exact h)<|aa<|aP O<|Xp<|Mv O<|Bnr (v:=U64 y3) O O (λ_=>(cC _ _ 8#64).trans (by rw[show (8#64).toNat=8 from O,hy]))<|Asg O<|aa<|Xq<|Mv O<|Bnr (v:=I 8) O O (λ_=>(ay _ _ _ (by unfold inI;decide)).trans aE)<|Asg O<|aa<|Xp<|Mv O<|Mv O<|bI O O (λ_=>cg underlying22 underlying5 _) O O<|?_
    refine i3 hb kr O O underlying9 O O (λq hL=> ?_);refine bI O O (λ_=>fV underlying5 underlying3 _) O O<|Bnr (v:=I (ln x.toNat:Int)) O O (λ_=>(ay _ _ _ (by have:=q.isLt;unfold inI;omega)).trans (by rw[(hS _ hL).eq];congr 2;omega))<|Asg O<|aa<|aq<|Rr<|?_
    exact au O O (λw' hw'=>⟨rfl,ae hw'⟩)
  ·obtain ⟨y2,hy⟩: ∃y:BitVec 64,x>>>16=y:=⟨_,rfl⟩
   have hn:y2.toNat=x.toNat / 2^16:=by rw[<-hy,BitVec.toNat_ushiftRight,Nat.shiftRight_eq_div_pow]
   have hS: ∀k,IsL y2.toNat k->IsL x.toNat (k+16):=λk hk=>by have:=hS _ (IsL.shift 16 (hn▸hk) h);rw[Nat.add_assoc]at this;exact this
   have hb:y2.toNat<65536:=by rw[hn];exact (Nat.div_lt_iff_lt_mul aC).2 hb
   clear hn;refine Bnb true O O (λ_=>bP _ _ _) (by rw[decide_eq_true_eq,BitVec.le_def];exact h)<|aa<|aP O<|Xp<|Mv O<|Bnr (v:=U64 y2) O O (λ_=>(cC _ _ 16#64).trans (by rw[show (16#64).toNat=16 from O,hy]))<|Asg O<|aa<|Xq<|Mv O<|Bnr (v:=I 16) O O (λ_=>(ay _ _ _ (by unfold inI;decide)).trans aE)<|Asg O<|aa<|ai<|Xp<|Mv O<|?_
   rcases Nat.lt_or_ge y2.toNat 256 with h|h
   ·have hb:=h
    refine Bnb false O O (λ_=>bP _ _ _) (by rw[decide_eq_false_iff_not,BitVec.le_def];exact Nat.not_le.2 h)<|aa<|aH O<|aw<|Xp<|Mv O<|Mv O<|bI O O (λ_=>cg underlying22 underlying5 _) O O<|?_
    refine i3 hb kr O O underlying9 O O (λq hL=> ?_);refine bI O O (λ_=>fV underlying5 underlying3 _) O O<|Bnr (v:=I (ln x.toNat:Int)) O O (λ_=>(ay _ _ _ (by have:=q.isLt;unfold inI;omega)).trans (by rw[(hS _ hL).eq];congr 2;omega))<|Asg O<|aa<|aq<|Rr<|?_
    exact au O O (λw' hw'=>⟨rfl,ae hw'⟩)
   ·obtain ⟨y3,hy⟩: ∃y:BitVec 64,y2>>>8=y:=⟨_,rfl⟩
    have hn:y3.toNat=y2.toNat / 2^8:=by rw[<-hy,BitVec.toNat_ushiftRight,Nat.shiftRight_eq_div_pow]
    have hS: ∀k,IsL y3.toNat k->IsL x.toNat (k+24):=λk hk=>by have:=hS _ (IsL.shift 8 (hn▸hk) h);rw[Nat.add_assoc]at this;exact this
    have hb:y3.toNat<256:=by rw[hn];exact (Nat.div_lt_iff_lt_mul aC).2 hb
    clear hn;refine Bnb true O O (λ_=>bP _ _ _) (by rw[decide_eq_true_eq,BitVec.le_def];exact h)<|aa<|aP O<|Xp<|Mv O<|Bnr (v:=U64 y3) O O (λ_=>(cC _ _ 8#64).trans (by rw[show (8#64).toNat=8 from O,hy]))<|Asg O<|aa<|Xq<|Mv O<|Bnr (v:=I 24) O O (λ_=>(ay _ _ _ (by unfold inI;decide)).trans aE)<|Asg O<|aa<|Xp<|Mv O<|Mv O<|bI O O (λ_=>cg underlying22 underlying5 _) O O<|?_
    refine i3 hb kr O O underlying9 O O (λq hL=> ?_);refine bI O O (λ_=>fV underlying5 underlying3 _) O O<|Bnr (v:=I (ln x.toNat:Int)) O O (λ_=>(ay _ _ _ (by have:=q.isLt;unfold inI;omega)).trans (by rw[(hS _ hL).eq];congr 2;omega))<|Asg O<|aa<|aq<|Rr<|?_
    exact au O O (λw' hw'=>⟨rfl,ae hw'⟩)
 ·obtain ⟨y1,hy⟩: ∃y:BitVec 64,x>>>32=y:=⟨_,rfl⟩
  have hn:y1.toNat=x.toNat / 2^32:=by rw[<-hy,BitVec.toNat_ushiftRight,Nat.shiftRight_eq_div_pow]
  have hS: ∀k,IsL y1.toNat k->IsL x.toNat (k+32):=λk hk=>by have:=hS _ (IsL.shift 32 (hn▸hk) h);rw[Nat.add_assoc]at this;exact this
  have hb:y1.toNat<4294967296:=by rw[hn];exact (Nat.div_lt_iff_lt_mul aC).2 hb
  clear hn;refine Bnb true O O (λ_=>bP _ _ _) (by rw[decide_eq_true_eq,BitVec.le_def];exact h)<|aa<|aP O<|Xp<|Mv O<|Bnr (v:=U64 y1) O O (λ_=>(cC _ _ 32#64).trans (by rw[show (32#64).toNat=32 from O,hy]))<|Asg O<|aa<|Xq<|Asg O<|aa<|ai<|Xp<|Mv O<|?_
  rcases Nat.lt_or_ge y1.toNat 65536 with h|h
  ·have hb:=h
   refine Bnb false O O (λ_=>bP _ _ _) (by rw[decide_eq_false_iff_not,BitVec.le_def];exact Nat.not_le.2 h)<|aa<|aH O<|aw<|ai<|Xp<|Mv O<|?_
   rcases Nat.lt_or_ge y1.toNat 256 with h|h
   ·have hb:=h
    refine Bnb false O O (λ_=>bP _ _ _) (by rw[decide_eq_false_iff_not,BitVec.le_def];exact Nat.not_le.2 h)<|aa<|aH O<|aw<|Xp<|Mv O<|Mv O<|bI O O (λ_=>cg underlying22 underlying5 _) O O<|?_
    refine i3 hb kr O O underlying9 O O (λq hL=> ?_);refine bI O O (λ_=>fV underlying5 underlying3 _) O O<|Bnr (v:=I (ln x.toNat:Int)) O O (λ_=>(ay _ _ _ (by have:=q.isLt;unfold inI;omega)).trans (by rw[(hS _ hL).eq];congr 2;omega))<|Asg O<|aa<|aq<|Rr<|?_
    exact au O O (λw' hw'=>⟨rfl,ae hw'⟩)
   ·obtain ⟨y3,hy⟩: ∃y:BitVec 64,y1>>>8=y:=⟨_,rfl⟩
    have hn:y3.toNat=y1.toNat / 2^8:=by rw[<-hy,BitVec.toNat_ushiftRight,Nat.shiftRight_eq_div_pow]
    have hS: ∀k,IsL y3.toNat k->IsL x.toNat (k+40):=λk hk=>by have:=hS _ (IsL.shift 8 (hn▸hk) h);rw[Nat.add_assoc]at this;exact this
    have hb:y3.toNat<256:=by rw[hn];exact (Nat.div_lt_iff_lt_mul aC).2 hb
    clear hn;refine Bnb true O O (λ_=>bP _ _ _) (by rw[decide_eq_true_eq,BitVec.le_def];exact h)<|aa<|aP O<|Xp<|Mv O<|Bnr (v:=U64 y3) O O (λ_=>(cC _ _ 8#64).trans (by rw[show (8#64).toNat=8 from O,hy]))<|Asg O<|aa<|Xq<|Mv O<|Bnr (v:=I 40) O O (λ_=>(ay _ _ _ (by unfold inI;decide)).trans aE)<|Asg O<|aa<|Xp<|Mv O<|Mv O<|bI O O (λ_=>cg underlying22 underlying5 _) O O<|?_
    refine i3 hb kr O O underlying9 O O (λq hL=> ?_);refine bI O O (λ_=>fV underlying5 underlying3 _) O O<|Bnr (v:=I (ln x.toNat:Int)) O O (λ_=>(ay _ _ _ (by have:=q.isLt;unfold inI;omega)).trans (by rw[(hS _ hL).eq];congr 2;omega))<|Asg O<|aa<|aq<|Rr<|?_
    exact au O O (λw' hw'=>⟨rfl,ae hw'⟩)
  ·obtain ⟨y2,hy⟩: ∃y:BitVec 64,y1>>>16=y:=⟨_,rfl⟩
   have hn:y2.toNat=y1.toNat / 2^16:=by rw[<-hy,BitVec.toNat_ushiftRight,Nat.shiftRight_eq_div_pow]
   have hS: ∀k,IsL y2.toNat k->IsL x.toNat (k+48):=λk hk=>by have:=hS _ (IsL.shift 16 (hn▸hk) h);rw[Nat.add_assoc]at this;exact this
   have hb:y2.toNat<65536:=by rw[hn];exact (Nat.div_lt_iff_lt_mul aC).2 hb
   clear hn;refine Bnb true O O (λ_=>bP _ _ _) (by rw[decide_eq_true_eq,BitVec.le_def];exact h)<|aa<|aP O<|Xp<|Mv O<|Bnr (v:=U64 y2) O O (λ_=>(cC _ _ 16#64).trans (by rw[show (16#64).toNat=16 from O,hy]))<|Asg O<|aa<|Xq<|Mv O<|Bnr (v:=I 48) O O (λ_=>(ay _ _ _ (by unfold inI;decide)).trans aE)<|Asg O<|aa<|ai<|Xp<|Mv O<|?_
   rcases Nat.lt_or_ge y2.toNat 256 with h|h
   ·have hb:=h
    refine Bnb false O O (λ_=>bP _ _ _) (by rw[decide_eq_false_iff_not,BitVec.le_def];exact Nat.not_le.2 h)<|aa<|aH O<|aw<|Xp<|Mv O<|Mv O<|bI O O (λ_=>cg underlying22 underlying5 _) O O<|?_
    refine i3 hb kr O O underlying9 O O (λq hL=> ?_);refine bI O O (λ_=>fV underlying5 underlying3 _) O O<|Bnr (v:=I (ln x.toNat:Int)) O O (λ_=>(ay _ _ _ (by have:=q.isLt;unfold inI;omega)).trans (by rw[(hS _ hL).eq];congr 2;omega))<|Asg O<|aa<|aq<|Rr<|?_
    exact au O O (λw' hw'=>⟨rfl,ae hw'⟩)
   ·obtain ⟨y3,hy⟩: ∃y:BitVec 64,y2>>>8=y:=⟨_,rfl⟩
    have hn:y3.toNat=y2.toNat / 2^8:=by rw[<-hy,BitVec.toNat_ushiftRight,Nat.shiftRight_eq_div_pow]
    have hS: ∀k,IsL y3.toNat k->IsL x.toNat (k+56):=λk hk=>by have:=hS _ (IsL.shift 8 (hn▸hk) h);rw[Nat.add_assoc]at this;exact this
    have hb:y3.toNat<256:=by rw[hn];exact (Nat.div_lt_iff_lt_mul aC).2 hb
    clear hn;refine Bnb true O O (λ_=>bP _ _ _) (by rw[decide_eq_true_eq,BitVec.le_def];exact h)<|aa<|aP O<|Xp<|Mv O<|Bnr (v:=U64 y3) O O (λ_=>(cC _ _ 8#64).trans (by rw[show (8#64).toNat=8 from O,hy]))<|Asg O<|aa<|Xq<|Mv O<|Bnr (v:=I 56) O O (λ_=>(ay _ _ _ (by unfold inI;decide)).trans aE)<|Asg O<|aa<|Xp<|Mv O<|Mv O<|bI O O (λ_=>cg underlying22 underlying5 _) O O<|?_
    refine i3 hb kr O O underlying9 O O (λq hL=> ?_);refine bI O O (λ_=>fV underlying5 underlying3 _) O O<|Bnr (v:=I (ln x.toNat:Int)) O O (λ_=>(ay _ _ _ (by have:=q.isLt;unfold inI;omega)).trans (by rw[(hS _ hL).eq];congr 2;omega))<|Asg O<|aa<|aq<|Rr<|?_
    exact au O O (λw' hw'=>⟨rfl,ae hw'⟩)
theorem IX(n:Nat):IsL n (ln n):=by
 unfold ln;by_cases h0:n=0
 ·rw[if_pos h0];exact ⟨om,λe he=>om⟩
 ·rw[if_neg h0]
  exact ⟨(Nat.log2_lt h0).1 (Nat.lt_succ_self _),λe he=>(Nat.le_log2 h0).1 om⟩
theorem HW(n:Nat):dep n=min (ln (n-1)) 62:=by
 have h:=IX (n-1);refine (uo om ?_ (λe he=>by have:=h.2 e om;have:=Nat.two_pow_pos e;omega)).symm
 rcases Nat.le_total (ln (n-1)) 62 with h6|h6
 ·rw[Nat.min_eq_left h6];exact .inr (by have:=h.1;omega)
 ·rw[Nat.min_eq_right h6];exact .inl O
theorem rG(n:Int)(hn:n<9223372036854775808)(w:World)(hw:Gt w):CLS 148 [I n].toArray w (λe w'=>e=.returned (I (dep n.toNat:Nat))/\Grow w w'):=by
 refine Hf func148 O hw<|λhGF=>Xp<|Asg O<|aa<|Xp<|Mv O<|ul (z:=(if n<1 then (1:Int)else n)) O O O O O<|Bnr (v:=I (((n.toNat-1:Nat):Int))) O O (λ_=>(bu _ _ _ (by unfold inI;split<;>omega)).trans (by congr 2;split<;>omega))<|bI O O (λ_=>dk underlying3 underlying22 _) O O<|Cc O ent181 (λw' _ hG=>sY _ w' hG)<|?_
 rw[BitVec.toNat_ofInt,show ((((n.toNat-1:Nat):Int) % ((2^64:Nat):Int)).toNat)=n.toNat-1 from by omega]
 refine j7 (z:=(dep n.toNat:Int)) O O (by rw[HW];split<;>omega) O O<|Asg O<|aa<|aq<|Rr<|?_
 exact au O O (λw' hw'=>⟨rfl,ae hw'⟩)
end
section
open Go.RowKit
open Sh
theorem ent114:aJ prog 114:=λ_ _=>kr
abbrev LC(a:Option Addr)(len cap:Nat)(r:Rt):List Value:=.slice a len cap::r.map U8
abbrev LV(a:Option Addr)(len cap:Nat)(r:Rt):Value:=.agg (LC a len cap r).toArray
theorem fo{a:Option Addr}{len cap:Nat}{r:Rt}(hr:r.length=32):(LC a len cap r).length=33:=by rw[LC,List.length_cons,List.length_map,hr]
theorem pN(a:Option Addr)(len cap:Nat)(r:Rt):(LC a len cap r).all (·.oneCell')=true:=by
 rw[LC,List.all_cons,bj];rfl
theorem zvL(w:World):(zeroValue 239).run prog w=.ok (LV none 0 0 Z0) w:=(zeroValue239 w).trans aE
theorem Jw(a:Option Addr)(len cap:Nat)(w:World):(Instr.build 239 #[(0,.slice a len cap)]).run prog w=.ok (LV a len cap Z0) w:=
 cP (c:=LC none 0 0 Z0) zvL underlying239 (mi O O sizeOf86 sizeOf27) [(0,.slice a len cap)] (by
  rw[lH (vs:=[.slice a len cap]) (off:=0) (size:=1) O O O (by show 1<=33;decide)]
  rfl) w
theorem Fs(a:Option Addr)(len cap:Nat)(r:Rt)(hr:r.length=32)(w:World):(Instr.build 239 #[(0,.slice a len cap),(1,.agg (r.map U8).toArray)]).run prog w=.ok (LV a len cap r) w:=
 cP (c:=LC none 0 0 Z0) zvL underlying239 (mi O O sizeOf86 sizeOf27) [(0,.slice a len cap),(1,.agg (r.map U8).toArray)] (by
  rw[lH (vs:=[.slice a len cap]) (off:=0) (size:=1) O O O (by show 1<=33;decide),lH (vs:=r.map U8) (off:=1) (size:=32) O O (by rw[List.length_map,hr]) (by rw[List.length_map,hr];show 33<=33;decide),List.length_map,hr]
  simp[Instr.fill,Z0]) w
theorem lj{w:World}{b:Nat}{x:Value}{cs:List Value}(h:w.rangeAt b 0 (x::cs)):w.rangeAt b 1 cs:=λj v hv=>by
 have:=h (j+1) v (by simpa using hv)
 rw[show 0+(j+1)=1+j from by omega]at this
 exact this
theorem sE{n:Nat}(h:n<=1000000):(BitVec.ofInt 64 (n:Int)).toNat=n:=by rw[BitVec.toNat_ofInt];omega
theorem tS{l:List Rt}{r:Rt}(hl:AllR l)(hr:r.length=32)(i:Nat):(l.getD i r).length=32:=by
 rw[List.getD_eq_getElem?_getD]
 cases h:l[i]? with
 |none=>exact hr
 |some x=>exact hl x (List.mem_of_getElem? h)
theorem zq{r:Rt}{l:List Rt}(k:Nat):AllR (UpK P2 r l k):=DQ P2 (Q:=λx=>x.length=32) db r l k
theorem sH{l:List Rt}(hl:AllR l): ∀h,AllR (lev P2 Z0 h l)
 |0=>hl
 |_+1=>zq _
theorem pi(l:List Rt)(hl:AllR l)(hn:l.length<=65536)(r:Rt)(hr:r.length=32)(a:Option Addr)(cap:Nat)(x:BitVec 64)(w:World)(hw:Gt w)(ha:RtsAt w a l):CLS 180 [LV a l.length cap r,U64 x].toArray w (λe w'=>e=.returned (.agg ((l.getD x.toNat r).map U8).toArray)/\Grow w w'):=by
 refine Hf func180 O hw<|λhGF=>Xp<|Bx 2 hGF O<|λb2=>Al 4 hGF zv27<|λb4=>aa<|ai<|Xp<|Mv O<|Fa 0 O underlying239 O sizeOf86<|aU 2 O O O isAgg86 O O<|bB O (λ_=>aO underlying86 _ _ _ _) O O<|bI O O (λ_=>dk underlying3 underlying22 _) O O<|?_;rcases Nat.lt_or_ge x.toNat l.length with h|h
 ·obtain ⟨y,hxy⟩: ∃y,l[x.toNat]? =some y:=⟨_,List.getElem?_eq_getElem h⟩
  have hy:y.length=32:=hl y (List.mem_of_getElem? hxy);obtain ⟨ad,rfl,hc⟩:=ha x.toNat y hxy;have hR:l.getD x.toNat r=y:=by rw[List.getD_eq_getElem?_getD,hxy];rfl
  refine Bnb true O O (λ_=>e5 _ _ _) (by rw[decide_eq_true_eq,BitVec.lt_def,sE om];exact h)<|aa<|aP O<|Xp<|Fa 0 O underlying239 O sizeOf86<|aU 2 O O O isAgg86 O O<|Mv O<|Bu 32 O O underlying86 sizeOf27 h O O<|bA (cs:=y.map U8) O isAgg27 sizeOf27 (by rw[List.length_map];exact hy) (λw' h j v hv=>((ae h).cell (block_lt_of_cell (hc j v hv))).trans (hc j v hv)) O O<|am 4 hGF O O O sizeOf27 (by rw[List.length_map];exact hy) (by rw[List.length_map];exact cH) (bj _) O<|aa<|aq<|Rr<|?_
  exact aF 4 O O O isAgg27 sizeOf27 (by rw[List.length_map];exact hy) (λw' hw'=>⟨by rw[hR],ae hw'⟩)
 ·have hR:l.getD x.toNat r=r:=nT r h
  refine Bnb false O O (λ_=>e5 _ _ _) (by rw[decide_eq_false_iff_not,BitVec.lt_def,sE om];omega)<|aa<|aH O<|aw<|Xp<|Fa 1 O underlying239 O sizeOf27<|az (cs:=r.map U8) O isAgg27 sizeOf27 (by rw[List.length_map];exact hr) (λw' hw'=>lj (av (n:=2) O w' hw')) O O<|am 4 hGF O O O sizeOf27 (by rw[List.length_map];exact hr) (by rw[List.length_map];exact cH) (bj _) O<|aa<|aq<|Rr<|?_
  exact aF 4 O O O isAgg27 sizeOf27 (by rw[List.length_map];exact hr) (λw' hw'=>⟨by rw[hR],ae hw'⟩)
theorem bv_n{n:Nat}(h:n<=1000000):BitVec.ofInt 64 (n:Int)=BitVec.ofNat 64 n:=by apply BitVec.eq_of_toNat_eq;rw[sE h,BitVec.toNat_ofNat];omega
theorem nt{n:Nat}(h:n<=1000000):(BitVec.ofNat 64 n).toNat=n:=by rw[BitVec.toNat_ofNat];omega
theorem vC{n:Nat}(h:n<=1000000):(BitVec.ofNat 64 n / 2#64+BitVec.ofNat 64 n % 2#64).toNat=(n+1) / 2:=by
 rw[BitVec.toNat_add,BitVec.toNat_udiv,BitVec.toNat_umod,nt h];show (n / 2+n % 2) % 18446744073709551616=_;omega
theorem yO{n:Nat}:BitVec.ofNat 64 n+1#64=BitVec.ofNat 64 (n+1):=by rw[BitVec.ofNat_add]
theorem AO{n:Nat}:BitVec.ofNat 64 n+2#64=BitVec.ofNat 64 (n+2):=by rw[BitVec.ofNat_add]
structure UpS(r:Rt)(l:List Rt) where
 (k b cap:Nat) (c:List Value)
 hk:k<=((l.length+1) / 2)
 hc:c.length=cap*32
 hn:k<=cap
 ht:c.take (32*k)=(UpK P2 r l k).flatten.map U8
theorem z8{r:Rt}{l:List Rt}(k:Nat):((UpK P2 r l k).flatten.map U8).length=k*32:=by rw[List.length_map,cV _ (zq k),mq,Nat.mul_comm]
theorem wp{r:Rt}{l:List Rt}{k:Nat}:(UpK P2 r l (k+1)).flatten.map U8=(UpK P2 r l k).flatten.map U8++(P2 (l.getD (2*k) r) (l.getD (2*k+1) r)).map U8:=by
 rw[y9,List.flatten_append,List.map_append];simp
theorem HB{s:Nat}{x:L8}(hx:x.length=s):RW s (λ_=>x) 1=x:=by
 rw[od (λ_=>x) 0 hx,show RW s (λ_=>x) 0=[]from by simp[RW],List.nil_append]
def UpR(w w':World)(v:Value)(l:List Rt)(r:Rt):Prop:= ∃b c cap,v=LV (spt b) l.length cap r/\w.heap.size<=b/\OwnB w' b c 27/\c.take (32*l.length)=l.flatten.map U8
theorem B1(l:List Rt)(hl:AllR l)(hn:l.length<=65536)(r:Rt)(hr:r.length=32)(a:Option Addr)(cap:Nat)(w:World)(hw:Gt w)(ha:RtsAt w a l):CLS 179 [LV a l.length cap r].toArray w (λe w'=> ∃v,e=.returned v/\Grow w w'/\UpR w w' v (upL P2 r l) (P2 r r)):=by
 refine Hf func179 O hw<|λhGF=>Xp<|Bx 1 hGF O<|λb1=>Al 2 hGF zvL<|λb2=>aa<|Xp<|Fa 0 O underlying239 O sizeOf86<|aU 1 O O O isAgg86 O O<|bB O (λ_=>aO underlying86 _ _ _ _) O O<|bI (v:=U64 (BitVec.ofNat 64 l.length)) O O (λ_=>(dk underlying3 underlying22 _).trans (by rw[bv_n om])) O O<|Asg O<|aa<|?_
 refine HK (ι:=Nat×Nat) (λz=>[(1,pnt b1),(2,pnt b2),(3,U64 (BitVec.ofNat 64 l.length)),(4,pnt z.2)]) (λz=>[(1,b1,LC a l.length cap r,239),(2,b2,LC none 0 0 Z0,239),(4,z.2,LC (spt z.1) 0 ((l.length+1) / 2) (P2 r r),239),(15,z.1,(List.replicate (32*((l.length+1) / 2)) 0#8).map U8,27)]) hGF ?_ ?_
 ·refine A9 (EE [2999995,2999999]) dd kr kr<|bM (m:=4) [0,1,2,3,4,6,7,8,9,10] kr<|Mv O<|Bnr O O (λ_=>gY _ _ _ aC)<|Mv O<|Bnr O O (λ_=>fO _ _ _ aC)<|Bnr O O (λ_=>aL _ _ _)<|Fa 1 O underlying239 O sizeOf27<|az (cs:=r.map U8) O isAgg27 sizeOf27 (by rw[List.length_map];exact hr) (λw' hw'=>lj (av (n:=1) O w' hw')) O O<|Fa 1 O underlying239 O sizeOf27<|az (cs:=r.map U8) O isAgg27 sizeOf27 (by rw[List.length_map];exact hr) (λw' hw'=>lj (av (n:=1) O w' hw')) O O<|Cc O ent118 (λw' _ hG=>kJ r r hr hr w' hG)<|?_
  rw[show SHA (r++r)=P2 r r from O];refine aa<|jp (m:=3) [5,12] kr kr aC<|?_;intro i hi;simp only[List.mem_cons,List.not_mem_nil,or_false]at hi;rcases hi with rfl|rfl
  ·exact tq (l:=0) (m:=((l.length+1) / 2)) (c:=(List.replicate (32*((l.length+1) / 2)) 0#8).map U8) 15 hGF O O O (vC om) (Nat.zero_le _) underlying86 tiR ⟨om,om,om⟩ (oY _) O O<|λb15=>aa<|bM (m:=2) [11] kr<|cj (ps:=[(0,.tmp 15),(1,.tmp 20)]) (vs:=[.slice (spt b15) 0 ((l.length+1) / 2),.agg ((P2 r r).map U8).toArray]) O (λw=>Fs _ _ _ _ (db _ _) w) O O<|aa<|bM (m:=1) [12] kr<|mQ 4 hGF zvL O O O<|λb4=>aa<|bM (m:=0) [13] kr<|am 4 hGF O O O sizeOf239 (fo (db _ _)) (fo cH) (pN _ _ _ _) O<|aa<|f9 kr<|aV<|⟨rfl,(b15,b4),_,rfl,trv,trv⟩
  ·exact mQ 4 hGF zvL O O O<|λb4=>aa<|bM (m:=2) [5] kr<|tq (l:=0) (m:=((l.length+1) / 2)) (c:=(List.replicate (32*((l.length+1) / 2)) 0#8).map U8) 15 hGF O O O (vC om) (Nat.zero_le _) underlying86 tiR ⟨om,om,om⟩ (oY _) O O<|λb15=>aa<|bM (m:=1) [11] kr<|cj (ps:=[(0,.tmp 15),(1,.tmp 20)]) (vs:=[.slice (spt b15) 0 ((l.length+1) / 2),.agg ((P2 r r).map U8).toArray]) O (λw=>Fs _ _ _ _ (db _ _) w) O O<|aa<|bM (m:=0) [13] kr<|am 4 hGF O O O sizeOf239 (fo (db _ _)) (fo cH) (pN _ _ _ _) O<|aa<|f9 kr<|aV<|⟨rfl,(b15,b4),_,rfl,trv,trv⟩
 ·rintro ⟨b15,b4⟩
  dsimp only;refine ai<|Xp<|Asg O<|aa<|ar<|bV (ι:=UpS r l) (λx=>[(1,pnt b1),(2,pnt b2),(3,U64 (BitVec.ofNat 64 l.length)),(4,pnt b4),(5,U64 (BitVec.ofNat 64 (2*x.k)))]) (λx=>[(1,b1,LC a l.length cap r,239),(2,b2,LC none 0 0 Z0,239),(4,b4,LC (spt x.b) x.k x.cap (P2 r r),239),(15,x.b,x.c,27)]) (λx=>((l.length+1) / 2)-x.k) ⟨0,b15,((l.length+1) / 2),(List.replicate (32*((l.length+1) / 2)) 0#8).map U8,Nat.zero_le _,by rw[List.length_map,List.length_replicate,Nat.mul_comm],Nat.zero_le _,aE⟩ hGF trv trv<|?_
  rintro ⟨k,bb,cp,c,hk,hc,hkc,ht⟩;dsimp only;refine ai<|Xp<|Mv O<|Mv O<|?_;rcases Nat.lt_or_ge (2*k) l.length with hlt|hge
  ·refine Bnb true O O (λ_=>e5 _ _ _) (by rw[decide_eq_true_eq,BitVec.lt_def,nt om,nt om];exact hlt)<|aa<|aP O<|aw<|ai<|ar<|Xe [2999998]<|Fa 0 O underlying239 O sizeOf86<|aU 4 O O O isAgg86 O O<|ah 1 O O isAgg239 sizeOf239 (fo hr) O O<|Mv O<|Cc O ent180 (λw' hw' hG=>pi l hl hn r hr a cap _ w' hG (ha.grow (ae hw')))<|?_
   rw[nt om];refine ah 1 O O isAgg239 sizeOf239 (fo hr) O O<|Mv O<|Bnr (v:=U64 (BitVec.ofNat 64 (2*k+1))) O O (λ_=>(aL _ _ _).trans (by rw[yO]))<|Cc O ent180 (λw' hw' hG=>pi l hl hn r hr a cap _ w' hG (ha.grow (ae hw')))<|?_
   rw[nt om];refine Cc O ent118 (λw' _ hG=>kJ _ _ (tS hl hr _) (tS hl hr _) w' hG) ?_;rw[show SHA (l.getD (2*k) r++l.getD (2*k+1) r)=(P2 (l.getD (2*k) r) (l.getD (2*k+1) r))from O];refine kv (uf:=U8) (s:=32) 37 (λ_=>(P2 (l.getD (2*k) r) (l.getD (2*k+1) r))) (List.replicate 32 0#8) hGF O O O (λi hi=>db _ _) aC aC underlying86 sizeOf27 O zv27 O O ?_;intro b37;rw[HB (db _ _)];refine ll (s:=32) (nx:=k) (ny:=1) (xs:=(UpK P2 r l k).flatten.map U8) (ys:=(P2 (l.getD (2*k) r) (l.getD (2*k+1) r)).map U8) 15 hGF O O underlying86 underlying86 tiR O (.inr ⟨bb,c,rfl,rfl,hc,hkc,z8 k,by rw[z8,Nat.mul_comm];exact ht⟩) (by rw[List.length_map,db]) (λw' h=>av (n:=37) O w' h) (bj _) aC om om O O (λb9 c9 cap9 e9 l9 t9=> ?_)
   refine Fa 0 O underlying239 O sizeOf86<|bU 4 hGF O O O sizeOf86 O aB O<|aa<|Xq<|Mv O<|Bnr (v:=U64 (BitVec.ofNat 64 (2*(k+1)))) O O (λ_=>(aL _ _ _).trans (by rw[AO];rfl))<|Asg O<|aa<|?_
   repeat (refine bg ?_)
   exact aV<|⟨rfl,⟨k+1,b9,cap9,c9,om,e9,l9,by rw[wp,<-t9,<-wp,z8,Nat.mul_comm]⟩,_,by show ((l.length+1) / 2)-(k+1)<((l.length+1) / 2)-k;omega,rfl,trv,trv⟩
  ·obtain rfl:k=((l.length+1) / 2):=om
   refine Bnb false O O (λ_=>e5 _ _ _) (by rw[decide_eq_false_iff_not,BitVec.lt_def,nt om,nt om];omega)<|aa<|aH O<|bp<|Xp<|ah 4 O O isAgg239 sizeOf239 (fo (db _ _)) O O<|am 2 hGF O O O sizeOf239 (fo (db _ _)) (fo cH) (pN _ _ _ _) O<|aa<|aq<|Rr<|?_
   exact aF 2 O O O isAgg239 sizeOf239 (fo (db _ _)) (λw' hw'=>⟨_,rfl,ae hw',bb,c,cp,by rw[upL,mq],(hw'.own 15 _ _ _ O).2.elim id False.elim,(hw'.own 15 _ _ _ O).1,by rw[upL,mq];exact ht⟩)
end
section
open Go.RowKit
open Sh
structure TopS(w:World)(l:List Rt)(D b4 b5:Nat) where
 (h:Nat) (a:Option Addr) (cap:Nat) (own:Hl)
 hD:h<=D
 hR: ∀w',Hp (pl w) ((4,b4,Z0.map U8,27)::(5,b5,LC a (lev P2 Z0 h l).length cap (zrT P2 Z0 h),239)::own) w'->RtsAt w' a (lev P2 Z0 h l)
theorem D8{n b:Nat}{c:List Value}{t:TypeId}{w w':World}(h1:w.heap.size<=b)(h2:OwnB w' b c t): ∀n' b' c' t',lkB [(n,b,c,t)] n'=some (b',c',t')->w.heap.size<=b'/\OwnB w' b' c' t':=λn' b' c' t' hl=>by
 rcases bv hl with ⟨_,e⟩|⟨_,hl⟩
 ·cases e;exact ⟨h1,h2⟩
 ·cases hl
theorem Jy(h:Nat)(l:List Rt):lev P2 Z0 (h+1) l=upL P2 (zrT P2 Z0 h) (lev P2 Z0 h l):=rfl
theorem Iv(h:Nat):zrT P2 Z0 (h+1)=P2 (zrT P2 Z0 h) (zrT P2 Z0 h):=rfl
theorem xV(D:Nat)(hD64:D<=64)(l:List Rt)(hl:AllR l)(hn:l.length<=65536)(a:Option Addr)(cap:Nat)(w:World)(hw:Gt w)(ha:RtsAt w a l):CLS 147 [.slice a l.length cap,I (D:Int)].toArray w (λe w'=>e=.returned (.agg ((tre P2 Z0 D l).map U8).toArray)/\Grow w w'):=by
 refine Hf func147 O hw<|λhGF=>ao (E:=EE [179])<|Al 4 hGF zv27<|λb4=>aa<|ao (E:=EE [179])<|Mv O<|cj (ps:=[(0,.tmp 6)]) (vs:=[.slice a l.length cap]) O (λw=>Jw _ _ _ w) O O<|Al 5 hGF zvL<|λb5=>am 5 hGF O O O sizeOf239 (fo (cH)) (fo (cH)) (pN _ _ _ _) O<|aa<|ai<|ao (E:=EE [179])<|Mv O<|Mv O<|aa<|ar<|bV (ι:=TopS w l D b4 b5) (λx=>[(4,pnt b4),(5,pnt b5),(8,I (D:Int)),(9,I (x.h:Int))]) (λx=>(4,b4,Z0.map U8,27)::(5,b5,LC x.a (lev P2 Z0 x.h l).length x.cap (zrT P2 Z0 x.h),239)::x.own) (λx=>D-x.h) ⟨0,a,cap,[],Nat.zero_le _,λw' hw'=>ha.grow (ae hw')⟩ hGF trv trv<|?_;rintro ⟨h,a,cap,own,hD,hR⟩;dsimp only;refine ao (E:=EE [179]) ?_;rcases Nat.lt_or_ge h D with hlt|hge
 ·refine Bnb true O O (λ_=>aI _ _ _) (by simp;omega)<|aa<|ai<|aP O<|aw<|ai<|ar<|cn (E:=EE [179])<|ah 5 O O isAgg239 sizeOf239 (fo (fk _)) O O<|?_
  refine cx O O ent179 O O (λw' hw'=>(B1 _ (sH hl h) (Nat.le_trans (sD P2 Z0 h l) hn) _ (fk h) _ _ w' (hGF.g _ _ _ hw') (hR w' hw')).mono λe1 w2 h9=> ?_);obtain ⟨_,rfl,hg,b9,c9,cap9,rfl,hb9,ho9,ht9⟩:=h9;rw[<-Jy]at ht9⊢;rw[<-Iv];refine ⟨_,_,rfl,aR hGF,hw'.news aM hg [(12,b9,c9,27)] (D8 hb9 ho9) de, ?_⟩;clear hw' hg hb9 ho9;refine am 5 hGF O O O sizeOf239 (fo (fk _)) (fo (fk _)) (pN _ _ _ _) O<|aa<|cn (E:=EE [179])<|Bnr (v:=I (((h+1:Nat):Int))) O O (λ_=>(ay _ _ _ aG).trans aE)<|Mv O<|aa<|?_
  repeat (refine bg ?_)
  exact aV<|⟨rfl,⟨h+1,some ⟨b9,0,none⟩,cap9,[(12,b9,c9,27)],hlt,λw' hw'=>nP (sH hl (h+1)) (av (n:=12) O w' hw') ht9⟩,_,by show D-(h+1)<D-h;omega,rfl,trv,trv⟩
 ·obtain rfl:h=D:=om
  refine Bnb false O O (λ_=>aI _ _ _) (by rw[decide_eq_false_iff_not];omega)<|aa<|ai<|aH O<|bp<|ao (E:=EE [179])<|ah 5 O O isAgg239 sizeOf239 (fo (fk _)) O O<|Cc O ent180 (λw' hw' hG=>pi _ (sH hl h) (Nat.le_trans (sD P2 Z0 h l) hn) _ (fk h) _ _ 0#64 w' hG (hR w' hw'))<|?_
  rw[show (0#64).toNat=0 from O,Db];refine am 4 hGF O O O sizeOf27 (by rw[List.length_map];exact cv hl _) (by rw[List.length_map];exact cH) (bj _) O<|aa<|aq<|Rr<|?_
  exact aF 4 O O O isAgg27 sizeOf27 (by rw[List.length_map];exact cv hl _) (λw' hw'=>⟨rfl,ae hw'⟩)
theorem xd(n:Int)(h63:n<9223372036854775808)(l:List Rt)(hl:AllR l)(len:Nat)(hlen:l.length=len)(hln:len<=65536)(a:Option Addr)(cap:Nat)(hn: ¬n.toNat<len)(w:World)(hw:Gt w)(hr:RtsAt w a l):CLS 114 [.slice a len cap,I n].toArray w (λe w'=>e=.returned (.tuple #[.agg ((tre P2 Z0 (dep n.toNat) l).map U8).toArray,I 0])/\Grow w w'):=by
 refine Hf func114 O hw<|λhGF=>Xp<|Al 4 hGF zv27<|λb4=>Asg O<|aa<|Xp<|Mv O<|ul (z:=(if n<0 then (0:Int)else n)) O O O O O<|Asg O<|aa<|ai<|Xp<|Mv O<|bB O (λ_=>aO underlying86 _ _ _ _) O O<|Mv O<|Bnb false O O (λ_=>dw _ _ _) (by rw[decide_eq_false_iff_not];split<;>omega)<|aa<|aH O<|aw<|Xp<|Mv O<|Mv O<|Cc O ent148 (λw' _ hG=>rG (if n<0 then (0:Int)else n) (by split<;>omega) w' hG)<|?_
 rw[show (if n<0 then (0:Int)else n).toNat=n.toNat from by split<;>omega]
 refine Cc O ent147 (λw' hw' hG=>by have:=xV (dep n.toNat) (by have:=(mT n.toNat).1;omega) l hl om a cap w' hG (hr.grow (ae hw'));rw[hlen]at this;exact this)<|am 4 hGF O O O sizeOf27 (by rw[List.length_map];exact cv hl _) (by rw[List.length_map];exact cH) (bj _) O<|Asg O<|aa<|aq<|Rr<|?_
 exact ci 4 O O O O isAgg27 sizeOf27 (by rw[List.length_map];exact cv hl _) (λw' hw'=>⟨rfl,ae hw'⟩)
end
section
open Go.RowKit
open Sh
theorem ent117:aJ prog 117:=λ_ _=>kr
theorem ent149:aJ prog 149:=λ_ _=>kr
theorem ent81:aJ prog 81:=λ_ _=>kr
structure StH(w:World)(bc bi n:Nat)(x:BitVec 64):Prop where
 c:OwnB w bc [I (n:Int)] 3
 i:OwnB w bi [U64 x] 22
def StV(x:BitVec 64)(n:Nat):List (List Value):=(List.range n).map λ(i:Nat)=>[I (i:Int),.bool (x.toNat.testBit i)]
theorem sG(x:BitVec 64)(n:Nat):(StV x n).length=n:=by rw[StV,List.length_map,List.length_range]
theorem wR(x:BitVec 64)(n i:Nat)(h:i<n):(StV x n)[i]? =some [I (i:Int),.bool (x.toNat.testBit i)]:=by rw[StV,List.getElem?_map,List.getElem?_range h];rfl
theorem F2{x:BitVec 64}{n i:Nat}{v:List Value}(h:(StV x n)[i]? =some v):i<n/\[I (i:Int),.bool (x.toNat.testBit i)]=v:=by
 have hi:i<n:=by
  rcases Nat.lt_or_ge i n with hk|hk
  ·exact hk
  ·rw[List.getElem?_eq_none (by rw[sG];exact hk)]at h;cases h
 exact ⟨hi,Option.some.inj ((wR x n i hi).symm.trans h)⟩
theorem row2{n m b1 b2:Nat}{c1 c2:List Value}{t1 t2:TypeId}{w w':World}(h1:w.heap.size<=b1)(h2:w.heap.size<=b2)(o1:OwnB w' b1 c1 t1)(o2:OwnB w' b2 c2 t2): ∀n' b' c' t',lkB [(n,b1,c1,t1),(m,b2,c2,t2)] n'=some (b',c',t')->w.heap.size<=b'/\OwnB w' b' c' t':=λn' b' c' t' hl=>by
 rcases bv hl with ⟨_,e⟩|⟨_,hl⟩
 ·cases e;exact ⟨h1,o1⟩
 ·rcases bv hl with ⟨_,e⟩|⟨_,hl⟩
  ·cases e;exact ⟨h2,o2⟩
  ·cases hl
theorem tQ(x:BitVec 64)(n:Nat)(w:World)(hw:Gt w):CLS 117 [U64 x,I (n:Int)].toArray w (λe w'=> ∃bc bi,e=.returned (.func (.func 149) #[] #[pnt bc,pnt bi])/\Grow w w'/\w.heap.size<=bc/\w.heap.size<=bi/\bc≠bi/\StH w' bc bi (n) x):=by
 refine Hf func117 O hw<|λhGF=>Xp<|gI 2 hGF O O O<|λb2=>gI 3 hGF O O O<|λb3=>Asg O<|aa<|Xp<|dM O O O O<|Asg O<|aa<|aq<|Rr<|?_;exact au O O (λw' hw'=>⟨b3,b2,rfl,ae hw',(hw'.own 3 _ _ _ O).2.elim id False.elim,(hw'.own 2 _ _ _ O).2.elim id False.elim,λe=>by subst e;exact absurd (hw'.inj 3 2 _ _ _ _ _ O O) aC,(hw'.own 3 _ _ _ O).1,(hw'.own 2 _ _ _ O).1⟩)
theorem xm(bc bi n:Nat)(hn:n<=65536)(x:BitVec 64):jB prog Gt 149 [pnt bc,pnt bi] (StV x n) (λw=>StH w bc bi n x):=by
 intro l J Jx hJ hJx hRd hGx hY w hj;have okJ: ∀k,BOk Gt (Bi w (λY=>J Y k)):=λk=>⟨λ_ _ _ h=>(hRd _ _ _ h.rid).1,hJ k⟩;have okX: ∀k,BOk Gt (Bi w (λY=>Jx Y k)):=λk=>⟨λ_ _ _ h=>hGx _ _ _ h.rid,hJx k⟩;have c1: ∀k L w',Hp (Bi w (λY=>J Y k)) L w'->StH w' bc bi n x:=λk L w' h=>(hRd _ _ _ h.rid).2;refine eF (G:=Gt) func149 O O (Hp (Bi w (λY=>J Y 0)) []) (cI (Bi w _) hj (hJ 0)) (aR (okJ 0))<|Xp<|aQ O isAgg3 (λw h=>(c1 _ _ w h).c.cell 0) O O<|Mv O<|aa<|ar<|jK (ι:={i:Nat // i<=n}) (λy=>[(0,.func (.yield l) #[] #[]),(1,pnt bc),(2,pnt bi),(5,I (n:Int)),(6,I (y.1:Int))]) (λy=>Bi w (λY=>J Y y.1)) (λy=>[]) (λy=>n-y.1) ⟨0,Nat.zero_le _⟩ (λ_=>okJ _) O trv trivial<|?_;rintro ⟨i,hi⟩;dsimp only;refine Xp ?_;rcases Nat.lt_or_ge i n with hlt|hge
 ·refine Bnb true O O (λ_=>aI _ _ _) (by simp;omega)<|aa<|ai<|aP O<|aw<|ai<|ar<|Xp<|Mv O<|Asg O<|aa<|Xp<|Mv O<|Mv O<|aQ O isAgg22 (λw h=>(c1 _ _ w h).i.cell 0) O O<|Mv O<|Bnr O O (λ_=>cG _ _ _ om)<|Bnr O O (λ_=>el _ _ _)<|Bnr (v:=.bool (x.toNat.testBit i)) O O (λ_=>(bC _ _ 1#64).trans (by rw[Int.toNat_natCast,zX]))<|?_
  refine e6 (hY.b (k:=i) (wR x n i hlt) w) (okJ _) (okX _) O O O O O ?_ ?_
  ·refine bR O (λ_=>bH _) O O<|aa<|aH O<|aw<|Xq<|Bnr (v:=I (((i+1:Nat):Int))) O O (λ_=>(ay _ _ _ aG).trans aE)<|Mv O<|aa<|?_
   repeat (refine bg ?_)
   exact aV<|⟨rfl,⟨i+1,hlt⟩,_,by show n-(i+1)<n-i;omega,rfl,trv,trivial⟩
  ·refine bR O (λ_=>bH _) O O<|aa<|aP O<|aq<|Rr<|?_
   repeat (first|refine iH ?_|refine hH ?_|refine g9 O ?_|refine cU ?_|refine cR ?_)
   exact ec O (λw hw=>⟨⟨_,rfl⟩,.inr ⟨_,cY (hJx _) hw.rid⟩⟩)
 ·obtain rfl:i=n:=om
  refine Bnb false O O (λ_=>aI _ _ _) (by rw[decide_eq_false_iff_not];omega)<|aa<|ai<|aH O<|bp<|?_
  repeat (first|refine iH ?_|refine hH ?_|refine g9 O ?_|refine cU ?_|refine cR ?_)
  refine dU O (λw hw=>⟨⟨_,rfl⟩,.inl ?_⟩);have:=cY (hJ _) hw.rid;rw[sG];exact this
theorem F7{v0:Rt}{b:List Rt}{x:BitVec 64}{root:Rt}(h: ¬x>>>b.length=0#64):vfy v0 b x root=false:=by
 have h6:b.length<64:=by
  rcases Nat.lt_or_ge b.length 64 with h1|h1
  ·exact h1
  ·exact absurd (by apply BitVec.eq_of_toNat_eq;rw[BitVec.toNat_ushiftRight,Nat.shiftRight_eq_div_pow,Nat.div_eq_of_lt (Nat.lt_of_lt_of_le x.isLt (Nat.pow_le_pow_right aC h1))];rfl) h
 unfold vfy;rw[show decide (64<=b.length)=false from decide_eq_false om,Bool.false_or,beq_eq_false_iff_ne.2 h,Bool.and_false]
theorem Dp{v0:Rt}{b:List Rt}{x:BitVec 64}{root:Rt}(h:x>>>b.length=0#64):vfy v0 b x root=decide (fld P2 x.toNat 0 v0 b=root):=by
 unfold vfy;rw[h];simp
theorem ux(v0:Rt)(hv0:v0.length=32)(b:List Rt)(hl:AllR b)(hln:b.length<=65536)(a:Option Addr)(cap:Nat)(x:BitVec 64)(root:Rt)(hroot:root.length=32)(w:World)(hw:Gt w)(hr:RtsAt w a b):
 CLS 81 [.agg (v0.map U8).toArray,.slice a b.length cap,U64 x,.agg (root.map U8).toArray].toArray w (λe w'=>e=.returned (.bool (vfy v0 b x root))/\Grow w w'):=by
 have hGF:BOk Gt (pl w):=gt_low.plain hw;refine eW (G:=Gt) func81 O O (Hp (pl w) []) (cI (pl w) trivial aM) (aR hGF)<|ao (E:=EE [117])<|Bx 4 hGF O<|λb4=>gI 5 hGF O O O<|λb5=>Bx 7 hGF O<|λb7=>Asg O<|aa<|ai<|ao (E:=EE [117])<|Mv O<|aU 5 O O O isAgg86 O O<|bB O (λ_=>aO underlying86 _ _ _ _) O O<|Bnr (v:=U64 (x>>>b.length)) O O (λ_=>(cG _ _ _ om).trans (by rw[Int.toNat_natCast]))<|?_
 by_cases hz:x>>>b.length=0#64
 ·refine Bnb false O O (λ_=>ko _ _ _) (by rw[hz];rfl)<|aa<|aH O<|aw<|ao (E:=EE [117])<|ah 4 O O isAgg27 sizeOf27 (by rw[List.length_map];exact hv0) O O<|Al 9 hGF zv27<|λb9=>am 9 hGF O O O sizeOf27 (by rw[List.length_map];exact hv0) (by rw[List.length_map];exact cH) (bj _) O<|aa<|ai<|ao (E:=EE [117])<|Mv O<|aU 5 O O O isAgg86 O O<|bB O (λ_=>aO underlying86 _ _ _ _) O O<|?_
  refine cx O O ent117 O O (λw1 hC=>(tQ x b.length w1 (hGF.g _ _ _ hC)).mono λe1 w2 h=> ?_);obtain ⟨bc,bi,rfl,hg,h1,h2,hne,hs⟩:=h;refine ⟨_,_,rfl,aR hGF,hC.news aM hg [(101,bc,_,3),(102,bi,_,22)] (row2 h1 h2 hs.c hs.i) (nZ hne), ?_⟩;clear hC hg h1 h2 hs hne;refine aa<|ar<|?_;refine jS (λ_=>pl w) (λ_ _=>pl w) (λ_=>hGF) (λ_ _=>hGF) (λ_=>rfl) (λ_ _=>rfl) O O ent149 (xm bc bi b.length om x) (λv hv=>by obtain ⟨k,hk,rfl⟩:=List.mem_map.1 hv;rfl) O (λk=>[(4,b4,v0.map U8,27),(5,b5,[.slice a b.length cap],86),(7,b7,root.map U8,27),(9,b9,(fld P2 x.toNat 0 v0 (b.take k)).map U8,27),(101,bc,[I (b.length:Int)],3),(102,bi,[U64 x],22)]) (λ_ _ _=>False) trv (λk _ w' h=>⟨(h.own 101 _ _ _ O).1,(h.own 102 _ _ _ O).1⟩) ?_ ?_ (λ_ _ _ _ _ h=>h.elim)
  ·intro k v hv R hR
   have hgw: ∀L w',Hp (R.b (pl w)) L w'->Grow w w':=λL w' h=>((hR (pl w) O hGF).2.2 _ _ _ h).elim λ_ h2=>h2.below (λ_ h=>h);obtain ⟨hk,rfl⟩:=F2 hv;obtain ⟨y,hby⟩: ∃y,b[k]? =some y:=⟨_,List.getElem?_eq_getElem hk⟩;have hy:y.length=32:=hl y (List.mem_of_getElem? hby);obtain ⟨ad,rfl,hyc⟩:=hr k y hby;have hstep:=yH P2 (i:=x.toNat) v0 hby;have hbk:x.toNat.testBit k=true->k<64:=λh=>by rcases Nat.lt_or_ge k 64 with h1|h1;exact h1;rw[Nat.testBit_lt_two_pow (Nat.lt_of_lt_of_le x.isLt (Nat.pow_le_pow_right aC h1))]at h;cases h
   cases hbit:x.toNat.testBit k
   ·have hst:fld P2 x.toNat 0 v0 (b.take (k+1))=P2 (fld P2 x.toNat 0 v0 (b.take k)) y:=by rw[hstep,K1 P2 _ _ hbit]
    refine ao (E:=EE [117])<|Asg O<|aa<|cn (E:=EE [117])<|Asg O<|aa<|?_;refine ⟨rfl,_,rfl, ?_⟩;refine ar<|ao (E:=EE [117])<|Mv O<|aa<|aH O<|Xe [117]<|ah 9 O O isAgg27 sizeOf27 (by rw[List.length_map];exact qg _ _ _ hv0) O O<|aU 5 O O O isAgg86 O O<|Mv O<|ew k 32 O O underlying86 sizeOf27 O om O O<|bA (cs:=y.map U8) O isAgg27 sizeOf27 (by rw[List.length_map];exact hy) (λw' h j v hv=>((hgw _ w' h).cell (block_lt_of_cell (hyc j v hv))).trans (hyc j v hv)) O O<|Cc O ent118 (λw' _ hG=>kJ (fld P2 x.toNat 0 v0 (b.take k)) y (qg _ _ _ hv0) hy w' hG)<|?_
    rw[show SHA ((fld P2 x.toNat 0 v0 (b.take k))++y)=P2 (fld P2 x.toNat 0 v0 (b.take k)) y from O,<-hst];refine am 9 (hR (pl w) O hGF).2.1 O O O sizeOf27 (by rw[List.length_map];exact qg _ _ _ hv0) (by rw[List.length_map];exact qg _ _ _ hv0) (bj _) O<|aa<|?_
    repeat (refine bg ?_)
    exact ⟨_,rfl,trv⟩
   ·have hst:fld P2 x.toNat 0 v0 (b.take (k+1))=P2 y (fld P2 x.toNat 0 v0 (b.take k)):=by rw[hstep,K0 P2 _ _ (hbk hbit) hbit]
    refine ao (E:=EE [117])<|Asg O<|aa<|cn (E:=EE [117])<|Asg O<|aa<|?_;refine ⟨rfl,_,rfl, ?_⟩;refine ar<|ao (E:=EE [117])<|Mv O<|aa<|aP O<|Xe [117]<|aU 5 O O O isAgg86 O O<|Mv O<|ew k 32 O O underlying86 sizeOf27 O om O O<|bA (cs:=y.map U8) O isAgg27 sizeOf27 (by rw[List.length_map];exact hy) (λw' h j v hv=>((hgw _ w' h).cell (block_lt_of_cell (hyc j v hv))).trans (hyc j v hv)) O O<|ah 9 O O isAgg27 sizeOf27 (by rw[List.length_map];exact qg _ _ _ hv0) O O<|Cc O ent118 (λw' _ hG=>kJ y (fld P2 x.toNat 0 v0 (b.take k)) hy (qg _ _ _ hv0) w' hG)<|?_
    rw[show SHA (y++(fld P2 x.toNat 0 v0 (b.take k)))=P2 y (fld P2 x.toNat 0 v0 (b.take k))from O,<-hst];refine am 9 (hR (pl w) O hGF).2.1 O O O sizeOf27 (by rw[List.length_map];exact qg _ _ _ hv0) (by rw[List.length_map];exact qg _ _ _ hv0) (bj _) O<|aa<|?_
    repeat (refine bg ?_)
    exact ⟨_,rfl,trv⟩
  ·intro D hD
   rw[sG,List.take_length];refine ao (E:=EE [117])<|ah 9 O O isAgg27 sizeOf27 (by rw[List.length_map];exact qg _ _ _ hv0) O O<|ah 7 O O isAgg27 sizeOf27 (by rw[List.length_map];exact hroot) O O<|du (v:=.bool (decide (fld P2 x.toNat 0 v0 b=root))) O O (λw'=>GB _ _ _ _ _ w') (λw'=>H6 _ _ (qg _ _ _ hv0) hroot w') O O<|Asg O<|aa<|aq<|Rr<|?_
   exact iu (.inl O) aM (au O O (λw' hw'=>⟨by rw[Dp hz],ae hw'⟩))
 ·refine Bnb true O O (λ_=>ko _ _ _) (bne_iff_ne.2 hz)<|aa<|aP O<|ao (E:=EE [117])<|Asg O<|aa<|aq<|Rr<|?_
  exact rI (.inl O) (au O O (λw' hw'=>⟨by rw[F7 hz];rfl,ae hw'⟩))
end
section
open Go.RowKit
open Sh
theorem ent53:aJ prog 53:=λ_ _=>kr
theorem ent89:aJ prog 89:=λ_ _=>kr
theorem ent123:aJ prog 123:=λ_ _=>kr
theorem dP{cs:List Value}: ∀j v,cs[j]? =some v->cs[0+j]? =some v:=λj v hv=>by rw[Nat.zero_add];exact hv
theorem Hd.a_s{h:Hd}: ∀j v,[U64 h.s][j]? =some v->h.cs[0+j]? =some v:=eE (pre:=[]) O
theorem St.at_f{s:St}: ∀j v,s.f.cs[j]? =some v->s.cs[0+j]? =some v:=eE (pre:=[]) O
theorem mW(u:Up)(hk:u.Ok)(w:World)(hw:Gt w):CLS 19 [.agg u.cs.toArray].toArray w (λe w'=>e=.returned (.bool u.isn)/\Grow w w'):=by
 refine Hf func19 O hw<|λhGF=>Xp<|Bx 1 hGF O<|λb1=>Asg O<|aa<|Xp<|Fa 147 O underlying71 O sizeOf36<|az (cs:=u.br.map U8) O isAgg36 sizeOf36 (by rw[List.length_map];exact hk.br) (λw' hw' j v hv=>by have:=(av (n:=1) O w' hw') _ v ((Up.l3 hk) j v hv);rwa [Nat.zero_add]at this) O O<|dI Dh underlying36 sizeOf28 O O<|du (v:=.bool (!decide (u.br=Zs 160))) O O (λw'=>JQ _ _ _ _ _ w') (λw'=>nY Mh aC u.br (Zs 160) hk.br O w') O O<|Asg O<|aa<|aq<|Rr<|?_
 exact au O O (λw' hw'=>⟨rfl,ae hw'⟩)
theorem js(u:Up)(hk:u.Ok)(w:World)(hw:Gt w):CLS 21 [.agg u.cs.toArray].toArray w (λe w'=>e=.returned (.bool u.isf)/\Grow w w'):=by
 refine Hf func21 O hw<|λhGF=>Xp<|Bx 1 hGF O<|λb1=>Asg O<|aa<|Xp<|Fa 405 O underlying71 O sizeOf64<|az (cs:=u.fy.map U8) O isAgg64 sizeOf64 (by rw[List.length_map];exact hk.fy) (λw' hw' j v hv=>by have:=(av (n:=1) O w' hw') _ v ((Up.l5 hk) j v hv);rwa [Nat.zero_add]at this) O O<|dI I4 underlying64 sizeOf28 O O<|du (v:=.bool (!decide (u.fy=Zs 192))) O O (λw'=>Jm _ _ _ _ _ w') (λw'=>nY KN aC u.fy (Zs 192) hk.fy O w') O O<|Asg O<|aa<|aq<|Rr<|?_
 exact au O O (λw' hw'=>⟨rfl,ae hw'⟩)
theorem Aj(c:Co)(hk:c.Ok)(hln:c.ks.length<=1000000)(w:World)(hw:Gt w)(hrw:RwsAt 48 w c.ka c.ks):CLS 53 [.agg c.cs.toArray].toArray w (λe w'=>e=.returned (.bool (oH c))/\Grow w w'):=by
 refine Hf func53 O hw<|λhGF=>Xp<|Bx 1 hGF O<|λb1=>Asg O<|aa<|ai<|Xp<|Fa 0 O underlying35 O sizeOf31<|aU 1 O O ((Co.a0) 0 (.slice c.ka c.ks.length c.kc) O) isAgg31 O O<|bB O (λ_=>aO underlying31 _ _ _ _) O O<|Mv O<|aa<|ar<|bV (ι:={i:Nat // i<=c.ks.length/\∀j r,j<i->c.ks[j]? =some r->r=(Zs 48)}) (λx=>[(1,pnt b1),(6,.slice c.ka c.ks.length c.kc),(7,I (c.ks.length:Int)),(8,I (x.1:Int))]) (λ_=>[(1,b1,c.cs,35)]) (λx=>c.ks.length-x.1) ⟨0,Nat.zero_le _,λj r hj=>absurd hj (Nat.not_lt_zero j)⟩ hGF trv trv<|?_;rintro ⟨i,hi,hno⟩;dsimp only;refine Xp<|Bnr O O (λ_=>aI _ _ _)<|aa<|ai<|?_;refine ct O (λhc=> ?_) (λhc=> ?_)
 ·have hlt:i<c.ks.length:=(by simp at hc;omega)
  clear hc;obtain ⟨x,hx⟩: ∃x,c.ks[i]? =some x:=⟨_,List.getElem?_eq_getElem hlt⟩;have hxl:=hk.ks x (List.mem_of_getElem? hx);refine aw<|ai<|ar<|Xp<|?_;obtain ⟨ad,hae,hcell⟩:=hrw i x hx;refine ew (ad:=ad) i 48 (by rw[<-hae];rfl) O underlying31 sizeOf33 O hlt O O<|bA (cs:=x.map U8) O isAgg33 sizeOf33 (by rw[List.length_map];exact hxl) (λw' h j v hv=>((ae h).cell (block_lt_of_cell (hcell j v hv))).trans (hcell j v hv)) O O<|Al 4 hGF A1<|λb4=>am 4 hGF O O O sizeOf33 (by rw[List.length_map];exact hxl) (by rw[List.length_map];rfl) (bj _) O<|aa<|Xp<|ah 4 O O isAgg33 sizeOf33 (by rw[List.length_map];exact hxl) O O<|dI A1 underlying33 sizeOf5 O O<|?_
  rcases Bool.eq_false_or_eq_true (decide (x=(Zs 48)))with hq|hq
  ·refine kE false O O (λw'=>BV _ _ _ _ _ w') (λ_=>nY AU aC x (Zs 48) hxl O _) (by rw[hq];rfl) O O<|aa<|aH O<|aw<|Xq<|Bnr (v:=I (((i+1:Nat):Int))) O O (λ_=>(ay _ _ _ aG).trans aE)<|Mv O<|aa<|?_
   repeat (refine bg ?_)
   exact aV<|⟨rfl,⟨i+1,hlt,λj r hj hr=>(Nat.lt_or_ge j i).elim (λh=>hno j r h hr) (λh=>by have e:j=i:=om;subst e;rw[hx]at hr;cases hr;exact of_decide_eq_true hq)⟩,_,by show c.ks.length-(i+1)<c.ks.length-i;omega,rfl,trv,trv⟩
  ·refine kE true O O (λw'=>BV _ _ _ _ _ w') (λ_=>nY AU aC x (Zs 48) hxl O _) (by rw[hq];rfl) O O<|aa<|aP O<|Xp<|Asg O<|aa<|aq<|Rr<|?_
   exact au O O (λw' hw'=>⟨by rw[Hm hx hq];rfl,ae hw'⟩)
 ·have hie:i=c.ks.length:=(by simp at hc;omega)
  clear hc;refine bp<|Xp<|Fa 1 O underlying35 O sizeOf33<|az (cs:=c.sum.map U8) O isAgg33 sizeOf33 (by rw[List.length_map];exact hk.sum) (λw' hw' j v hv=>by have:=(av (n:=1) O w' hw') _ v ((Co.a_sum) j v hv);rwa [Nat.zero_add]at this) O O<|dI A1 underlying33 sizeOf5 O O<|du (v:=.bool (decide (c.sum=(Zs 48)))) O O (λw'=>BV _ _ _ _ _ w') (λw'=>vI AU aC c.sum (Zs 48) hk.sum O w') O O<|Asg O<|aa<|aq<|Rr<|?_
  exact au O O (λw' hw'=>⟨by rw[Ei (λj r hj=>hno j r om)],ae hw'⟩)
theorem Gn(s:St)(hk:s.Ok)(hln:s.nx.ks.length<=1000000)(w:World)(hw:Gt w)(hrw:RwsAt 48 w s.nx.ka s.nx.ks):CLS 23 [.agg s.cs.toArray].toArray w (λe w'=>e=.returned (.bool (!oH s.nx))/\Grow w w'):=by
 refine Hf func23 O hw<|λhGF=>Xp<|Bx 1 hGF O<|λb1=>Asg O<|aa<|Xp<|Fa 245 O underlying53 O sizeOf35<|az (cs:=s.nx.cs) O isAgg35 sizeOf35 (Co.len hk.nx) (λw' hw' j v hv=>by have:=(av (n:=1) O w' hw') _ v ((St.at_nx hk) j v hv);rwa [Nat.zero_add]at this) O O<|Cc O ent53 (λw' hw' hG=>Aj s.nx hk.nx hln w' hG (hrw.grow (ae hw')))<|bR O (λ_=>bH _) O O<|Asg O<|aa<|aq<|Rr<|?_
 exact au O O (λw' hw'=>⟨rfl,ae hw'⟩)
theorem mN(l:List Bool)(hl:l.length<=1000000)(a:Option Addr)(cap:Nat)(w:World)(hw:Gt w)(hcl:CellsAt w a (l.map .bool)):CLS 89 [.slice a l.length cap].toArray w (λe w'=>e=.returned (I (onN l:Int))/\Grow w w'):=by
 refine Hf func89 O hw<|λhGF=>Xp<|Asg O<|aa<|Xp<|Asg O<|aa<|ai<|Xp<|Mv O<|bB O (λ_=>aO underlying65 _ _ _ _) O O<|Mv O<|aa<|ar<|bV (ι:={i:Nat // i<=l.length}) (λx=>[(6,.slice a l.length cap),(7,I (l.length:Int)),(3,I (onN (l.take x.1):Int)),(8,I (x.1:Int))]) (λ_=>[]) (λx=>l.length-x.1) ⟨0,Nat.zero_le _⟩ hGF trv trivial<|?_;rintro ⟨i,hi⟩;dsimp only;refine Xp<|Bnr O O (λ_=>aI _ _ _)<|aa<|ai<|?_;refine ct O (λhc=> ?_) (λhc=> ?_)
 ·have hlt:i<l.length:=(by simp at hc;omega)
  clear hc;obtain ⟨x,hx⟩: ∃x,l[i]? =some x:=⟨_,List.getElem?_eq_getElem hlt⟩;refine aw<|ai<|ar<|Xp<|?_;obtain ⟨ad,hae,hcell⟩:=hcl i (.bool x) (by rw[List.getElem?_map,hx];rfl)
  refine ew (ad:=ad) i 1 (by rw[<-hae];rfl) O underlying65 sizeOf4 O hlt O O ?_
  rcases Bool.eq_false_or_eq_true x with hq|hq
  ·refine aQ (v:=.bool true) O isAgg4 (λw' h=>by rw[Nat.mul_one];have h9:=((ae h).cell (block_lt_of_cell hcell)).trans hcell;rw[hq]at h9;exact h9) O O<|Asg O<|aa<|Xp<|Mv O<|aa<|aP O<|Xq<|Mv O<|Bnr (v:=I ((onN (l.take i)+1:Nat):Int)) O O (λ_=>(ay _ _ _ (by have:=zU (l.take i);rw[List.length_take]at this;unfold inI;omega)).trans aE)<|Asg O<|aa<|Xq<|Bnr (v:=I (((i+1:Nat):Int))) O O (λ_=>(ay _ _ _ aG).trans aE)<|Mv O<|aa<|?_
   repeat (refine bg ?_)
   refine aV ?_;rw[hq]at hx;exact ⟨rfl,⟨i+1,hlt⟩,_,by show l.length-(i+1)<l.length-i;omega,rfl,⟨rfl,rfl,by rw[tg l i _ hx];rfl,rfl,trivial⟩,trivial⟩
  ·refine aQ (v:=.bool false) O isAgg4 (λw' h=>by rw[Nat.mul_one];have h9:=((ae h).cell (block_lt_of_cell hcell)).trans hcell;rw[hq]at h9;exact h9) O O<|Asg O<|aa<|Xp<|Mv O<|aa<|aH O<|aw<|Xq<|Bnr (v:=I (((i+1:Nat):Int))) O O (λ_=>(ay _ _ _ aG).trans aE)<|Mv O<|aa<|?_
   repeat (refine bg ?_)
   refine aV ?_;rw[hq]at hx;exact ⟨rfl,⟨i+1,hlt⟩,_,by show l.length-(i+1)<l.length-i;omega,rfl,⟨rfl,rfl,by rw[tg l i _ hx];rfl,rfl,trivial⟩,trivial⟩
 ·have hie:i=l.length:=(by simp at hc;omega)
  clear hc;refine bp<|Xp<|Mv O<|Asg O<|aa<|aq<|Rr<|?_;exact au O O (λw' hw'=>⟨by rw[List.take_of_length_le om],ae hw'⟩)
theorem oe(l:List Bool)(hl:l.length<=1000000)(a:Option Addr)(cap:Nat)(w:World)(hw:Gt w)(hcl:CellsAt w a (l.map .bool)):CLS 123 [.slice a l.length cap].toArray w (λe w'=>e=.returned (.bool (cT l))/\Grow w w'):=by
 refine Hf func123 O hw<|λhGF=>Xp<|Asg O<|aa<|Xp<|Mv O<|Cc O ent89 (λw' hw' hG=>mN l hl a cap w' hG (hcl.grow (ae hw')))<|Bnr (v:=I (3*(onN l:Int))) O O (λ_=>bS _ 3 _ (by have:=zU l;unfold inI;omega))<|Mv O<|bB O (λ_=>aO underlying65 _ _ _ _) O O<|Bnr (v:=I (2*(l.length:Int))) O O (λ_=>bS _ 2 _ aG)<|Bnr (v:=.bool (cT l)) O O (λ_=>(cZ _ _ _).trans (by rw[show decide (3*(onN l:Int)>=2*(l.length:Int))=cT l from decide_eq_decide.2 om]))<|Asg O<|aa<|aq<|Rr<|?_
 exact au O O (λw' hw'=>⟨rfl,ae hw'⟩)
end
end Go.Proofs.YtfakhlafilbjkaaGreatDoor
