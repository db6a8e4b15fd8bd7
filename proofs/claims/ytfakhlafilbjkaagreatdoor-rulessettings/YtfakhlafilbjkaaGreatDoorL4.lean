/- L4 -/
import Derived.Test.YtfakhlafilbjkaaGreatDoorL3
set_option maxRecDepth 100000
set_option maxHeartbeats 1000000
namespace Go.Proofs.YtfakhlafilbjkaaGreatDoor
open Go.Proofs.Tryz
section
open Go.RowKit
open Sh
theorem ent8:aJ prog 8:=λ_ _=>kr
theorem ent25:aJ prog 25:=λ_ _=>kr
theorem ent14:aJ prog 14:=λ_ _=>kr
theorem ent19:aJ prog 19:=λ_ _=>kr
theorem ent21:aJ prog 21:=λ_ _=>kr
theorem ent23:aJ prog 23:=λ_ _=>kr
def onN(l:List Bool):Nat:=(l.filter id).length
def dh(l:List Bool):Bool:=decide (2*l.length<=3*onN l)
def Up.isn(u:Up):Bool:= !decide (u.br=Zs 160)
def Up.isf(u:Up):Bool:= !decide (u.fy=Zs 192)
def oZ(c:Co):Bool:=c.ks.all (λk=>decide (k=Zs 48)) && decide (c.sum=Zs 48)
def Up.rip(u:Up)(c:Cf):Bool:=u.isn && decide (c.pe u.at_.s=c.pe u.sl)
def Up.nea(u:Up)(c:Cf):Bool:=decide (c.pe u.fi.s=c.pe u.at_.s)
def Ic(c:Cf)(a b:Up):Bool:=
 bif dh a.sy.bs !=dh b.sy.bs then dh a.sy.bs else
 bif !dh a.sy.bs && decide (onN a.sy.bs≠onN b.sy.bs)then decide (onN b.sy.bs<onN a.sy.bs)else
 bif a.rip c !=b.rip c then a.rip c else
 bif a.isf !=b.isf then a.isf else
 bif a.isf && (a.nea c !=b.nea c)then a.nea c else
 bif decide (onN a.sy.bs≠onN b.sy.bs)then decide (onN b.sy.bs<onN a.sy.bs)else
 bif decide (a.at_.s≠b.at_.s)then decide (a.at_.s<b.at_.s)else decide (a.sl<b.sl)
def B8(c:Cf)(a b:Up):Bool:=bif c.rt then Ic c a b else false
def VM(w:World)(s:St)(u:Up):Prop:=RwsAt 48 w s.nw.ka s.nw.ks/\RwsAt 48 w s.nx.ka s.nx.ks/\RwsAt 48 w u.nx.ka u.nx.ks/\CellsAt w u.sy.ba (u.sy.bs.map .bool)
def VB(s:St)(u:Up):Prop:=s.nw.ks.length<=1000/\s.nx.ks.length<=1000/\u.nx.ks.length<=1000/\u.sy.bs.length<=1000
structure RulesP:Prop where
 isn: ∀(u:Up),u.Ok->∀(w:World),Gt w->CLS 19 [.agg u.cs.toArray].toArray w (λe w'=>e=.returned (.bool u.isn)/\Grow w w')
 isf: ∀(u:Up),u.Ok->∀(w:World),Gt w->CLS 21 [.agg u.cs.toArray].toArray w (λe w'=>e=.returned (.bool u.isf)/\Grow w w')
 kno: ∀(s:St),s.Ok->s.nx.ks.length<=1000->∀(w:World),Gt w->RwsAt 48 w s.nx.ka s.nx.ks->CLS 23 [.agg s.cs.toArray].toArray w (λe w'=>e=.returned (.bool (!oZ s.nx))/\Grow w w')
 bet: ∀(c:Cf) (a b:Up),c.Ok->a.Ok->b.Ok->a.sy.bs.length<=1000->b.sy.bs.length<=1000->∀(w:World),Gt w->CellsAt w a.sy.ba (a.sy.bs.map .bool)->CellsAt w b.sy.ba (b.sy.bs.map .bool)->CLS 17 [.agg c.cs.toArray,.agg a.cs.toArray,.agg b.cs.toArray].toArray w (λe w'=>e=.returned (.bool (B8 c a b))/\Grow w w')
 beg: ∀(c:Cf) (t:Rt) (b:Bo),c.Ok->t.length=32->b.Ok->b.nw.ks.length<=1000->∀(w:World),Gt w->RwsAt 48 w b.nw.ka b.nw.ks->CLS 14 [.agg c.cs.toArray,.agg (t.map U8).toArray,.agg b.cs.toArray].toArray w (λe w'=>e=.returned (I (bif c.rt then ld t b else 210))/\Grow w w')
 vS: ∀(c:Cf) (s:St) (u:Up) (n:BitVec 64),c.Ok->s.Ok->u.Ok->VB s u->c.rt=false->∀(w:World),Gt w->VM w s u->CLS 25 [.agg c.cs.toArray,.agg s.cs.toArray,.agg u.cs.toArray,U64 n].toArray w (λe w'=>e=.returned (I 210)/\Grow w w')
 vF: ∀(c:Cf) (s:St) (u:Up) (n:BitVec 64),c.Ok->s.Ok->u.Ok->VB s u->c.rt=true->onN u.sy.bs=0->∀(w:World),Gt w->VM w s u->CLS 25 [.agg c.cs.toArray,.agg s.cs.toArray,.agg u.cs.toArray,U64 n].toArray w (λe w'=>e=.returned (I 232)/\Grow w w')
 vE: ∀(c:Cf) (s:St) (u:Up) (n:BitVec 64),c.Ok->s.Ok->u.Ok->VB s u->c.rt=true->onN u.sy.bs≠0->n<u.sl->∀(w:World),Gt w->VM w s u->CLS 25 [.agg c.cs.toArray,.agg s.cs.toArray,.agg u.cs.toArray,U64 n].toArray w (λe w'=>e=.returned (I 233)/\Grow w w')
 vW: ∀(c:Cf) (s:St) (u:Up) (n:BitVec 64),c.Ok->s.Ok->u.Ok->VB s u->c.rt=true->onN u.sy.bs≠0->¬n<u.sl->u.at_.s<u.sl->¬u.at_.s<u.fi.s->c.pe u.sl=c.pe s.f.s->s.f.s<u.at_.s->u.isf=false->u.fi=Hdz->u.isn=false->oZ u.nx=true->u.sy.sig=Zs 96->∀(w:World),Gt w->VM w s u->CLS 25 [.agg c.cs.toArray,.agg s.cs.toArray,.agg u.cs.toArray,U64 n].toArray w (λe w'=>e=.returned (I 238)/\Grow w w')
def cK:Cf:=cfP 1#64 32 4 1#64 8#64 1
theorem ki:cK.Ok:=kX _ _ _ _ _ _ aC aC
theorem tc:cK.rt=true:=by decide+kernel
theorem DV:cK.pe 5#64=0#64:=by decide+kernel
theorem cK_7:cK.pe 7#64=0#64:=by decide+kernel
def Hd6:Hd:=⟨6#64,0#64,Z0,Z0,Z0⟩
def Up0:Up:=⟨Hdz,Co0,Zs 160,Hdz,Zs 192,⟨[],none,0,Zs 96⟩,0#64⟩
def mZ(b:Nat)(x:Bool):Up:=⟨Hd6,Co0,Zs 160,Hdz,Zs 192,⟨[x],some ⟨b,0,none⟩,1,Zs 96⟩,7#64⟩
theorem i6(b:Nat)(x:Bool):(mZ b x).Ok:=⟨⟨rfl,rfl,rfl⟩,jJ,rfl,gW,rfl,⟨rfl⟩,⟩
theorem GD:Up0.Ok:=⟨gW,jJ,rfl,gW,rfl,⟨rfl⟩⟩
theorem zvUp(w:World):(zeroValue 71).run prog w=.ok (.agg Up0.cs.toArray) w:=(zeroValue71 w).trans aE
theorem zvSt(w:World):(zeroValue 53).run prog w=.ok (.agg St0.cs.toArray) w:=(zeroValue53 w).trans aE
def UA(b:Nat):Up:=⟨Hdz,Co0,Zs 160,Hdz,Zs 192,⟨[true],some ⟨b,0,none⟩,1,Zs 96⟩,0#64⟩
def UB(b:Nat):Up:=⟨Hdz,Co0,Zs 160,Hdz,Zs 192,⟨[true],some ⟨b,0,none⟩,1,Zs 96⟩,7#64⟩
theorem Gl(b:Nat):Up0.cs.set 597 (.slice (spt b) 1 1)=(UA b).cs:=kr
theorem GW(b:Nat):(UA b).cs.set 694 (nrm (.int .u64 7))=(UB b).cs:=kr
theorem HG(b:Nat):(UB b).cs.set 0 (nrm (.int .u64 6))=(mZ b true).cs:=kr
theorem JK(b:Nat):(mZ b true).cs=(mZ b false).cs:=rfl
theorem St.one(s:St):s.cs.all (·.oneCell')=true:=by
 rw[St.cs,List.all_append,List.all_append,List.all_append,List.all_append,Hd.one,Hd.one,Co.one,Co.one];rfl
theorem LX(f o:Hd)(nw:Co)(hf:f.Ok)(ho:o.Ok)(hn:nw.Ok)(w:World):(Instr.build 53 #[(0,.agg f.cs.toArray),(1,.agg o.cs.toArray),(2,.agg nw.cs.toArray)]).run prog w=.ok (.agg (St.cs ⟨f,o,nw,Co0,none,0,0,0#64,0#64⟩).toArray) w:=
 cP (c:=[]++(Hdz.cs++(Hdz.cs++(Co0.cs++(Co0.cs++[Value.slice none 0 0,U64 0#64,U64 0#64]))))) (ps:= #[(0,98),(98,98),(196,49),(245,49),(294,1),(295,1),(296,1)]) (λw=>(zeroValue53 w).trans aE) underlying53 (λw=>by simp[sizeOf22,sizeOf30,sizeOf35,sizeOf51]) [(0,.agg f.cs.toArray),(1,.agg o.cs.toArray),(2,.agg nw.cs.toArray)] (by
  rw[d9 (pre:=[]) (old:=Hdz.cs) (vs:=f.cs) O O (by rw[Hd.len hf];rfl),d9 (pre:=[]++f.cs) (old:=Hdz.cs) (vs:=o.cs) (by rw[List.nil_append,Hd.len hf];rfl) O (by rw[Hd.len ho];rfl),
   d9 (pre:=[]++f.cs++o.cs) (old:=Co0.cs) (vs:=nw.cs) (by rw[List.nil_append,List.length_append,Hd.len hf,Hd.len ho];rfl) O (by rw[Co.len hn];rfl)]
  simp[Instr.fill,St.cs]) w
theorem xm{bs:By}{i:Nat}{r:Rt}(hr:r.length=32)(hi:32*i+32<=bs.length):((jF bs i r).drop (32*i)).take 32=r:=by
 rw[jF,List.append_assoc,List.drop_left' (by rw[List.length_take];omega),List.take_left' hr]
theorem yR{bs:By}{i j:Nat}{r:Rt}(hi:32*i<=bs.length)(hj:j<i):((jF bs i r).drop (32*j)).take 32=(bs.drop (32*j)).take 32:=by
 rw[jF,List.append_assoc,List.drop_append_of_le_length (by rw[List.length_take];omega),List.take_append_of_le_length (by rw[List.length_drop,List.length_take];omega),List.drop_take,List.take_take,Nat.min_eq_left om]
theorem Gs{x:BitVec 64}{a b c:Rt}(ha:a.length=32)(hb:b.length=32)(_hc:c.length=32):(di (LVS x a b c) 24).getD 22 Z0=b:=by
 have l0:=io x 768;have l1:(jF (LVB x 768) 20 a).length=768:=(iP ha (by rw[l0];decide)).trans l0
 have l2:(jF (jF (LVB x 768) 20 a) 22 b).length=768:=(iP hb (by rw[l1];decide)).trans l1
 rw[di,List.getD_eq_getElem?_getD,List.getElem?_map,List.getElem?_range aC];show ((LVS x a b c).drop (32*22)).take 32=b;rw[LVS,yR (by rw[l2];decide) aC,xm hb (by rw[l1];decide)]
theorem zu: ∀(l:List Rt),AllR l->di l.flatten l.length=l:=λl hl=>by
 apply List.ext_getElem (by rw[fM])
 intro i h1 h2;have h3:(di l.flatten l.length)[i]? =some ((l.flatten.drop (32*i)).take 32):=by
  rw[di,List.getElem?_map,List.getElem?_range h2];rfl
 have h4:=(List.getElem?_eq_some_iff.1 h3).2;rw[h4];have e:l=l.take i++(l[i]::l.drop (i+1)):=by rw[<-List.drop_eq_getElem_cons h2,List.take_append_drop]
 have h5:(l.take i).flatten.length=32*i:=by rw[cR _ (hl.take i),List.length_take,Nat.min_eq_left om]
 conv=>lhs;rw[e]
 rw[List.flatten_append,List.flatten_cons,List.drop_left' h5,List.take_left' (hl _ (List.getElem_mem h2))]
theorem C5(sd q:BitVec 64)(m1 m2:Co)(n:Nat):vfy (m1.rt n) (di (BOV sd q m1 m2 n).br 5) 22#64 (BOV sd q m1 m2 n).hd.b=true:=by
 unfold BOV HDV STV;dsimp only;have hl:=ee (n:=24) (lQ (x:=sd+q) (da (nR q) Z0) (Co.rt_len m1 n) (Co.rt_len m2 n));have hg:=Gs (x:=sd+q) (da (nR q) Z0) (Co.rt_len m1 n) (Co.rt_len m2 n);have hn:(di (LVS (sd+q) (P2 (nR q) Z0) (m1.rt n) (m2.rt n)) 24).length=24:=fM _ _;generalize di (LVS (sd+q) (P2 (nR q) Z0) (m1.rt n) (m2.rt n)) 24=l at hl hg hn⊢;have ht:l.take (2^5)=l:=List.take_of_length_le om;rw[ht];have hb:AllR (brF P2 Z0 5 l (22#64).toNat):=lV 5 l hl;have hbl:(brF P2 Z0 5 l (22#64).toNat).length=5:=ku _ _ _ _ _;have hc:=zu _ hb;rw[hbl]at hc;rw[hc];have h1:=q8 P2 Z0 22 5 l aC om;rw[show 22 % 2^5=22 from O,hg]at h1;unfold vfy;rw[show (22#64).toNat=22 from O]at hbl⊢;rw[h1,hbl,decide_eq_true O];rfl
end
section
open Go.RowKit
open Sh
theorem G4{bc bw bm:Nat}{cf:Cf}{sd:BitVec 64}{k:Nat}(hk:(cN bc bw bm cf sd).own k):k=bc\/k=bw:=by
 rcases hk with h|h|⟨_,h,_⟩|⟨_,h,_⟩|⟨_,h,_⟩|⟨_,h,_⟩
 ·exact .inl h
 ·exact .inr h
 ·cases h
 ·cases h
 ·cases h
 ·cases h
theorem D6(w:World)(a:Option Addr):RwsAt 48 w a []:=λi r h=>by simp at h
theorem H9{sd q:BitVec 64}{m1 m2:Co}{n:Nat}(h:m1.Ok):(BOV sd q m1 m2 n).Ok:=by
 have hl:=ee (n:=24) (lQ (x:=sd+q) (da (nR q) Z0) (Co.rt_len m1 n) (Co.rt_len m2 n));have hb:=lV (i:=(22#64).toNat) 5 _ (hl.take (2^5));have hn:=ku P2 Z0 5 ((di (LVS (sd+q) (P2 (nR q) Z0) (m1.rt n) (m2.rt n)) 24).take (2^5)) (22#64).toNat;have hh:=rM sd q (fin:=Z0) (Co.rt_len m1 n) (Co.rt_len m2 n);unfold BOV;exact ⟨hh,h,by dsimp only;rw[cR _ hb,hn]⟩
theorem zI{m1 m2:Co}(h1:yr 1#64 1 0#64 m1)(h2:yr 1#64 1 1#64 m2): ¬(HDV 1#64 5#64 Z0 (m1.rt 1) (m2.rt 1)).rt=Z0:=by
 rw[rtK0 (m:=m1) (by rw[h1.1];exact congrArg (λx=>[x]) ID) (h1.2.trans kys0),rtK1 (m:=m2) (by rw[h2.1];exact congrArg (λx=>[x]) IY) (h2.2.trans kys1),hdK]
 exact Gy
def GS(c:Cn)(q:BitVec 64)(n:Nat)(w1 w2:World)(v:Value):Prop:= ∃d m1 m2,v=.agg (BOV c.sd q m1 m2 n).cs.toArray/\ChAt w2 d/\Ext w1 (2*(n+1)) c d/\(∀m∈d.ms,m.ks.length=n)/\cz d.ats d.ms (c.cf.pe q)=some m1/\cz d.ats d.ms (c.cf.pe q+1#64)=some m2
theorem LF(c:Cn)(q:BitVec 64)(n:Nat)(hz:c.cf.z=(n:Int))(hn:n<=512)(hnK:c.nK<=400000)(hnS:c.nS<=400000)(hnA:c.ats.length<=400000)(hmn: ∀m∈c.ms,m.ks.length=n)(w:World)(hw:Gt w)(hch:ChAt w c):CLS 10 [pnt c.bc,U64 q].toArray w (λe w2=> ∃v,e=.returned v/\MM c.own w w2/\GS c q n w w2 v):=
 (xO c q n hz hn hnK hnS hnA hmn w hw hch).mono λ_e _w2 ⟨d,m1,m2,he,hm,hc,hx,hl,k1,k2,_⟩=>⟨_,he,hm,d,m1,m2,rfl,hc,hx,hl,k1,k2⟩
theorem Cu(hR:RulesP)(w:World)(hw:Gt w):CLS 8 [].toArray w (λe w'=>e=.returned (.bool true)/\Grow w w'):=by
 refine Hf func8 O hw<|λhGF=>am (E:=EE [26])<|Asg O<|aa<|am (E:=EE [26])<|?_;refine cw O O ent26 O O (λw' hw'=>(uM 1#64 1#64 8#64 1 w' (hGF.g _ _ _ hw')).mono λe w'' h=> ?_);obtain ⟨bc,bw,bm,rfl,hg,hch,z1,z2⟩:=h;have y1:=Nat.le_trans (ae hw').size z1;have y2:=Nat.le_trans (ae hw').size z2;refine ⟨_,(λw''=>Hp (pl w) [] w''/\ChAt w'' (cN bc bw bm cK 1#64)),rfl,bP (aT hGF) (λ_ _ x g=>x.grow g),⟨hw'.grow aL hg,hch⟩, ?_⟩;clear hw' hg hch;refine Asg O<|aa<|?_;obtain ⟨c0,hc0⟩: ∃x,cN bc bw bm cK 1#64=x:=⟨_,rfl⟩;have hbc:c0.bc=bc:=by rw[<-hc0];rfl
 have hcf:c0.cf=cK:=by rw[<-hc0];rfl
 have hsd:c0.sd=1#64:=by rw[<-hc0];rfl
 have how: ∀k,c0.own k->w.heap.size<=k:=λk hk=>by rw[<-hc0]at hk;rcases G4 hk with rfl|rfl;exact y1;exact y2
 have hT: ∀w',Gt w'->ChAt w' c0->CLS 10 [pnt bc,U64 5#64].toArray w' (λe w2=> ∃v,e=.returned v/\MM c0.own w' w2/\GS c0 5#64 1 w' w2 v):=λw' g hc=>by have h:=LF c0 5#64 1 (by rw[hcf];rfl) aC (by rw[<-hc0];exact Nat.zero_le _) (by rw[<-hc0];exact Nat.zero_le _) (by rw[<-hc0];exact Nat.zero_le _) (λm hm=>by rw[<-hc0]at hm;cases hm) w' g hc;rw[hbc]at h;exact h
 refine iK gt_low (λw1 hC1 gw1=> ?_);rw[hc0]at hC1;have hG1:Grow w w1:=ae hC1.1;have ch1:=hC1.2;have hGF1:=gt_low.plain gw1;clear hC1;refine am (E:=EE [10])<|Mv O<|?_;refine fj gt_low (M:=c0.own) ch1.low O O ent10 O O hGF1 (Q:=GS c0 5#64 1) (λw' h g'=>hT w' g' (ch1.grow h)) (λw2a wa v g12 hm2 ga hq=> ?_);obtain ⟨d,m1,m2,rfl,cha,exa,hla,k1,k2⟩:=hq;have hGFa:=gt_low.plain ga;have hGa:Grow w wa:=hm2.grow0 (hG1.trans g12) how;rw[hcf,DV]at k1 k2;rw[hsd];have hm1:=iN _ _ k1;obtain ⟨m1ok,m1r,_⟩:=cha.ks m1 hm1;have m1l:=hla m1 hm1;have dcf:d.cf=cK:=exa.cf.trans hcf;have dsd:d.sd=1#64:=exa.sd.trans hsd;have dbc:d.bc=bc:=exa.bc.trans hbc;have d1:yr 1#64 1 0#64 m1:=(exa.doc _ _ k1).elim (λh=>by rw[<-hc0]at h;cases h) (λh=>by rw[hsd,hcf]at h;exact h)
 have d2:yr 1#64 1 1#64 m2:=(exa.doc _ _ k2).elim (λh=>by rw[<-hc0]at h;cases h) (λh=>by rw[hsd,hcf]at h;exact h)
 have hne:=zI d1 d2;have hvf:=C5 1#64 5#64 m1 m2 1;have bok:(BOV 1#64 5#64 m1 m2 1).Ok:=H9 m1ok;have bhd:(BOV 1#64 5#64 m1 m2 1).hd=HDV 1#64 5#64 Z0 (m1.rt 1) (m2.rt 1):=rfl;have bnw:(BOV 1#64 5#64 m1 m2 1).nw=m1:=rfl;have qK:=exa.nK;have qS:=exa.nS;have qA:=exa.nA;have zK:c0.nK=0:=by rw[<-hc0];rfl
 have zS:c0.nS=0:=by rw[<-hc0];rfl
 have zA:c0.ats.length=0:=by rw[<-hc0];rfl
 have hTr: ∀w',Grow wa w'->Gt w'->CLS 11 [pnt bc,U64 5#64].toArray w' (λe w''=>e=.returned (.agg ((HDV 1#64 5#64 Z0 (m1.rt 1) (m2.rt 1)).rt.map U8).toArray)/\Grow w' w''):=λw' h g'=>by have h1:=yw d 5#64 1 m1 m2 (by rw[dcf,DV];exact k1) (by rw[dcf,DV];exact k2) (by rw[dcf];rfl) aC om om om hla w' g' (cha.grow h);rw[dbc,dsd]at h1;exact h1
 obtain ⟨hr,hhr⟩: ∃x,(HDV 1#64 5#64 Z0 (m1.rt 1) (m2.rt 1)).rt=x:=⟨_,rfl⟩;have hrl:hr.length=32:=by rw[<-hhr];exact Hd.rt_len (rM _ _ (Co.rt_len _ _) (Co.rt_len _ _))
 rw[hhr]at hne hTr;rw[<-bhd]at hhr;have b5:(BOV 1#64 5#64 m1 m2 1).hd.s=5#64:=rfl;rw[show m1.rt 1=(BOV 1#64 5#64 m1 m2 1).nw.rt (BOV 1#64 5#64 m1 m2 1).nw.ks.length from by rw[bnw,m1l]]at hvf
 clear bhd;generalize BOV 1#64 5#64 m1 m2 1=bo at hvf bok bnw hhr b5⊢;subst bnw;have hB0:ld hr bo=0:=v4 (decide_eq_true hhr) hvf;have hB1:ld Z0 bo=230:=BJ (decide_eq_false (λh=>hne (hhr.symm.trans h)));have hcfg: ∀w',Grow wa w'->∀j v,cK.cs[j]? =some v->w'.cell? ((⟨bc,2,none⟩:Addr).add j)=some v:=λw' h j v hv=>by rw[Addr.add_mid,<-dbc];exact ((cha.grow h).oc.cell _).trans ((Cn.at_cf cha.cf j (by have:=(List.getElem?_eq_some_iff.1 hv).1;rwa [Cf.len ki]at this)).trans (by rw[dcf];exact hv))
 obtain ⟨st,hst⟩: ∃x:St,x=⟨bo.hd,bo.hd,bo.nw,Co0,none,0,0,0#64,0#64⟩:=⟨_,rfl⟩;have sok:st.Ok:=by rw[hst];exact ⟨bok.hd,bok.hd,bok.nw,jJ⟩
 have sf5:st.f.s=5#64:=by rw[hst];exact b5
 have hvb: ∀b x,VB st (mZ b x):=λb x=>by rw[hst];exact ⟨by show bo.nw.ks.length<=1000;omega,Nat.zero_le _,Nat.zero_le _,by show 1<=1000;decide⟩
 have hvm: ∀w' b x,Grow wa w'->w'.rangeAt b 0 [.bool x]->VM w' st (mZ b x):=λw' b x h hr=>by rw[hst];exact ⟨m1r.grow h,D6 _ _,D6 _ _,CellsAt.range hr⟩
 refine Al 2 hGFa Fz<|λb2=>ai 2 hGFa O O O sizeOf38 (Bo.len bok) O (Bo.one _) O<|aa<|Xp<|Fa 0 O underlying38 O sizeOf30<|az (cs:=bo.hd.cs) O isAgg30 sizeOf30 (Hd.len bok.hd) (λw' hw' j v hv=>by have:=(av (n:=2) O w' hw') _ v (Bo.at_hd j v hv);rwa [Nat.zero_add]at this) O O<|Fa 0 O underlying38 O sizeOf30<|az (cs:=bo.hd.cs) O isAgg30 sizeOf30 (Hd.len bok.hd) (λw' hw' j v hv=>by have:=(av (n:=2) O w' hw') _ v (Bo.at_hd j v hv);rwa [Nat.zero_add]at this) O O<|Fa 98 O underlying38 O sizeOf35<|az (cs:=bo.nw.cs) O isAgg35 sizeOf35 (Co.len bok.nw) (λw' hw' j v hv=>by have:=(av (n:=2) O w' hw') _ v (Bo.at_nw bok j v hv);rwa [Nat.zero_add]at this) O O<|ce (ps:=[(0,.tmp 11),(1,.tmp 13),(2,.tmp 15)]) (vs:=[.agg bo.hd.cs.toArray,.agg bo.hd.cs.toArray,.agg bo.nw.cs.toArray]) O (λw=>LX bo.hd bo.hd bo.nw bok.hd bok.hd bok.nw w) O O<|?_
 rw[<-hst];refine Al 3 hGFa zvSt<|λb3=>ai 3 hGFa O O O sizeOf53 (St.len sok) (St.len Hz) (St.one _) O<|aa<|Xp<|Al 4 hGFa zvUp<|λb4=>aa<|Xp<|iq 17 [.bool true] (ps:=[(0,.const (.bool true))]) hGFa O O O aC aC underlying65 sizeOf4 zeroValue4 O O O<|λb17=>Fa 597 O underlying71 O sizeOf69<|Fa 597 O underlying69 O sizeOf65<|cL 4 hGFa O O O sizeOf65 O (by rw[Up.len GD];decide) O<|?_
 rw[show Up0.cs.set 597 (.slice (spt b17) [Value.bool true].length [Value.bool true].length)=(UA b17).cs from Gl b17];refine aa<|Xp<|Fa 694 O underlying71 O sizeOf22<|cL 4 hGFa O O O sizeOf22 O (by rw[Up.len (u:=UA b17) ⟨gW,jJ,rfl,gW,rfl,⟨rfl⟩⟩];decide) O<|?_
 rw[show (UA b17).cs.set 694 _=(UB b17).cs from GW b17];refine Fa 0 O underlying71 O sizeOf30<|Fa 0 O underlying30 O sizeOf22<|cL 4 hGFa O O O sizeOf22 O (by rw[Up.len (u:=UB b17) ⟨gW,jJ,rfl,gW,rfl,⟨rfl⟩⟩];decide) O<|?_
 rw[show (UB b17).cs.set 0 _=(mZ b17 true).cs from HG b17];refine aa<|Xd []<|Mv O<|aW O O O<|Fa 2 O underlying61 O sizeOf50<|bB (cs:=cK.cs) O isAgg50 sizeOf50 (Cf.len ki) (λw' h=>hcfg w' (ae h)) O O<|aq 3 O O isAgg53 sizeOf53 (St.len sok) O O<|aq 4 O O isAgg71 sizeOf71 (Up.len (i6 b17 true)) O O<|Cc O ent25 (λw' hw' hG=>hR.vE cK st (mZ b17 true) 6#64 ki sok (i6 _ _) (hvb _ _) tc (by show 1≠0;decide) (by show 6#64<7#64;decide) w' hG (hvm w' b17 true (ae hw') (av (n:=17) O w' hw')))<|Asg O<|aa<|Xd []<|Mv O<|aW O O O<|Fa 2 O underlying61 O sizeOf50<|bB (cs:=cK.cs) O isAgg50 sizeOf50 (Cf.len ki) (λw' h=>hcfg w' (ae h)) O O<|aq 3 O O isAgg53 sizeOf53 (St.len sok) O O<|aq 4 O O isAgg71 sizeOf71 (Up.len (i6 b17 true)) O O<|Cc O ent25 (λw' hw' hG=>hR.vW cK st (mZ b17 true) 7#64 ki sok (i6 _ _) (hvb _ _) tc (by show 1≠0;decide) (by show¬7#64<7#64;decide) (by show 6#64<7#64;decide) (by show¬6#64<0#64;decide) (by rw[sf5,DV];exact cK_7) (by rw[sf5];show 5#64<6#64;decide) kr O kr kr O w' hG (hvm w' b17 true (ae hw') (av (n:=17) O w' hw')))<|Asg O<|aa<|Xp<|Fa 597 O underlying71 O sizeOf69<|Fa 597 O underlying69 O sizeOf65<|aU 4 O O (show (mZ b17 true).cs[597]? =some (.slice (spt b17) 1 1)from by kernel_rfl) isAgg65 O O<|Hh 0 O O underlying65 sizeOf4 O aC O O<|cL 17 hGFa O O O sizeOf4 O aC O<|?_
 rw[show [Value.bool true].set 0 (nrm (.bool false))=[Value.bool false]from O,JK b17];refine aa<|Xd []<|Mv O<|aW O O O<|Fa 2 O underlying61 O sizeOf50<|bB (cs:=cK.cs) O isAgg50 sizeOf50 (Cf.len ki) (λw' h=>hcfg w' (ae h)) O O<|Mv O<|Cc O ent11 (λw' hw' hG=>hTr w' (ae hw') hG)<|aq 2 O O isAgg38 sizeOf38 (Bo.len bok) O O<|Cc O ent14 (λw' hw' hG=>hR.beg cK hr bo ki hrl bok om w' hG (m1r.grow (ae hw')))<|?_;rw[show (bif cK.rt then ld hr bo else 210)=0 from by rw[tc,hB0];rfl]
 refine Bnb true O O (λ_=>cj _ 0 0) O<|Mv O<|Mv O<|aW O O O<|Fa 2 O underlying61 O sizeOf50<|bB (cs:=cK.cs) O isAgg50 sizeOf50 (Cf.len ki) (λw' h=>hcfg w' (ae h)) O O<|ce (ps:=[]) (vs:=[]) (v:=.agg (Z0.map U8).toArray) O (λw=>sA w) O O<|aq 2 O O isAgg38 sizeOf38 (Bo.len bok) O O<|Cc O ent14 (λw' hw' hG=>hR.beg cK Z0 bo ki O bok om w' hG (m1r.grow (ae hw')))<|?_;rw[show (bif cK.rt then ld Z0 bo else 210)=230 from by rw[tc,hB1];rfl]
 refine Bnb true O O (λ_=>cj _ 230 230) O<|Pk O O O<|Mv O<|Mv O<|Bnb true O O (λ_=>cj _ 233 233) O<|Pk O O O<|Mv O<|Mv O<|Bnb true O O (λ_=>cj _ 238 238) O<|Pk O O O<|Mv O<|Mv O<|aW O O O<|Fa 2 O underlying61 O sizeOf50<|bB (cs:=cK.cs) O isAgg50 sizeOf50 (Cf.len ki) (λw' h=>hcfg w' (ae h)) O O<|aq 3 O O isAgg53 sizeOf53 (St.len sok) O O<|aq 4 O O isAgg71 sizeOf71 (Up.len (i6 b17 false)) O O<|Cc O ent25 (λw' hw' hG=>hR.vF cK st (mZ b17 false) 7#64 ki sok (i6 _ _) (hvb _ _) tc O w' hG (hvm w' b17 false (ae hw') (av (n:=17) O w' hw')))<|Bnb true O O (λ_=>cj _ 232 232) O<|Pk O O O<|Mv O<|aq 4 O O isAgg71 sizeOf71 (Up.len (i6 b17 false)) O O<|Cc O ent19 (λw' hw' hG=>hR.isn (mZ b17 false) (i6 _ _) w' hG)<|?_;rw[show (mZ b17 false).isn=false from by kernel_rfl]
 refine bU O (λ_=>bM _) O O<|Pk O O O<|Mv O<|aq 3 O O isAgg53 sizeOf53 (St.len sok) O O<|Cc O ent23 (λw' hw' hG=>hR.kno st sok (by rw[hst];exact Nat.zero_le _) w' hG (by rw[hst];exact D6 _ _))<|?_
 rw[show (!oZ st.nx)=false from by rw[hst];kernel_rfl]
 refine bU O (λ_=>bM _) O O<|Pk O O O<|Asg O<|aa<|ao<|Rr<|?_;exact au O O (λw' hw'=>⟨rfl,hGa.trans (ae hw')⟩)
end
section
open Go.RowKit
open Sh
theorem K2(op:BinOp)(x y:Operand)(xs ys:Array Value)(w:World):(eqGuard op 36 x y (.agg xs) (.agg ys)).run prog w=.ok () w:=run_eqGuard_agg w op 36 x y xs ys kr
theorem LI(op:BinOp)(x y:Operand)(xs ys:Array Value)(w:World):(eqGuard op 64 x y (.agg xs) (.agg ys)).run prog w=.ok () w:=run_eqGuard_agg w op 64 x y xs ys kr
theorem B3(op:BinOp)(x y:Operand)(xs ys:Array Value)(w:World):(eqGuard op 33 x y (.agg xs) (.agg ys)).run prog w=.ok () w:=run_eqGuard_agg w op 33 x y xs ys kr
theorem Af:EqB prog 28 32 2:=Fu underlying28 underlying5 sizeOf5 isAgg5
theorem K4:EqB prog 36 160 3:=vK (k:=5) (n:=32) aC underlying36 isAgg28 sizeOf28 Af
theorem LR:EqB prog 64 192 3:=vK (k:=6) (n:=32) aC underlying64 isAgg28 sizeOf28 Af
theorem A6:EqB prog 33 48 2:=Fu underlying33 underlying5 sizeOf5 isAgg5
theorem zvT6(w:World):(zeroValue 64).run prog w=.ok (.agg ((Zs 192).map U8).toArray) w:=(zeroValue64 w).trans aE
theorem yN(w:World):(zeroValue 33).run prog w=.ok (.agg ((Zs 48).map U8).toArray) w:=(zeroValue33 w).trans aE
theorem Im{c:Co}{i:Nat}{x:By}(hx:c.ks[i]? =some x)(h:decide (x=(Zs 48))=false):oZ c=false:=by
 unfold oZ;rw[Bool.and_eq_false_iff];refine .inl (Bool.eq_false_iff.2 λh1=> ?_);have h2:=List.all_eq_true.1 h1 x (List.mem_of_getElem? hx);rw[h]at h2
 cases h2
theorem Ce{c:Co}(h: ∀j r,j<c.ks.length->c.ks[j]? =some r->r=(Zs 48)):oZ c=decide (c.sum=(Zs 48)):=by
 unfold oZ;rw[show c.ks.all (λk=>decide (k=(Zs 48)))=true from List.all_eq_true.2 λx hx=>by
  obtain ⟨j,hj,rfl⟩:=List.mem_iff_getElem.1 hx;exact decide_eq_true (h j _ hj (List.getElem?_eq_getElem hj)),Bool.true_and]
theorem St.at_nx{s:St}(k:s.Ok)(j:Nat)(v:Value)(h:s.nx.cs[j]? =some v):s.cs[245+j]? =some v:=by
 rw[St.cs,List.getElem?_append_right (by rw[Hd.len k.f];omega),Hd.len k.f,List.getElem?_append_right (by rw[Hd.len k.o];omega),Hd.len k.o,List.getElem?_append_right (by rw[Co.len k.nw];omega),Co.len k.nw,show 245+j-98-98-49=j from by omega,List.getElem?_append_left (List.getElem?_eq_some_iff.1 h).1];exact h
theorem St.at_nw{s:St}(k:s.Ok)(j:Nat)(v:Value)(h:s.nw.cs[j]? =some v):s.cs[196+j]? =some v:=by
 rw[St.cs,List.getElem?_append_right (by rw[Hd.len k.f];omega),Hd.len k.f,List.getElem?_append_right (by rw[Hd.len k.o];omega),Hd.len k.o,show 196+j-98-98=j from by omega,List.getElem?_append_left (List.getElem?_eq_some_iff.1 h).1];exact h
theorem tq(l:List Bool)(i:Nat)(b:Bool)(h:l[i]? =some b):onN (l.take (i+1))=onN (l.take i)+b.toNat:=by
 unfold onN;rw[List.take_add_one,h,List.filter_append,List.length_append]
 cases b<;>rfl
theorem A5(l:List Bool):onN l<=l.length:=List.length_filter_le _ _
end
section
open Go.RowKit
open Sh
theorem Up.at_bs{u:Up}(k:u.Ok):u.cs[597]? =some (.slice u.sy.ba u.sy.bs.length u.sy.bc):=Up.l6 k 0 _ O
theorem Up.at_ks{u:Up}(k:u.Ok):u.cs[98]? =some (.slice u.nx.ka u.nx.ks.length u.nx.kc):=Up.l2 k 0 _ O
def Bo0:Bo:=⟨Hdz,Co0,Zs 160⟩
theorem Gd:Bo0.Ok:=⟨gW,jJ,rfl⟩
theorem HA(w:World):(Instr.build 38 #[]).run prog w=.ok (.agg Bo0.cs.toArray) w:=
 cP (c:=Bo0.cs) (ps:= #[(0,98),(98,49),(147,160)]) (λw=>(zeroValue38 w).trans aE) underlying38 (λw=>by simp[sizeOf30,sizeOf35,sizeOf36]) [] O w
theorem rS(hR:RulesP)(c:Cf)(hc_:c.Ok)(u:Up)(hu:u.Ok)(s:St)(hs:s.Ok)(hb1:u.nx.ks.length<=4611686018427387904)(hb2:s.nx.ks.length<=1000000000000000000)(hb3:s.nw.ks.length<=1000000000000000000)(w:World)(hw:Gt w)(hm:VM w s u):CLS 6 [.agg c.cs.toArray,.agg u.cs.toArray,.agg s.cs.toArray].toArray w (λe w'=>e=.returned (.bool true)/\Grow w w'):=by
 refine Hf func6 O hw<|λhGF=>Xp<|Bx 3 hGF O<|λb3=>Bx 4 hGF O<|λb4=>Bx 5 hGF O<|λb5=>Asg O<|aa<|ah<|Xp<|Cc O ent8 (λw' _ hG=>Cu hR w' hG)<|bU O (λ_=>bM _) O O<|aa<|aH O<|aw<|ah<|Xp<|aq 3 O O isAgg50 sizeOf50 (Cf.len hc_) O O<|?_;rcases Bool.eq_false_or_eq_true (c.rt)with hr|hr
 ·refine Cbl true O ent16 (xe c hc_) (hr)<|Mv O<|Sk<|Sk<|Sk<|Sk<|Sk<|Pk O O O<|Mv O<|Sk<|Sk<|Sk<|Sk<|Sk<|Sk<|Sk<|Sk<|Sk<|Sk<|Sk<|Sk<|Sk<|Sk<|Sk<|Pk O O O<|aa<|aP O<|Xp<|Asg O<|aa<|ao<|Rr<|?_
  exact au O O (λw' hw'=>⟨rfl,ae hw'⟩)
 ·refine Cbl false O ent16 (xe c hc_) (hr)<|Mv O<|Fa 597 O underlying71 O sizeOf69<|Fa 597 O underlying69 O sizeOf65<|aU 4 O O (Up.at_bs hu) isAgg65 O O<|bv O (λ_=>aM underlying65 _ _ _ _) O O<|?_
  rcases Bool.eq_false_or_eq_true (decide ((u.sy.bs.length:Int)>40))with hq|hq
  ·refine Bnb true O O (λ_=>cQ _ (u.sy.bs.length:Int) 40) (hq)<|Pk O O O<|Mv O<|Sk<|Sk<|Sk<|Sk<|Sk<|Sk<|Sk<|Sk<|Sk<|Sk<|Sk<|Sk<|Sk<|Sk<|Sk<|Pk O O O<|aa<|aP O<|Xp<|Asg O<|aa<|ao<|Rr<|?_
   exact au O O (λw' hw'=>⟨rfl,ae hw'⟩)
  ·have hl1:=of_decide_eq_false hq
   refine Bnb false O O (λ_=>cQ _ (u.sy.bs.length:Int) 40) (hq)<|Pk O O O<|Mv O<|Fa 98 O underlying71 O sizeOf35<|Fa 98 O underlying35 O sizeOf31<|aU 4 O O (Up.at_ks hu) isAgg31 O O<|bv O (λ_=>aM underlying31 _ _ _ _) O O<|Fa 245 O underlying53 O sizeOf35<|Fa 245 O underlying35 O sizeOf31<|aU 5 O O (St.at_nx hs 0 (.slice s.nx.ka s.nx.ks.length s.nx.kc) O) isAgg31 O O<|bv O (λ_=>aM underlying31 _ _ _ _) O O<|Bnr (v:=I ((u.nx.ks.length:Int)+(s.nx.ks.length:Int))) O O (λ_=>ay _ _ _ aG)<|Fa 196 O underlying53 O sizeOf35<|Fa 196 O underlying35 O sizeOf31<|aU 5 O O (St.at_nw hs 0 (.slice s.nw.ka s.nw.ks.length s.nw.kc) O) isAgg31 O O<|bv O (λ_=>aM underlying31 _ _ _ _) O O<|Bnr (v:=I ((u.nx.ks.length:Int)+(s.nx.ks.length:Int)+(s.nw.ks.length:Int))) O O (λ_=>ay _ _ _ aG)<|?_;rcases Bool.eq_false_or_eq_true (decide ((u.nx.ks.length:Int)+(s.nx.ks.length:Int)+(s.nw.ks.length:Int)>60))with hp|hp
   ·refine Bnb true O O (λ_=>cQ _ ((u.nx.ks.length:Int)+(s.nx.ks.length:Int)+(s.nw.ks.length:Int)) 60) (hp)<|Pk O O O<|aa<|aP O<|Xp<|Asg O<|aa<|ao<|Rr<|?_
    exact au O O (λw' hw'=>⟨rfl,ae hw'⟩)
   ·have hl2:=of_decide_eq_false hp
    refine Bnb false O O (λ_=>cQ _ ((u.nx.ks.length:Int)+(s.nx.ks.length:Int)+(s.nw.ks.length:Int)) 60) (hp)<|Pk O O O<|aa<|aH O<|aw<|Xp<|aq 3 O O isAgg50 sizeOf50 (Cf.len hc_) O O<|aq 5 O O isAgg53 sizeOf53 (St.len hs) O O<|aq 4 O O isAgg71 sizeOf71 (Up.len hu) O O<|Cc O ent25 (λw' hw' hG=>hR.vS c s u 9#64 hc_ hs hu ⟨om,om,om,om⟩ hr w' hG ⟨hm.1.grow (ae hw'),hm.2.1.grow (ae hw'),hm.2.2.1.grow (ae hw'),hm.2.2.2.grow (ae hw')⟩)<|Bnb true O O (λ_=>cj _ 210 210) O<|Mv O<|aq 3 O O isAgg50 sizeOf50 (Cf.len hc_) O O<|ce (ps:=[]) (vs:=[]) (v:=.agg (Z0.map U8).toArray) O (λw=>sA w) O O<|ce (ps:=[]) (vs:=[]) (v:=.agg Bo0.cs.toArray) O (λw=>HA w) O O<|Cc O ent14 (λw' hw' hG=>hR.beg c Z0 Bo0 hc_ O Gd (Nat.zero_le _) w' hG (D6 _ _))<|?_;rw[show (bif c.rt then ld Z0 Bo0 else 210)=210 from by rw[hr];rfl]
    refine Bnb true O O (λ_=>cj _ 210 210) O<|Pk O O O<|Asg O<|aa<|ao<|Rr<|?_;exact au O O (λw' hw'=>⟨rfl,ae hw'⟩)
end
section
open Go.RowKit
open Sh
theorem ent181:aJ prog 181:=λ_ _=>kr
theorem ent148:aJ prog 148:=λ_ _=>kr
theorem ent180:aJ prog 180:=λ_ _=>kr
theorem ent179:aJ prog 179:=λ_ _=>kr
theorem ent147:aJ prog 147:=λ_ _=>kr
theorem i4{P:Program}{G:Cls}{ro:Option Nat}{ops:Array Oper}{N:Nat}{ds:List Deferred}{fs:List Nat}{Z:Fr->Cls->Prop}{F:Fr}{C:Cls}{rest:List Oper}{d:Nat}{ty:TypeId}{pos:String}{af:Array Edge}{gd:Option (Nat×Bool)}{t:TypeId}{x ix:Operand}{s:ByteArray}{y:BitVec 64}(hb:y.toNat<256)(hT:yH s=true)(hx:evF F x=some (.string s))(hi:evF F ix=some (U8 (y.setWidth 8)))(hu:P.underlying t=some .string)
 (hw:bf ops F ⟨some d,.index t x ix,ty,pos,af,gd⟩=some true) (hd:Nat.blt d N=true) (h: ∀q:BitVec 8,IsL y.toNat q.toNat->Lx P G ro ops N ds (EE fs) Z rest ((d,U8 q)::F) C):Lx P G ro ops N ds (EE fs) Z (⟨some d,.index t x ix,ty,pos,af,gd⟩::rest) F C:=by
 obtain ⟨q,hq,hL⟩:=xw hT hb;have e:(y.setWidth 8).toNat=y.toNat:=by rw[BitVec.toNat_setWidth,Nat.mod_eq_of_lt hb]
 exact CF hx hi hu om (by rw[Int.toNat_natCast,e];exact hq) hw hd (h q hL)
theorem sY(x:BitVec 64)(w:World)(hw:Gt w):CLS 181 [U64 x].toArray w (λe w'=>e=.returned (I (ln x.toNat:Int))/\Grow w w'):=by
 have hS: ∀k,IsL x.toNat k->IsL x.toNat (k+0):=λk hk=>hk;have hb:x.toNat<4294967296*4294967296:=x.isLt;refine Hf func181 O hw<|λhGF=>Xp<|Asg O<|aa<|ah<|Xp<|Mv O<|?_;rcases Nat.lt_or_ge x.toNat 4294967296 with h|h
 ·have hb:=h
  refine Bnb false O O (λ_=>bO _ _ _) (by rw[decide_eq_false_iff_not,BitVec.le_def];exact Nat.not_le.2 h)<|aa<|aH O<|aw<|ah<|Xp<|Mv O<|?_
  rcases Nat.lt_or_ge x.toNat 65536 with h|h
  ·have hb:=h
   refine Bnb false O O (λ_=>bO _ _ _) (by rw[decide_eq_false_iff_not,BitVec.le_def];exact Nat.not_le.2 h)<|aa<|aH O<|aw<|ah<|Xp<|Mv O<|?_
   rcases Nat.lt_or_ge x.toNat 256 with h|h
   ·have hb:=h
    refine Bnb false O O (λ_=>bO _ _ _) (by rw[decide_eq_false_iff_not,BitVec.le_def];exact Nat.not_le.2 h)<|aa<|aH O<|aw<|Xp<|Mv O<|Mv O<|bI O O (λ_=>bZ underlying22 underlying5 _) O O<|?_
    refine i4 hb kr O O underlying9 O O (λq hL=> ?_);refine bI O O (λ_=>fP underlying5 underlying3 _) O O<|Bnr (v:=I (ln x.toNat:Int)) O O (λ_=>(ay _ _ _ (by have:=q.isLt;unfold inI;omega)).trans (by rw[(hS _ hL).eq];congr 2;omega))<|Asg O<|aa<|ao<|Rr<|?_
    exact au O O (λw' hw'=>⟨rfl,ae hw'⟩)
   ·obtain ⟨y3,hy⟩: ∃y:BitVec 64,x>>>8=y:=⟨_,rfl⟩
    have hn:y3.toNat=x.toNat / 2^8:=by rw[<-hy,BitVec.toNat_ushiftRight,Nat.shiftRight_eq_div_pow]
    have hS: ∀k,IsL y3.toNat k->IsL x.toNat (k+8):=λk hk=>by have:=hS _ (IsL.shift 8 (hn▸hk) h);rw[Nat.add_assoc]at this;exact this
    have hb:y3.toNat<256:=by rw[hn];exact (Nat.div_lt_iff_lt_mul aC).2 hb
    clear hn;refine Bnb true O O (λ_=>bO _ _ _) (by rw[decide_eq_true_eq,BitVec.le_def];exact h)<|aa<|aP O<|Xp<|Mv O<|Bnr (v:=U64 y3) O O (λ_=>(cB _ _ 8#64).trans (by rw[show (8#64).toNat=8 from O,hy]))<|Asg O<|aa<|Xq<|Mv O<|Bnr (v:=I 8) O O (λ_=>(ay _ _ _ (by unfold inI;decide)).trans aE)<|Asg O<|aa<|Xp<|Mv O<|Mv O<|bI O O (λ_=>bZ underlying22 underlying5 _) O O<|?_
    refine i4 hb kr O O underlying9 O O (λq hL=> ?_);refine bI O O (λ_=>fP underlying5 underlying3 _) O O<|Bnr (v:=I (ln x.toNat:Int)) O O (λ_=>(ay _ _ _ (by have:=q.isLt;unfold inI;omega)).trans (by rw[(hS _ hL).eq];congr 2;omega))<|Asg O<|aa<|ao<|Rr<|?_
    exact au O O (λw' hw'=>⟨rfl,ae hw'⟩)
  ·obtain ⟨y2,hy⟩: ∃y:BitVec 64,x>>>16=y:=⟨_,rfl⟩
   have hn:y2.toNat=x.toNat / 2^16:=by rw[<-hy,BitVec.toNat_ushiftRight,Nat.shiftRight_eq_div_pow]
   have hS: ∀k,IsL y2.toNat k->IsL x.toNat (k+16):=λk hk=>by have:=hS _ (IsL.shift 16 (hn▸hk) h);rw[Nat.add_assoc]at this;exact this
   have hb:y2.toNat<65536:=by rw[hn];exact (Nat.div_lt_iff_lt_mul aC).2 hb
   clear hn;refine Bnb true O O (λ_=>bO _ _ _) (by rw[decide_eq_true_eq,BitVec.le_def];exact h)<|aa<|aP O<|Xp<|Mv O<|Bnr (v:=U64 y2) O O (λ_=>(cB _ _ 16#64).trans (by rw[show (16#64).toNat=16 from O,hy]))<|Asg O<|aa<|Xq<|Mv O<|Bnr (v:=I 16) O O (λ_=>(ay _ _ _ (by unfold inI;decide)).trans aE)<|Asg O<|aa<|ah<|Xp<|Mv O<|?_
   rcases Nat.lt_or_ge y2.toNat 256 with h|h
   ·have hb:=h
    refine Bnb false O O (λ_=>bO _ _ _) (by rw[decide_eq_false_iff_not,BitVec.le_def];exact Nat.not_le.2 h)<|aa<|aH O<|aw<|Xp<|Mv O<|Mv O<|bI O O (λ_=>bZ underlying22 underlying5 _) O O<|?_
    refine i4 hb kr O O underlying9 O O (λq hL=> ?_);refine bI O O (λ_=>fP underlying5 underlying3 _) O O<|Bnr (v:=I (ln x.toNat:Int)) O O (λ_=>(ay _ _ _ (by have:=q.isLt;unfold inI;omega)).trans (by rw[(hS _ hL).eq];congr 2;omega))<|Asg O<|aa<|ao<|Rr<|?_
    exact au O O (λw' hw'=>⟨rfl,ae hw'⟩)
   ·obtain ⟨y3,hy⟩: ∃y:BitVec 64,y2>>>8=y:=⟨_,rfl⟩
    have hn:y3.toNat=y2.toNat / 2^8:=by rw[<-hy,BitVec.toNat_ushiftRight,Nat.shiftRight_eq_div_pow]
    have hS: ∀k,IsL y3.toNat k->IsL x.toNat (k+24):=λk hk=>by have:=hS _ (IsL.shift 8 (hn▸hk) h);rw[Nat.add_assoc]at this;exact this
    have hb:y3.toNat<256:=by rw[hn];exact (Nat.div_lt_iff_lt_mul aC).2 hb
    clear hn;refine Bnb true O O (λ_=>bO _ _ _) (by rw[decide_eq_true_eq,BitVec.le_def];exact h)<|aa<|aP O<|Xp<|Mv O<|Bnr (v:=U64 y3) O O (λ_=>(cB _ _ 8#64).trans (by rw[show (8#64).toNat=8 from O,hy]))<|Asg O<|aa<|Xq<|Mv O<|Bnr (v:=I 24) O O (λ_=>(ay _ _ _ (by unfold inI;decide)).trans aE)<|Asg O<|aa<|Xp<|Mv O<|Mv O<|bI O O (λ_=>bZ underlying22 underlying5 _) O O<|?_
    refine i4 hb kr O O underlying9 O O (λq hL=> ?_);refine bI O O (λ_=>fP underlying5 underlying3 _) O O<|Bnr (v:=I (ln x.toNat:Int)) O O (λ_=>(ay _ _ _ (by have:=q.isLt;unfold inI;omega)).trans (by rw[(hS _ hL).eq];congr 2;omega))<|Asg O<|aa<|ao<|Rr<|?_
    exact au O O (λw' hw'=>⟨rfl,ae hw'⟩)
 ·obtain ⟨y1,hy⟩: ∃y:BitVec 64,x>>>32=y:=⟨_,rfl⟩
  have hn:y1.toNat=x.toNat / 2^32:=by rw[<-hy,BitVec.toNat_ushiftRight,Nat.shiftRight_eq_div_pow]
  have hS: ∀k,IsL y1.toNat k->IsL x.toNat (k+32):=λk hk=>by have:=hS _ (IsL.shift 32 (hn▸hk) h);rw[Nat.add_assoc]at this;exact this
  have hb:y1.toNat<4294967296:=by rw[hn];exact (Nat.div_lt_iff_lt_mul aC).2 hb
  clear hn;refine Bnb true O O (λ_=>bO _ _ _) (by rw[decide_eq_true_eq,BitVec.le_def];exact h)<|aa<|aP O<|Xp<|Mv O<|Bnr (v:=U64 y1) O O (λ_=>(cB _ _ 32#64).trans (by rw[show (32#64).toNat=32 from O,hy]))<|Asg O<|aa<|Xq<|Asg O<|aa<|ah<|Xp<|Mv O<|?_
  rcases Nat.lt_or_ge y1.toNat 65536 with h|h
  ·have hb:=h
   refine Bnb false O O (λ_=>bO _ _ _) (by rw[decide_eq_false_iff_not,BitVec.le_def];exact Nat.not_le.2 h)<|aa<|aH O<|aw<|ah<|Xp<|Mv O<|?_
   rcases Nat.lt_or_ge y1.toNat 256 with h|h
   ·have hb:=h
    refine Bnb false O O (λ_=>bO _ _ _) (by rw[decide_eq_false_iff_not,BitVec.le_def];exact Nat.not_le.2 h)<|aa<|aH O<|aw<|Xp<|Mv O<|Mv O<|bI O O (λ_=>bZ underlying22 underlying5 _) O O<|?_
    refine i4 hb kr O O underlying9 O O (λq hL=> ?_);refine bI O O (λ_=>fP underlying5 underlying3 _) O O<|Bnr (v:=I (ln x.toNat:Int)) O O (λ_=>(ay _ _ _ (by have:=q.isLt;unfold inI;omega)).trans (by rw[(hS _ hL).eq];congr 2;omega))<|Asg O<|aa<|ao<|Rr<|?_
    exact au O O (λw' hw'=>⟨rfl,ae hw'⟩)
   ·obtain ⟨y3,hy⟩: ∃y:BitVec 64,y1>>>8=y:=⟨_,rfl⟩
    have hn:y3.toNat=y1.toNat / 2^8:=by rw[<-hy,BitVec.toNat_ushiftRight,Nat.shiftRight_eq_div_pow]
    have hS: ∀k,IsL y3.toNat k->IsL x.toNat (k+40):=λk hk=>by have:=hS _ (IsL.shift 8 (hn▸hk) h);rw[Nat.add_assoc]at this;exact this
    have hb:y3.toNat<256:=by rw[hn];exact (Nat.div_lt_iff_lt_mul aC).2 hb
    clear hn;refine Bnb true O O (λ_=>bO _ _ _) (by rw[decide_eq_true_eq,BitVec.le_def];exact h)<|aa<|aP O<|Xp<|Mv O<|Bnr (v:=U64 y3) O O (λ_=>(cB _ _ 8#64).trans (by rw[show (8#64).toNat=8 from O,hy]))<|Asg O<|aa<|Xq<|Mv O<|Bnr (v:=I 40) O O (λ_=>(ay _ _ _ (by unfold inI;decide)).trans aE)<|Asg O<|aa<|Xp<|Mv O<|Mv O<|bI O O (λ_=>bZ underlying22 underlying5 _) O O<|?_
    refine i4 hb kr O O underlying9 O O (λq hL=> ?_);refine bI O O (λ_=>fP underlying5 underlying3 _) O O<|Bnr (v:=I (ln x.toNat:Int)) O O (λ_=>(ay _ _ _ (by have:=q.isLt;unfold inI;omega)).trans (by rw[(hS _ hL).eq];congr 2;omega))<|Asg O<|aa<|ao<|Rr<|?_
    exact au O O (λw' hw'=>⟨rfl,ae hw'⟩)
  ·obtain ⟨y2,hy⟩: ∃y:BitVec 64,y1>>>16=y:=⟨_,rfl⟩
   have hn:y2.toNat=y1.toNat / 2^16:=by rw[<-hy,BitVec.toNat_ushiftRight,Nat.shiftRight_eq_div_pow]
   have hS: ∀k,IsL y2.toNat k->IsL x.toNat (k+48):=λk hk=>by have:=hS _ (IsL.shift 16 (hn▸hk) h);rw[Nat.add_assoc]at this;exact this
   have hb:y2.toNat<65536:=by rw[hn];exact (Nat.div_lt_iff_lt_mul aC).2 hb
   clear hn;refine Bnb true O O (λ_=>bO _ _ _) (by rw[decide_eq_true_eq,BitVec.le_def];exact h)<|aa<|aP O<|Xp<|Mv O<|Bnr (v:=U64 y2) O O (λ_=>(cB _ _ 16#64).trans (by rw[show (16#64).toNat=16 from O,hy]))<|Asg O<|aa<|Xq<|Mv O<|Bnr (v:=I 48) O O (λ_=>(ay _ _ _ (by unfold inI;decide)).trans aE)<|Asg O<|aa<|ah<|Xp<|Mv O<|?_
   rcases Nat.lt_or_ge y2.toNat 256 with h|h
   ·have hb:=h
    refine Bnb false O O (λ_=>bO _ _ _) (by rw[decide_eq_false_iff_not,BitVec.le_def];exact Nat.not_le.2 h)<|aa<|aH O<|aw<|Xp<|Mv O<|Mv O<|bI O O (λ_=>bZ underlying22 underlying5 _) O O<|?_
    refine i4 hb kr O O underlying9 O O (λq hL=> ?_);refine bI O O (λ_=>fP underlying5 underlying3 _) O O<|Bnr (v:=I (ln x.toNat:Int)) O O (λ_=>(ay _ _ _ (by have:=q.isLt;unfold inI;omega)).trans (by rw[(hS _ hL).eq];congr 2;omega))<|Asg O<|aa<|ao<|Rr<|?_
    exact au O O (λw' hw'=>⟨rfl,ae hw'⟩)
   ·obtain ⟨y3,hy⟩: ∃y:BitVec 64,y2>>>8=y:=⟨_,rfl⟩
    have hn:y3.toNat=y2.toNat / 2^8:=by rw[<-hy,BitVec.toNat_ushiftRight,Nat.shiftRight_eq_div_pow]
    have hS: ∀k,IsL y3.toNat k->IsL x.toNat (k+56):=λk hk=>by have:=hS _ (IsL.shift 8 (hn▸hk) h);rw[Nat.add_assoc]at this;exact this
    have hb:y3.toNat<256:=by rw[hn];exact (Nat.div_lt_iff_lt_mul aC).2 hb
    clear hn;refine Bnb true O O (λ_=>bO _ _ _) (by rw[decide_eq_true_eq,BitVec.le_def];exact h)<|aa<|aP O<|Xp<|Mv O<|Bnr (v:=U64 y3) O O (λ_=>(cB _ _ 8#64).trans (by rw[show (8#64).toNat=8 from O,hy]))<|Asg O<|aa<|Xq<|Mv O<|Bnr (v:=I 56) O O (λ_=>(ay _ _ _ (by unfold inI;decide)).trans aE)<|Asg O<|aa<|Xp<|Mv O<|Mv O<|bI O O (λ_=>bZ underlying22 underlying5 _) O O<|?_
    refine i4 hb kr O O underlying9 O O (λq hL=> ?_);refine bI O O (λ_=>fP underlying5 underlying3 _) O O<|Bnr (v:=I (ln x.toNat:Int)) O O (λ_=>(ay _ _ _ (by have:=q.isLt;unfold inI;omega)).trans (by rw[(hS _ hL).eq];congr 2;omega))<|Asg O<|aa<|ao<|Rr<|?_
    exact au O O (λw' hw'=>⟨rfl,ae hw'⟩)
theorem Lf(n:Nat):IsL n (ln n):=by
 unfold ln;by_cases h0:n=0
 ·rw[if_pos h0];exact ⟨om,λe he=>om⟩
 ·rw[if_neg h0]
  exact ⟨(Nat.log2_lt h0).1 (Nat.lt_succ_self _),λe he=>(Nat.le_log2 h0).1 om⟩
theorem H3(n:Nat):dep n=min (ln (n-1)) 62:=by
 have h:=Lf (n-1);refine (uN om ?_ (λe he=>by have:=h.2 e om;have:=Nat.two_pow_pos e;omega)).symm
 rcases Nat.le_total (ln (n-1)) 62 with h6|h6
 ·rw[Nat.min_eq_left h6];exact .inr (by have:=h.1;omega)
 ·rw[Nat.min_eq_right h6];exact .inl O
theorem qV(n:Int)(hn:n<9223372036854775808)(w:World)(hw:Gt w):CLS 148 [I n].toArray w (λe w'=>e=.returned (I (dep n.toNat:Nat))/\Grow w w'):=by
 refine Hf func148 O hw<|λhGF=>Xp<|Asg O<|aa<|Xp<|Mv O<|uU (z:=(if n<1 then (1:Int)else n)) O O O O O<|Bnr (v:=I (((n.toNat-1:Nat):Int))) O O (λ_=>(bu _ _ _ (by unfold inI;split<;>omega)).trans (by congr 2;split<;>omega))<|bI O O (λ_=>dp underlying3 underlying22 _) O O<|Cc O ent181 (λw' _ hG=>sY _ w' hG)<|?_
 rw[BitVec.toNat_ofInt,show ((((n.toNat-1:Nat):Int) % ((2^64:Nat):Int)).toNat)=n.toNat-1 from by omega]
 refine j3 (z:=(dep n.toNat:Int)) O O (by rw[H3];split<;>omega) O O<|Asg O<|aa<|ao<|Rr<|?_
 exact au O O (λw' hw'=>⟨rfl,ae hw'⟩)
end
section
open Go.RowKit
open Sh
theorem ent114:aJ prog 114:=λ_ _=>kr
abbrev LC(a:Option Addr)(len cap:Nat)(r:Rt):List Value:=.slice a len cap::r.map U8
abbrev LV(a:Option Addr)(len cap:Nat)(r:Rt):Value:=.agg (LC a len cap r).toArray
theorem e8{a:Option Addr}{len cap:Nat}{r:Rt}(hr:r.length=32):(LC a len cap r).length=33:=by rw[LC,List.length_cons,List.length_map,hr]
theorem pG(a:Option Addr)(len cap:Nat)(r:Rt):(LC a len cap r).all (·.oneCell')=true:=by
 rw[LC,List.all_cons,bp];rfl
theorem zvL(w:World):(zeroValue 239).run prog w=.ok (LV none 0 0 Z0) w:=(zeroValue239 w).trans aE
theorem Ju(a:Option Addr)(len cap:Nat)(w:World):(Instr.build 239 #[(0,.slice a len cap)]).run prog w=.ok (LV a len cap Z0) w:=
 cP (c:=LC none 0 0 Z0) zvL underlying239 (lS O O sizeOf86 sizeOf27) [(0,.slice a len cap)] (by
  rw[lI (vs:=[.slice a len cap]) (off:=0) (size:=1) O O O (by show 1<=33;decide)]
  rfl) w
theorem EH(a:Option Addr)(len cap:Nat)(r:Rt)(hr:r.length=32)(w:World):(Instr.build 239 #[(0,.slice a len cap),(1,.agg (r.map U8).toArray)]).run prog w=.ok (LV a len cap r) w:=
 cP (c:=LC none 0 0 Z0) zvL underlying239 (lS O O sizeOf86 sizeOf27) [(0,.slice a len cap),(1,.agg (r.map U8).toArray)] (by
  rw[lI (vs:=[.slice a len cap]) (off:=0) (size:=1) O O O (by show 1<=33;decide),lI (vs:=r.map U8) (off:=1) (size:=32) O O (by rw[List.length_map,hr]) (by rw[List.length_map,hr];show 33<=33;decide),List.length_map,hr]
  simp[Instr.fill,Z0]) w
theorem lq{w:World}{b:Nat}{x:Value}{cs:List Value}(h:w.rangeAt b 0 (x::cs)):w.rangeAt b 1 cs:=λj v hv=>by
 have:=h (j+1) v (by simpa using hv)
 rw[show 0+(j+1)=1+j from by omega]at this
 exact this
theorem se{n:Nat}(h:n<=1000000):(BitVec.ofInt 64 (n:Int)).toNat=n:=by rw[BitVec.toNat_ofInt];omega
theorem tS{l:List Rt}{r:Rt}(hl:AllR l)(hr:r.length=32)(i:Nat):(l.getD i r).length=32:=by
 rw[List.getD_eq_getElem?_getD]
 cases h:l[i]? with
 |none=>exact hr
 |some x=>exact hl x (List.mem_of_getElem? h)
theorem yY{r:Rt}{l:List Rt}(k:Nat):AllR (UpK P2 r l k):=Dl P2 (Q:=λx=>x.length=32) da r l k
theorem rQ{l:List Rt}(hl:AllR l): ∀h,AllR (lev P2 Z0 h l)
 |0=>hl
 |_+1=>yY _
theorem pH(l:List Rt)(hl:AllR l)(hn:l.length<=65536)(r:Rt)(hr:r.length=32)(a:Option Addr)(cap:Nat)(x:BitVec 64)(w:World)(hw:Gt w)(ha:RtsAt w a l):CLS 180 [LV a l.length cap r,U64 x].toArray w (λe w'=>e=.returned (.agg ((l.getD x.toNat r).map U8).toArray)/\Grow w w'):=by
 refine Hf func180 O hw<|λhGF=>Xp<|Bx 2 hGF O<|λb2=>Al 4 hGF zv27<|λb4=>aa<|ah<|Xp<|Mv O<|Fa 0 O underlying239 O sizeOf86<|aU 2 O O O isAgg86 O O<|bv O (λ_=>aM underlying86 _ _ _ _) O O<|bI O O (λ_=>dp underlying3 underlying22 _) O O<|?_;rcases Nat.lt_or_ge x.toNat l.length with h|h
 ·obtain ⟨y,hxy⟩: ∃y,l[x.toNat]? =some y:=⟨_,List.getElem?_eq_getElem h⟩
  have hy:y.length=32:=hl y (List.mem_of_getElem? hxy);obtain ⟨ad,rfl,hc⟩:=ha x.toNat y hxy;have hR:l.getD x.toNat r=y:=by rw[List.getD_eq_getElem?_getD,hxy];rfl
  refine Bnb true O O (λ_=>eN _ _ _) (by rw[decide_eq_true_eq,BitVec.lt_def,se om];exact h)<|aa<|aP O<|Xp<|Fa 0 O underlying239 O sizeOf86<|aU 2 O O O isAgg86 O O<|Mv O<|zd 32 O O underlying86 sizeOf27 h O O<|bB (cs:=y.map U8) O isAgg27 sizeOf27 (by rw[List.length_map];exact hy) (λw' h j v hv=>((ae h).cell (block_lt_of_cell (hc j v hv))).trans (hc j v hv)) O O<|ai 4 hGF O O O sizeOf27 (by rw[List.length_map];exact hy) (by rw[List.length_map];exact cH) (bp _) O<|aa<|ao<|Rr<|?_
  exact aF 4 O O O isAgg27 sizeOf27 (by rw[List.length_map];exact hy) (λw' hw'=>⟨by rw[hR],ae hw'⟩)
 ·have hR:l.getD x.toNat r=r:=ou r h
  refine Bnb false O O (λ_=>eN _ _ _) (by rw[decide_eq_false_iff_not,BitVec.lt_def,se om];omega)<|aa<|aH O<|aw<|Xp<|Fa 1 O underlying239 O sizeOf27<|az (cs:=r.map U8) O isAgg27 sizeOf27 (by rw[List.length_map];exact hr) (λw' hw'=>lq (av (n:=2) O w' hw')) O O<|ai 4 hGF O O O sizeOf27 (by rw[List.length_map];exact hr) (by rw[List.length_map];exact cH) (bp _) O<|aa<|ao<|Rr<|?_
  exact aF 4 O O O isAgg27 sizeOf27 (by rw[List.length_map];exact hr) (λw' hw'=>⟨by rw[hR],ae hw'⟩)
theorem bv_n{n:Nat}(h:n<=1000000):BitVec.ofInt 64 (n:Int)=BitVec.ofNat 64 n:=by apply BitVec.eq_of_toNat_eq;rw[se h,BitVec.toNat_ofNat];omega
theorem nt{n:Nat}(h:n<=1000000):(BitVec.ofNat 64 n).toNat=n:=by rw[BitVec.toNat_ofNat];omega
theorem wG{n:Nat}(h:n<=1000000):(BitVec.ofNat 64 n / 2#64+BitVec.ofNat 64 n % 2#64).toNat=(n+1) / 2:=by
 rw[BitVec.toNat_add,BitVec.toNat_udiv,BitVec.toNat_umod,nt h];show (n / 2+n % 2) % 18446744073709551616=_;omega
theorem zm{n:Nat}:BitVec.ofNat 64 n+1#64=BitVec.ofNat 64 (n+1):=by rw[BitVec.ofNat_add]
theorem BQ{n:Nat}:BitVec.ofNat 64 n+2#64=BitVec.ofNat 64 (n+2):=by rw[BitVec.ofNat_add]
structure UpS(r:Rt)(l:List Rt) where
 (k b cap:Nat) (c:List Value)
 hk:k<=((l.length+1) / 2)
 hc:c.length=cap*32
 hn:k<=cap
 ht:c.take (32*k)=(UpK P2 r l k).flatten.map U8
theorem Bg{r:Rt}{l:List Rt}(k:Nat):((UpK P2 r l k).flatten.map U8).length=k*32:=by rw[List.length_map,cR _ (yY k),lZ,Nat.mul_comm]
theorem vM{r:Rt}{l:List Rt}{k:Nat}:(UpK P2 r l (k+1)).flatten.map U8=(UpK P2 r l k).flatten.map U8++(P2 (l.getD (2*k) r) (l.getD (2*k+1) r)).map U8:=by
 rw[BE,List.flatten_append,List.map_append];simp
theorem Fy{s:Nat}{x:L8}(hx:x.length=s):RW s (λ_=>x) 1=x:=by
 rw[n9 (λ_=>x) 0 hx,show RW s (λ_=>x) 0=[]from by simp[RW],List.nil_append]
def UpR(w w':World)(v:Value)(l:List Rt)(r:Rt):Prop:= ∃b c cap,v=LV (spt b) l.length cap r/\w.heap.size<=b/\OwnB w' b c 27/\c.take (32*l.length)=l.flatten.map U8
theorem Aw(l:List Rt)(hl:AllR l)(hn:l.length<=65536)(r:Rt)(hr:r.length=32)(a:Option Addr)(cap:Nat)(w:World)(hw:Gt w)(ha:RtsAt w a l):CLS 179 [LV a l.length cap r].toArray w (λe w'=> ∃v,e=.returned v/\Grow w w'/\UpR w w' v (upL P2 r l) (P2 r r)):=by
 refine Hf func179 O hw<|λhGF=>Xp<|Bx 1 hGF O<|λb1=>Al 2 hGF zvL<|λb2=>aa<|Xp<|Fa 0 O underlying239 O sizeOf86<|aU 1 O O O isAgg86 O O<|bv O (λ_=>aM underlying86 _ _ _ _) O O<|bI (v:=U64 (BitVec.ofNat 64 l.length)) O O (λ_=>(dp underlying3 underlying22 _).trans (by rw[bv_n om])) O O<|Asg O<|aa<|?_
 refine H4 (ι:=Nat×Nat) (λz=>[(1,pnt b1),(2,pnt b2),(3,U64 (BitVec.ofNat 64 l.length)),(4,pnt z.2)]) (λz=>[(1,b1,LC a l.length cap r,239),(2,b2,LC none 0 0 Z0,239),(4,z.2,LC (spt z.1) 0 ((l.length+1) / 2) (P2 r r),239),(15,z.1,(List.replicate (32*((l.length+1) / 2)) 0#8).map U8,27)]) hGF ?_ ?_
 ·refine AQ (EE [2999995,2999999]) db kr kr<|bL (m:=4) [0,1,2,3,4,6,7,8,9,10] kr<|Mv O<|Bnr O O (λ_=>gS _ _ _ aC)<|Mv O<|Bnr O O (λ_=>fI _ _ _ aC)<|Bnr O O (λ_=>aO _ _ _)<|Fa 1 O underlying239 O sizeOf27<|az (cs:=r.map U8) O isAgg27 sizeOf27 (by rw[List.length_map];exact hr) (λw' hw'=>lq (av (n:=1) O w' hw')) O O<|Fa 1 O underlying239 O sizeOf27<|az (cs:=r.map U8) O isAgg27 sizeOf27 (by rw[List.length_map];exact hr) (λw' hw'=>lq (av (n:=1) O w' hw')) O O<|Cc O ent118 (λw' _ hG=>kC r r hr hr w' hG)<|?_
  rw[show SHA (r++r)=P2 r r from O];refine aa<|jl (m:=3) [5,12] kr kr aC<|?_;intro i hi;simp only[List.mem_cons,List.not_mem_nil,or_false]at hi;rcases hi with rfl|rfl
  ·exact tX (l:=0) (m:=((l.length+1) / 2)) (c:=(List.replicate (32*((l.length+1) / 2)) 0#8).map U8) 15 hGF O O O (wG om) (Nat.zero_le _) underlying86 tiR ⟨om,om,om⟩ (oE _) O O<|λb15=>aa<|bL (m:=2) [11] kr<|ce (ps:=[(0,.tmp 15),(1,.tmp 20)]) (vs:=[.slice (spt b15) 0 ((l.length+1) / 2),.agg ((P2 r r).map U8).toArray]) O (λw=>EH _ _ _ _ (da _ _) w) O O<|aa<|bL (m:=1) [12] kr<|mM 4 hGF zvL O O O<|λb4=>aa<|bL (m:=0) [13] kr<|ai 4 hGF O O O sizeOf239 (e8 (da _ _)) (e8 cH) (pG _ _ _ _) O<|aa<|fZ kr<|aV<|⟨rfl,(b15,b4),_,rfl,trv,trv⟩
  ·exact mM 4 hGF zvL O O O<|λb4=>aa<|bL (m:=2) [5] kr<|tX (l:=0) (m:=((l.length+1) / 2)) (c:=(List.replicate (32*((l.length+1) / 2)) 0#8).map U8) 15 hGF O O O (wG om) (Nat.zero_le _) underlying86 tiR ⟨om,om,om⟩ (oE _) O O<|λb15=>aa<|bL (m:=1) [11] kr<|ce (ps:=[(0,.tmp 15),(1,.tmp 20)]) (vs:=[.slice (spt b15) 0 ((l.length+1) / 2),.agg ((P2 r r).map U8).toArray]) O (λw=>EH _ _ _ _ (da _ _) w) O O<|aa<|bL (m:=0) [13] kr<|ai 4 hGF O O O sizeOf239 (e8 (da _ _)) (e8 cH) (pG _ _ _ _) O<|aa<|fZ kr<|aV<|⟨rfl,(b15,b4),_,rfl,trv,trv⟩
 ·rintro ⟨b15,b4⟩
  dsimp only;refine ah<|Xp<|Asg O<|aa<|ar<|bV (ι:=UpS r l) (λx=>[(1,pnt b1),(2,pnt b2),(3,U64 (BitVec.ofNat 64 l.length)),(4,pnt b4),(5,U64 (BitVec.ofNat 64 (2*x.k)))]) (λx=>[(1,b1,LC a l.length cap r,239),(2,b2,LC none 0 0 Z0,239),(4,b4,LC (spt x.b) x.k x.cap (P2 r r),239),(15,x.b,x.c,27)]) (λx=>((l.length+1) / 2)-x.k) ⟨0,b15,((l.length+1) / 2),(List.replicate (32*((l.length+1) / 2)) 0#8).map U8,Nat.zero_le _,by rw[List.length_map,List.length_replicate,Nat.mul_comm],Nat.zero_le _,aE⟩ hGF trv trv<|?_
  rintro ⟨k,bb,cp,c,hk,hc,hkc,ht⟩;dsimp only;refine ah<|Xp<|Mv O<|Mv O<|?_;rcases Nat.lt_or_ge (2*k) l.length with hlt|hge
  ·refine Bnb true O O (λ_=>eN _ _ _) (by rw[decide_eq_true_eq,BitVec.lt_def,nt om,nt om];exact hlt)<|aa<|aP O<|aw<|ah<|ar<|Xe [2999998]<|Fa 0 O underlying239 O sizeOf86<|aU 4 O O O isAgg86 O O<|aq 1 O O isAgg239 sizeOf239 (e8 hr) O O<|Mv O<|Cc O ent180 (λw' hw' hG=>pH l hl hn r hr a cap _ w' hG (ha.grow (ae hw')))<|?_
   rw[nt om];refine aq 1 O O isAgg239 sizeOf239 (e8 hr) O O<|Mv O<|Bnr (v:=U64 (BitVec.ofNat 64 (2*k+1))) O O (λ_=>(aO _ _ _).trans (by rw[zm]))<|Cc O ent180 (λw' hw' hG=>pH l hl hn r hr a cap _ w' hG (ha.grow (ae hw')))<|?_
   rw[nt om];refine Cc O ent118 (λw' _ hG=>kC _ _ (tS hl hr _) (tS hl hr _) w' hG) ?_;rw[show SHA (l.getD (2*k) r++l.getD (2*k+1) r)=(P2 (l.getD (2*k) r) (l.getD (2*k+1) r))from O];refine j4 (uf:=U8) (s:=32) 37 (λ_=>(P2 (l.getD (2*k) r) (l.getD (2*k+1) r))) (List.replicate 32 0#8) hGF O O O (λi hi=>da _ _) aC aC underlying86 sizeOf27 O zv27 O O ?_;intro b37;rw[Fy (da _ _)];refine lj (s:=32) (nx:=k) (ny:=1) (xs:=(UpK P2 r l k).flatten.map U8) (ys:=(P2 (l.getD (2*k) r) (l.getD (2*k+1) r)).map U8) 15 hGF O O underlying86 underlying86 tiR O (.inr ⟨bb,c,rfl,rfl,hc,hkc,Bg k,by rw[Bg,Nat.mul_comm];exact ht⟩) (by rw[List.length_map,da]) (λw' h=>av (n:=37) O w' h) (bp _) aC om om O O (λb9 c9 cap9 e9 l9 t9=> ?_)
   refine Fa 0 O underlying239 O sizeOf86<|cL 4 hGF O O O sizeOf86 O aB O<|aa<|Xq<|Mv O<|Bnr (v:=U64 (BitVec.ofNat 64 (2*(k+1)))) O O (λ_=>(aO _ _ _).trans (by rw[BQ];rfl))<|Asg O<|aa<|?_
   repeat (refine bh ?_)
   exact aV<|⟨rfl,⟨k+1,b9,cap9,c9,om,e9,l9,by rw[vM,<-t9,<-vM,Bg,Nat.mul_comm]⟩,_,by show ((l.length+1) / 2)-(k+1)<((l.length+1) / 2)-k;omega,rfl,trv,trv⟩
  ·obtain rfl:k=((l.length+1) / 2):=om
   refine Bnb false O O (λ_=>eN _ _ _) (by rw[decide_eq_false_iff_not,BitVec.lt_def,nt om,nt om];omega)<|aa<|aH O<|bj<|Xp<|aq 4 O O isAgg239 sizeOf239 (e8 (da _ _)) O O<|ai 2 hGF O O O sizeOf239 (e8 (da _ _)) (e8 cH) (pG _ _ _ _) O<|aa<|ao<|Rr<|?_
   exact aF 2 O O O isAgg239 sizeOf239 (e8 (da _ _)) (λw' hw'=>⟨_,rfl,ae hw',bb,c,cp,by rw[upL,lZ],(hw'.own 15 _ _ _ O).2.elim id False.elim,(hw'.own 15 _ _ _ O).1,by rw[upL,lZ];exact ht⟩)
end
section
open Go.RowKit
open Sh
structure TopS(w:World)(l:List Rt)(D b4 b5:Nat) where
 (h:Nat) (a:Option Addr) (cap:Nat) (own:Hl)
 hD:h<=D
 hR: ∀w',Hp (pl w) ((4,b4,Z0.map U8,27)::(5,b5,LC a (lev P2 Z0 h l).length cap (zrT P2 Z0 h),239)::own) w'->RtsAt w' a (lev P2 Z0 h l)
theorem Dt{n b:Nat}{c:List Value}{t:TypeId}{w w':World}(h1:w.heap.size<=b)(h2:OwnB w' b c t): ∀n' b' c' t',lkB [(n,b,c,t)] n'=some (b',c',t')->w.heap.size<=b'/\OwnB w' b' c' t':=λn' b' c' t' hl=>by
 rcases bx hl with ⟨_,e⟩|⟨_,hl⟩
 ·cases e;exact ⟨h1,h2⟩
 ·cases hl
theorem Js(h:Nat)(l:List Rt):lev P2 Z0 (h+1) l=upL P2 (zrT P2 Z0 h) (lev P2 Z0 h l):=rfl
theorem Ln(h:Nat):zrT P2 Z0 (h+1)=P2 (zrT P2 Z0 h) (zrT P2 Z0 h):=rfl
theorem xY(D:Nat)(hD64:D<=64)(l:List Rt)(hl:AllR l)(hn:l.length<=65536)(a:Option Addr)(cap:Nat)(w:World)(hw:Gt w)(ha:RtsAt w a l):CLS 147 [.slice a l.length cap,I (D:Int)].toArray w (λe w'=>e=.returned (.agg ((tre P2 Z0 D l).map U8).toArray)/\Grow w w'):=by
 refine Hf func147 O hw<|λhGF=>am (E:=EE [179])<|Al 4 hGF zv27<|λb4=>aa<|am (E:=EE [179])<|Mv O<|ce (ps:=[(0,.tmp 6)]) (vs:=[.slice a l.length cap]) O (λw=>Ju _ _ _ w) O O<|Al 5 hGF zvL<|λb5=>ai 5 hGF O O O sizeOf239 (e8 (cH)) (e8 (cH)) (pG _ _ _ _) O<|aa<|ah<|am (E:=EE [179])<|Mv O<|Mv O<|aa<|ar<|bV (ι:=TopS w l D b4 b5) (λx=>[(4,pnt b4),(5,pnt b5),(8,I (D:Int)),(9,I (x.h:Int))]) (λx=>(4,b4,Z0.map U8,27)::(5,b5,LC x.a (lev P2 Z0 x.h l).length x.cap (zrT P2 Z0 x.h),239)::x.own) (λx=>D-x.h) ⟨0,a,cap,[],Nat.zero_le _,λw' hw'=>ha.grow (ae hw')⟩ hGF trv trv<|?_;rintro ⟨h,a,cap,own,hD,hR⟩;dsimp only;refine am (E:=EE [179]) ?_;rcases Nat.lt_or_ge h D with hlt|hge
 ·refine Bnb true O O (λ_=>aI _ _ _) (by simp;omega)<|aa<|ah<|aP O<|aw<|ah<|ar<|cm (E:=EE [179])<|aq 5 O O isAgg239 sizeOf239 (e8 (fc _)) O O<|?_
  refine cw O O ent179 O O (λw' hw'=>(Aw _ (rQ hl h) (Nat.le_trans (qY P2 Z0 h l) hn) _ (fc h) _ _ w' (hGF.g _ _ _ hw') (hR w' hw')).mono λe1 w2 h9=> ?_);obtain ⟨_,rfl,hg,b9,c9,cap9,rfl,hb9,ho9,ht9⟩:=h9;rw[<-Js]at ht9⊢;rw[<-Ln];refine ⟨_,_,rfl,aT hGF,hw'.news aL hg [(12,b9,c9,27)] (Dt hb9 ho9) de, ?_⟩;clear hw' hg hb9 ho9;refine ai 5 hGF O O O sizeOf239 (e8 (fc _)) (e8 (fc _)) (pG _ _ _ _) O<|aa<|cm (E:=EE [179])<|Bnr (v:=I (((h+1:Nat):Int))) O O (λ_=>(ay _ _ _ aG).trans aE)<|Mv O<|aa<|?_
  repeat (refine bh ?_)
  exact aV<|⟨rfl,⟨h+1,some ⟨b9,0,none⟩,cap9,[(12,b9,c9,27)],hlt,λw' hw'=>nP (rQ hl (h+1)) (av (n:=12) O w' hw') ht9⟩,_,by show D-(h+1)<D-h;omega,rfl,trv,trv⟩
 ·obtain rfl:h=D:=om
  refine Bnb false O O (λ_=>aI _ _ _) (by rw[decide_eq_false_iff_not];omega)<|aa<|ah<|aH O<|bj<|am (E:=EE [179])<|aq 5 O O isAgg239 sizeOf239 (e8 (fc _)) O O<|Cc O ent180 (λw' hw' hG=>pH _ (rQ hl h) (Nat.le_trans (qY P2 Z0 h l) hn) _ (fc h) _ _ 0#64 w' hG (hR w' hw'))<|?_
  rw[show (0#64).toNat=0 from O,Di];refine ai 4 hGF O O O sizeOf27 (by rw[List.length_map];exact ct hl _) (by rw[List.length_map];exact cH) (bp _) O<|aa<|ao<|Rr<|?_
  exact aF 4 O O O isAgg27 sizeOf27 (by rw[List.length_map];exact ct hl _) (λw' hw'=>⟨rfl,ae hw'⟩)
theorem wX(n:Int)(h63:n<9223372036854775808)(l:List Rt)(hl:AllR l)(len:Nat)(hlen:l.length=len)(hln:len<=65536)(a:Option Addr)(cap:Nat)(hn: ¬n.toNat<len)(w:World)(hw:Gt w)(hr:RtsAt w a l):CLS 114 [.slice a len cap,I n].toArray w (λe w'=>e=.returned (.tuple #[.agg ((tre P2 Z0 (dep n.toNat) l).map U8).toArray,I 0])/\Grow w w'):=by
 refine Hf func114 O hw<|λhGF=>Xp<|Al 4 hGF zv27<|λb4=>Asg O<|aa<|Xp<|Mv O<|uU (z:=(if n<0 then (0:Int)else n)) O O O O O<|Asg O<|aa<|ah<|Xp<|Mv O<|bv O (λ_=>aM underlying86 _ _ _ _) O O<|Mv O<|Bnb false O O (λ_=>cQ _ _ _) (by rw[decide_eq_false_iff_not];split<;>omega)<|aa<|aH O<|aw<|Xp<|Mv O<|Mv O<|Cc O ent148 (λw' _ hG=>qV (if n<0 then (0:Int)else n) (by split<;>omega) w' hG)<|?_
 rw[show (if n<0 then (0:Int)else n).toNat=n.toNat from by split<;>omega]
 refine Cc O ent147 (λw' hw' hG=>by have:=xY (dep n.toNat) (by have:=(mX n.toNat).1;omega) l hl om a cap w' hG (hr.grow (ae hw'));rw[hlen]at this;exact this)<|ai 4 hGF O O O sizeOf27 (by rw[List.length_map];exact ct hl _) (by rw[List.length_map];exact cH) (bp _) O<|Asg O<|aa<|ao<|Rr<|?_
 exact cg 4 O O O O isAgg27 sizeOf27 (by rw[List.length_map];exact ct hl _) (λw' hw'=>⟨rfl,ae hw'⟩)
end
section
open Go.RowKit
open Sh
theorem ent117:aJ prog 117:=λ_ _=>kr
theorem ent149:aJ prog 149:=λ_ _=>kr
theorem ent81:aJ prog 81:=λ_ _=>kr
structure StH(w:World)(bc bi n:Nat)(x:BitVec 64):Prop where
 c:OwnB w bc [I (n:Int)] 3
 i:OwnB w bi [U64 x] 22
def StV(x:BitVec 64)(n:Nat):List (List Value):=(List.range n).map λ(i:Nat)=>[I (i:Int),.bool (x.toNat.testBit i)]
theorem ri(x:BitVec 64)(n:Nat):(StV x n).length=n:=by rw[StV,List.length_map,List.length_range]
theorem vC(x:BitVec 64)(n i:Nat)(h:i<n):(StV x n)[i]? =some [I (i:Int),.bool (x.toNat.testBit i)]:=by rw[StV,List.getElem?_map,List.getElem?_range h];rfl
theorem GQ{x:BitVec 64}{n i:Nat}{v:List Value}(h:(StV x n)[i]? =some v):i<n/\[I (i:Int),.bool (x.toNat.testBit i)]=v:=by
 have hi:i<n:=by
  rcases Nat.lt_or_ge i n with hk|hk
  ·exact hk
  ·rw[List.getElem?_eq_none (by rw[ri];exact hk)]at h;cases h
 exact ⟨hi,Option.some.inj ((vC x n i hi).symm.trans h)⟩
theorem row2{n m b1 b2:Nat}{c1 c2:List Value}{t1 t2:TypeId}{w w':World}(h1:w.heap.size<=b1)(h2:w.heap.size<=b2)(o1:OwnB w' b1 c1 t1)(o2:OwnB w' b2 c2 t2): ∀n' b' c' t',lkB [(n,b1,c1,t1),(m,b2,c2,t2)] n'=some (b',c',t')->w.heap.size<=b'/\OwnB w' b' c' t':=λn' b' c' t' hl=>by
 rcases bx hl with ⟨_,e⟩|⟨_,hl⟩
 ·cases e;exact ⟨h1,o1⟩
 ·rcases bx hl with ⟨_,e⟩|⟨_,hl⟩
  ·cases e;exact ⟨h2,o2⟩
  ·cases hl
theorem tY(x:BitVec 64)(n:Nat)(w:World)(hw:Gt w):CLS 117 [U64 x,I (n:Int)].toArray w (λe w'=> ∃bc bi,e=.returned (.func (.func 149) #[] #[pnt bc,pnt bi])/\Grow w w'/\w.heap.size<=bc/\w.heap.size<=bi/\bc≠bi/\StH w' bc bi (n) x):=by
 refine Hf func117 O hw<|λhGF=>Xp<|gp 2 hGF O O O<|λb2=>gp 3 hGF O O O<|λb3=>Asg O<|aa<|Xp<|dL O O O O<|Asg O<|aa<|ao<|Rr<|?_;exact au O O (λw' hw'=>⟨b3,b2,rfl,ae hw',(hw'.own 3 _ _ _ O).2.elim id False.elim,(hw'.own 2 _ _ _ O).2.elim id False.elim,λe=>by subst e;exact absurd (hw'.inj 3 2 _ _ _ _ _ O O) aC,(hw'.own 3 _ _ _ O).1,(hw'.own 2 _ _ _ O).1⟩)
theorem xn(bc bi n:Nat)(hn:n<=65536)(x:BitVec 64):ju prog Gt 149 [pnt bc,pnt bi] (StV x n) (λw=>StH w bc bi n x):=by
 intro l J Jx hJ hJx hRd hGx hY w hj;have okJ: ∀k,BOk Gt (Bi w (λY=>J Y k)):=λk=>⟨λ_ _ _ h=>(hRd _ _ _ h.rid).1,hJ k⟩;have okX: ∀k,BOk Gt (Bi w (λY=>Jx Y k)):=λk=>⟨λ_ _ _ h=>hGx _ _ _ h.rid,hJx k⟩;have c1: ∀k L w',Hp (Bi w (λY=>J Y k)) L w'->StH w' bc bi n x:=λk L w' h=>(hRd _ _ _ h.rid).2;refine ew (G:=Gt) func149 O O (Hp (Bi w (λY=>J Y 0)) []) (cI (Bi w _) hj (hJ 0)) (aT (okJ 0))<|Xp<|aQ O isAgg3 (λw h=>(c1 _ _ w h).c.cell 0) O O<|Mv O<|aa<|ar<|jG (ι:={i:Nat // i<=n}) (λy=>[(0,.func (.yield l) #[] #[]),(1,pnt bc),(2,pnt bi),(5,I (n:Int)),(6,I (y.1:Int))]) (λy=>Bi w (λY=>J Y y.1)) (λy=>[]) (λy=>n-y.1) ⟨0,Nat.zero_le _⟩ (λ_=>okJ _) O trv trivial<|?_;rintro ⟨i,hi⟩;dsimp only;refine Xp ?_;rcases Nat.lt_or_ge i n with hlt|hge
 ·refine Bnb true O O (λ_=>aI _ _ _) (by simp;omega)<|aa<|ah<|aP O<|aw<|ah<|ar<|Xp<|Mv O<|Asg O<|aa<|Xp<|Mv O<|Mv O<|aQ O isAgg22 (λw h=>(c1 _ _ w h).i.cell 0) O O<|Mv O<|Bnr O O (λ_=>cF _ _ _ om)<|Bnr O O (λ_=>ej _ _ _)<|Bnr (v:=.bool (x.toNat.testBit i)) O O (λ_=>(bC _ _ 1#64).trans (by rw[Int.toNat_natCast,yE]))<|?_
  refine eP (hY.b (k:=i) (vC x n i hlt) w) (okJ _) (okX _) O O O O O ?_ ?_
  ·refine bU O (λ_=>bM _) O O<|aa<|aH O<|aw<|Xq<|Bnr (v:=I (((i+1:Nat):Int))) O O (λ_=>(ay _ _ _ aG).trans aE)<|Mv O<|aa<|?_
   repeat (refine bh ?_)
   exact aV<|⟨rfl,⟨i+1,hlt⟩,_,by show n-(i+1)<n-i;omega,rfl,trv,trivial⟩
  ·refine bU O (λ_=>bM _) O O<|aa<|aP O<|ao<|Rr<|?_
   repeat (first|refine iG ?_|refine gX ?_|refine hH O ?_|refine cT ?_|refine cU ?_)
   exact ei O (λw hw=>⟨⟨_,rfl⟩,.inr ⟨_,cW (hJx _) hw.rid⟩⟩)
 ·obtain rfl:i=n:=om
  refine Bnb false O O (λ_=>aI _ _ _) (by rw[decide_eq_false_iff_not];omega)<|aa<|ah<|aH O<|bj<|?_
  repeat (first|refine iG ?_|refine gX ?_|refine hH O ?_|refine cT ?_|refine cU ?_)
  refine dU O (λw hw=>⟨⟨_,rfl⟩,.inl ?_⟩);have:=cW (hJ _) hw.rid;rw[ri];exact this
theorem Hb{v0:Rt}{b:List Rt}{x:BitVec 64}{root:Rt}(h: ¬x>>>b.length=0#64):vfy v0 b x root=false:=by
 have h6:b.length<64:=by
  rcases Nat.lt_or_ge b.length 64 with h1|h1
  ·exact h1
  ·exact absurd (by apply BitVec.eq_of_toNat_eq;rw[BitVec.toNat_ushiftRight,Nat.shiftRight_eq_div_pow,Nat.div_eq_of_lt (Nat.lt_of_lt_of_le x.isLt (Nat.pow_le_pow_right aC h1))];rfl) h
 unfold vfy;rw[show decide (64<=b.length)=false from decide_eq_false om,Bool.false_or,beq_eq_false_iff_ne.2 h,Bool.and_false]
theorem CQ{v0:Rt}{b:List Rt}{x:BitVec 64}{root:Rt}(h:x>>>b.length=0#64):vfy v0 b x root=decide (fld P2 x.toNat 0 v0 b=root):=by
 unfold vfy;rw[h];simp
theorem uL(v0:Rt)(hv0:v0.length=32)(b:List Rt)(hl:AllR b)(hln:b.length<=65536)(a:Option Addr)(cap:Nat)(x:BitVec 64)(root:Rt)(hroot:root.length=32)(w:World)(hw:Gt w)(hr:RtsAt w a b):
 CLS 81 [.agg (v0.map U8).toArray,.slice a b.length cap,U64 x,.agg (root.map U8).toArray].toArray w (λe w'=>e=.returned (.bool (vfy v0 b x root))/\Grow w w'):=by
 have hGF:BOk Gt (pl w):=gt_low.plain hw;refine eT (G:=Gt) func81 O O (Hp (pl w) []) (cI (pl w) trivial aL) (aT hGF)<|am (E:=EE [117])<|Bx 4 hGF O<|λb4=>gp 5 hGF O O O<|λb5=>Bx 7 hGF O<|λb7=>Asg O<|aa<|ah<|am (E:=EE [117])<|Mv O<|aU 5 O O O isAgg86 O O<|bv O (λ_=>aM underlying86 _ _ _ _) O O<|Bnr (v:=U64 (x>>>b.length)) O O (λ_=>(cF _ _ _ om).trans (by rw[Int.toNat_natCast]))<|?_
 by_cases hz:x>>>b.length=0#64
 ·refine Bnb false O O (λ_=>j8 _ _ _) (by rw[hz];rfl)<|aa<|aH O<|aw<|am (E:=EE [117])<|aq 4 O O isAgg27 sizeOf27 (by rw[List.length_map];exact hv0) O O<|Al 9 hGF zv27<|λb9=>ai 9 hGF O O O sizeOf27 (by rw[List.length_map];exact hv0) (by rw[List.length_map];exact cH) (bp _) O<|aa<|ah<|am (E:=EE [117])<|Mv O<|aU 5 O O O isAgg86 O O<|bv O (λ_=>aM underlying86 _ _ _ _) O O<|?_
  refine cw O O ent117 O O (λw1 hC=>(tY x b.length w1 (hGF.g _ _ _ hC)).mono λe1 w2 h=> ?_);obtain ⟨bc,bi,rfl,hg,h1,h2,hne,hs⟩:=h;refine ⟨_,_,rfl,aT hGF,hC.news aL hg [(101,bc,_,3),(102,bi,_,22)] (row2 h1 h2 hs.c hs.i) (n5 hne), ?_⟩;clear hC hg h1 h2 hs hne;refine aa<|ar<|?_;refine jL (λ_=>pl w) (λ_ _=>pl w) (λ_=>hGF) (λ_ _=>hGF) (λ_=>rfl) (λ_ _=>rfl) O O ent149 (xn bc bi b.length om x) (λv hv=>by obtain ⟨k,hk,rfl⟩:=List.mem_map.1 hv;rfl) O (λk=>[(4,b4,v0.map U8,27),(5,b5,[.slice a b.length cap],86),(7,b7,root.map U8,27),(9,b9,(fld P2 x.toNat 0 v0 (b.take k)).map U8,27),(101,bc,[I (b.length:Int)],3),(102,bi,[U64 x],22)]) (λ_ _ _=>False) trv (λk _ w' h=>⟨(h.own 101 _ _ _ O).1,(h.own 102 _ _ _ O).1⟩) ?_ ?_ (λ_ _ _ _ _ h=>h.elim)
  ·intro k v hv R hR
   have hgw: ∀L w',Hp (R.b (pl w)) L w'->Grow w w':=λL w' h=>((hR (pl w) O hGF).2.2 _ _ _ h).elim λ_ h2=>h2.below (λ_ h=>h);obtain ⟨hk,rfl⟩:=GQ hv;obtain ⟨y,hby⟩: ∃y,b[k]? =some y:=⟨_,List.getElem?_eq_getElem hk⟩;have hy:y.length=32:=hl y (List.mem_of_getElem? hby);obtain ⟨ad,rfl,hyc⟩:=hr k y hby;have hstep:=Ab P2 (i:=x.toNat) v0 hby;have hbk:x.toNat.testBit k=true->k<64:=λh=>by rcases Nat.lt_or_ge k 64 with h1|h1;exact h1;rw[Nat.testBit_lt_two_pow (Nat.lt_of_lt_of_le x.isLt (Nat.pow_le_pow_right aC h1))]at h;cases h
   cases hbit:x.toNat.testBit k
   ·have hst:fld P2 x.toNat 0 v0 (b.take (k+1))=P2 (fld P2 x.toNat 0 v0 (b.take k)) y:=by rw[hstep,LN P2 _ _ hbit]
    refine am (E:=EE [117])<|Asg O<|aa<|cm (E:=EE [117])<|Asg O<|aa<|?_;refine ⟨rfl,_,rfl, ?_⟩;refine ar<|am (E:=EE [117])<|Mv O<|aa<|aH O<|Xe [117]<|aq 9 O O isAgg27 sizeOf27 (by rw[List.length_map];exact pZ _ _ _ hv0) O O<|aU 5 O O O isAgg86 O O<|Mv O<|er k 32 O O underlying86 sizeOf27 O om O O<|bB (cs:=y.map U8) O isAgg27 sizeOf27 (by rw[List.length_map];exact hy) (λw' h j v hv=>((hgw _ w' h).cell (block_lt_of_cell (hyc j v hv))).trans (hyc j v hv)) O O<|Cc O ent118 (λw' _ hG=>kC (fld P2 x.toNat 0 v0 (b.take k)) y (pZ _ _ _ hv0) hy w' hG)<|?_
    rw[show SHA ((fld P2 x.toNat 0 v0 (b.take k))++y)=P2 (fld P2 x.toNat 0 v0 (b.take k)) y from O,<-hst];refine ai 9 (hR (pl w) O hGF).2.1 O O O sizeOf27 (by rw[List.length_map];exact pZ _ _ _ hv0) (by rw[List.length_map];exact pZ _ _ _ hv0) (bp _) O<|aa<|?_
    repeat (refine bh ?_)
    exact ⟨_,rfl,trv⟩
   ·have hst:fld P2 x.toNat 0 v0 (b.take (k+1))=P2 y (fld P2 x.toNat 0 v0 (b.take k)):=by rw[hstep,It P2 _ _ (hbk hbit) hbit]
    refine am (E:=EE [117])<|Asg O<|aa<|cm (E:=EE [117])<|Asg O<|aa<|?_;refine ⟨rfl,_,rfl, ?_⟩;refine ar<|am (E:=EE [117])<|Mv O<|aa<|aP O<|Xe [117]<|aU 5 O O O isAgg86 O O<|Mv O<|er k 32 O O underlying86 sizeOf27 O om O O<|bB (cs:=y.map U8) O isAgg27 sizeOf27 (by rw[List.length_map];exact hy) (λw' h j v hv=>((hgw _ w' h).cell (block_lt_of_cell (hyc j v hv))).trans (hyc j v hv)) O O<|aq 9 O O isAgg27 sizeOf27 (by rw[List.length_map];exact pZ _ _ _ hv0) O O<|Cc O ent118 (λw' _ hG=>kC y (fld P2 x.toNat 0 v0 (b.take k)) hy (pZ _ _ _ hv0) w' hG)<|?_
    rw[show SHA (y++(fld P2 x.toNat 0 v0 (b.take k)))=P2 y (fld P2 x.toNat 0 v0 (b.take k))from O,<-hst];refine ai 9 (hR (pl w) O hGF).2.1 O O O sizeOf27 (by rw[List.length_map];exact pZ _ _ _ hv0) (by rw[List.length_map];exact pZ _ _ _ hv0) (bp _) O<|aa<|?_
    repeat (refine bh ?_)
    exact ⟨_,rfl,trv⟩
  ·intro D hD
   rw[ri,List.take_length];refine am (E:=EE [117])<|aq 9 O O isAgg27 sizeOf27 (by rw[List.length_map];exact pZ _ _ _ hv0) O O<|aq 7 O O isAgg27 sizeOf27 (by rw[List.length_map];exact hroot) O O<|du (v:=.bool (decide (fld P2 x.toNat 0 v0 b=root))) O O (λw'=>H6 _ _ _ _ _ w') (λw'=>HW _ _ (pZ _ _ _ hv0) hroot w') O O<|Asg O<|aa<|ao<|Rr<|?_
   exact ii (.inl O) aL (au O O (λw' hw'=>⟨by rw[CQ hz],ae hw'⟩))
 ·refine Bnb true O O (λ_=>j8 _ _ _) (bne_iff_ne.2 hz)<|aa<|aP O<|am (E:=EE [117])<|Asg O<|aa<|ao<|Rr<|?_
  exact rj (.inl O) (au O O (λw' hw'=>⟨by rw[Hb hz];rfl,ae hw'⟩))
end
section
open Go.RowKit
open Sh
theorem ent53:aJ prog 53:=λ_ _=>kr
theorem ent89:aJ prog 89:=λ_ _=>kr
theorem ent123:aJ prog 123:=λ_ _=>kr
theorem dN{cs:List Value}: ∀j v,cs[j]? =some v->cs[0+j]? =some v:=λj v hv=>by rw[Nat.zero_add];exact hv
theorem Hd.a_s{h:Hd}: ∀j v,[U64 h.s][j]? =some v->h.cs[0+j]? =some v:=eo (pre:=[]) O
theorem St.at_f{s:St}: ∀j v,s.f.cs[j]? =some v->s.cs[0+j]? =some v:=eo (pre:=[]) O
theorem mG(u:Up)(hk:u.Ok)(w:World)(hw:Gt w):CLS 19 [.agg u.cs.toArray].toArray w (λe w'=>e=.returned (.bool u.isn)/\Grow w w'):=by
 refine Hf func19 O hw<|λhGF=>Xp<|Bx 1 hGF O<|λb1=>Asg O<|aa<|Xp<|Fa 147 O underlying71 O sizeOf36<|az (cs:=u.br.map U8) O isAgg36 sizeOf36 (by rw[List.length_map];exact hk.br) (λw' hw' j v hv=>by have:=(av (n:=1) O w' hw') _ v ((Up.l3 hk) j v hv);rwa [Nat.zero_add]at this) O O<|d8 GE underlying36 sizeOf28 O O<|du (v:=.bool (!decide (u.br=Zs 160))) O O (λw'=>K2 _ _ _ _ _ w') (λw'=>nW K4 aC u.br (Zs 160) hk.br O w') O O<|Asg O<|aa<|ao<|Rr<|?_
 exact au O O (λw' hw'=>⟨rfl,ae hw'⟩)
theorem jc(u:Up)(hk:u.Ok)(w:World)(hw:Gt w):CLS 21 [.agg u.cs.toArray].toArray w (λe w'=>e=.returned (.bool u.isf)/\Grow w w'):=by
 refine Hf func21 O hw<|λhGF=>Xp<|Bx 1 hGF O<|λb1=>Asg O<|aa<|Xp<|Fa 405 O underlying71 O sizeOf64<|az (cs:=u.fy.map U8) O isAgg64 sizeOf64 (by rw[List.length_map];exact hk.fy) (λw' hw' j v hv=>by have:=(av (n:=1) O w' hw') _ v ((Up.l5 hk) j v hv);rwa [Nat.zero_add]at this) O O<|d8 zvT6 underlying64 sizeOf28 O O<|du (v:=.bool (!decide (u.fy=Zs 192))) O O (λw'=>LI _ _ _ _ _ w') (λw'=>nW LR aC u.fy (Zs 192) hk.fy O w') O O<|Asg O<|aa<|ao<|Rr<|?_
 exact au O O (λw' hw'=>⟨rfl,ae hw'⟩)
theorem AV(c:Co)(hk:c.Ok)(hln:c.ks.length<=1000000)(w:World)(hw:Gt w)(hrw:RwsAt 48 w c.ka c.ks):CLS 53 [.agg c.cs.toArray].toArray w (λe w'=>e=.returned (.bool (oZ c))/\Grow w w'):=by
 refine Hf func53 O hw<|λhGF=>Xp<|Bx 1 hGF O<|λb1=>Asg O<|aa<|ah<|Xp<|Fa 0 O underlying35 O sizeOf31<|aU 1 O O ((Co.a0) 0 (.slice c.ka c.ks.length c.kc) O) isAgg31 O O<|bv O (λ_=>aM underlying31 _ _ _ _) O O<|Mv O<|aa<|ar<|bV (ι:={i:Nat // i<=c.ks.length/\∀j r,j<i->c.ks[j]? =some r->r=(Zs 48)}) (λx=>[(1,pnt b1),(6,.slice c.ka c.ks.length c.kc),(7,I (c.ks.length:Int)),(8,I (x.1:Int))]) (λ_=>[(1,b1,c.cs,35)]) (λx=>c.ks.length-x.1) ⟨0,Nat.zero_le _,λj r hj=>absurd hj (Nat.not_lt_zero j)⟩ hGF trv trv<|?_;rintro ⟨i,hi,hno⟩;dsimp only;refine Xp<|Bnr O O (λ_=>aI _ _ _)<|aa<|ah<|?_;refine cq O (λhc=> ?_) (λhc=> ?_)
 ·have hlt:i<c.ks.length:=(by simp at hc;omega)
  clear hc;obtain ⟨x,hx⟩: ∃x,c.ks[i]? =some x:=⟨_,List.getElem?_eq_getElem hlt⟩;have hxl:=hk.ks x (List.mem_of_getElem? hx);refine aw<|ah<|ar<|Xp<|?_;obtain ⟨ad,hae,hcell⟩:=hrw i x hx;refine er (ad:=ad) i 48 (by rw[<-hae];rfl) O underlying31 sizeOf33 O hlt O O<|bB (cs:=x.map U8) O isAgg33 sizeOf33 (by rw[List.length_map];exact hxl) (λw' h j v hv=>((ae h).cell (block_lt_of_cell (hcell j v hv))).trans (hcell j v hv)) O O<|Al 4 hGF yN<|λb4=>ai 4 hGF O O O sizeOf33 (by rw[List.length_map];exact hxl) (by rw[List.length_map];rfl) (bp _) O<|aa<|Xp<|aq 4 O O isAgg33 sizeOf33 (by rw[List.length_map];exact hxl) O O<|d8 yN underlying33 sizeOf5 O O<|?_
  rcases Bool.eq_false_or_eq_true (decide (x=(Zs 48)))with hq|hq
  ·refine kA false O O (λw'=>B3 _ _ _ _ _ w') (λ_=>nW A6 aC x (Zs 48) hxl O _) (by rw[hq];rfl) O O<|aa<|aH O<|aw<|Xq<|Bnr (v:=I (((i+1:Nat):Int))) O O (λ_=>(ay _ _ _ aG).trans aE)<|Mv O<|aa<|?_
   repeat (refine bh ?_)
   exact aV<|⟨rfl,⟨i+1,hlt,λj r hj hr=>(Nat.lt_or_ge j i).elim (λh=>hno j r h hr) (λh=>by have e:j=i:=om;subst e;rw[hx]at hr;cases hr;exact of_decide_eq_true hq)⟩,_,by show c.ks.length-(i+1)<c.ks.length-i;omega,rfl,trv,trv⟩
  ·refine kA true O O (λw'=>B3 _ _ _ _ _ w') (λ_=>nW A6 aC x (Zs 48) hxl O _) (by rw[hq];rfl) O O<|aa<|aP O<|Xp<|Asg O<|aa<|ao<|Rr<|?_
   exact au O O (λw' hw'=>⟨by rw[Im hx hq];rfl,ae hw'⟩)
 ·have hie:i=c.ks.length:=(by simp at hc;omega)
  clear hc;refine bj<|Xp<|Fa 1 O underlying35 O sizeOf33<|az (cs:=c.sum.map U8) O isAgg33 sizeOf33 (by rw[List.length_map];exact hk.sum) (λw' hw' j v hv=>by have:=(av (n:=1) O w' hw') _ v ((Co.a_sum) j v hv);rwa [Nat.zero_add]at this) O O<|d8 yN underlying33 sizeOf5 O O<|du (v:=.bool (decide (c.sum=(Zs 48)))) O O (λw'=>B3 _ _ _ _ _ w') (λw'=>xa A6 aC c.sum (Zs 48) hk.sum O w') O O<|Asg O<|aa<|ao<|Rr<|?_
  exact au O O (λw' hw'=>⟨by rw[Ce (λj r hj=>hno j r om)],ae hw'⟩)
theorem Gw(s:St)(hk:s.Ok)(hln:s.nx.ks.length<=1000000)(w:World)(hw:Gt w)(hrw:RwsAt 48 w s.nx.ka s.nx.ks):CLS 23 [.agg s.cs.toArray].toArray w (λe w'=>e=.returned (.bool (!oZ s.nx))/\Grow w w'):=by
 refine Hf func23 O hw<|λhGF=>Xp<|Bx 1 hGF O<|λb1=>Asg O<|aa<|Xp<|Fa 245 O underlying53 O sizeOf35<|az (cs:=s.nx.cs) O isAgg35 sizeOf35 (Co.len hk.nx) (λw' hw' j v hv=>by have:=(av (n:=1) O w' hw') _ v ((St.at_nx hk) j v hv);rwa [Nat.zero_add]at this) O O<|Cc O ent53 (λw' hw' hG=>AV s.nx hk.nx hln w' hG (hrw.grow (ae hw')))<|bU O (λ_=>bM _) O O<|Asg O<|aa<|ao<|Rr<|?_
 exact au O O (λw' hw'=>⟨rfl,ae hw'⟩)
theorem mT(l:List Bool)(hl:l.length<=1000000)(a:Option Addr)(cap:Nat)(w:World)(hw:Gt w)(hcl:CellsAt w a (l.map .bool)):CLS 89 [.slice a l.length cap].toArray w (λe w'=>e=.returned (I (onN l:Int))/\Grow w w'):=by
 refine Hf func89 O hw<|λhGF=>Xp<|Asg O<|aa<|Xp<|Asg O<|aa<|ah<|Xp<|Mv O<|bv O (λ_=>aM underlying65 _ _ _ _) O O<|Mv O<|aa<|ar<|bV (ι:={i:Nat // i<=l.length}) (λx=>[(6,.slice a l.length cap),(7,I (l.length:Int)),(3,I (onN (l.take x.1):Int)),(8,I (x.1:Int))]) (λ_=>[]) (λx=>l.length-x.1) ⟨0,Nat.zero_le _⟩ hGF trv trivial<|?_;rintro ⟨i,hi⟩;dsimp only;refine Xp<|Bnr O O (λ_=>aI _ _ _)<|aa<|ah<|?_;refine cq O (λhc=> ?_) (λhc=> ?_)
 ·have hlt:i<l.length:=(by simp at hc;omega)
  clear hc;obtain ⟨x,hx⟩: ∃x,l[i]? =some x:=⟨_,List.getElem?_eq_getElem hlt⟩;refine aw<|ah<|ar<|Xp<|?_;obtain ⟨ad,hae,hcell⟩:=hcl i (.bool x) (by rw[List.getElem?_map,hx];rfl)
  refine er (ad:=ad) i 1 (by rw[<-hae];rfl) O underlying65 sizeOf4 O hlt O O ?_
  rcases Bool.eq_false_or_eq_true x with hq|hq
  ·refine aQ (v:=.bool true) O isAgg4 (λw' h=>by rw[Nat.mul_one];have h9:=((ae h).cell (block_lt_of_cell hcell)).trans hcell;rw[hq]at h9;exact h9) O O<|Asg O<|aa<|Xp<|Mv O<|aa<|aP O<|Xq<|Mv O<|Bnr (v:=I ((onN (l.take i)+1:Nat):Int)) O O (λ_=>(ay _ _ _ (by have:=A5 (l.take i);rw[List.length_take]at this;unfold inI;omega)).trans aE)<|Asg O<|aa<|Xq<|Bnr (v:=I (((i+1:Nat):Int))) O O (λ_=>(ay _ _ _ aG).trans aE)<|Mv O<|aa<|?_
   repeat (refine bh ?_)
   refine aV ?_;rw[hq]at hx;exact ⟨rfl,⟨i+1,hlt⟩,_,by show l.length-(i+1)<l.length-i;omega,rfl,⟨rfl,rfl,by rw[tq l i _ hx];rfl,rfl,trivial⟩,trivial⟩
  ·refine aQ (v:=.bool false) O isAgg4 (λw' h=>by rw[Nat.mul_one];have h9:=((ae h).cell (block_lt_of_cell hcell)).trans hcell;rw[hq]at h9;exact h9) O O<|Asg O<|aa<|Xp<|Mv O<|aa<|aH O<|aw<|Xq<|Bnr (v:=I (((i+1:Nat):Int))) O O (λ_=>(ay _ _ _ aG).trans aE)<|Mv O<|aa<|?_
   repeat (refine bh ?_)
   refine aV ?_;rw[hq]at hx;exact ⟨rfl,⟨i+1,hlt⟩,_,by show l.length-(i+1)<l.length-i;omega,rfl,⟨rfl,rfl,by rw[tq l i _ hx];rfl,rfl,trivial⟩,trivial⟩
 ·have hie:i=l.length:=(by simp at hc;omega)
  clear hc;refine bj<|Xp<|Mv O<|Asg O<|aa<|ao<|Rr<|?_;exact au O O (λw' hw'=>⟨by rw[List.take_of_length_le om],ae hw'⟩)
theorem og(l:List Bool)(hl:l.length<=1000000)(a:Option Addr)(cap:Nat)(w:World)(hw:Gt w)(hcl:CellsAt w a (l.map .bool)):CLS 123 [.slice a l.length cap].toArray w (λe w'=>e=.returned (.bool (dh l))/\Grow w w'):=by
 refine Hf func123 O hw<|λhGF=>Xp<|Asg O<|aa<|Xp<|Mv O<|Cc O ent89 (λw' hw' hG=>mT l hl a cap w' hG (hcl.grow (ae hw')))<|Bnr (v:=I (3*(onN l:Int))) O O (λ_=>bQ _ 3 _ (by have:=A5 l;unfold inI;omega))<|Mv O<|bv O (λ_=>aM underlying65 _ _ _ _) O O<|Bnr (v:=I (2*(l.length:Int))) O O (λ_=>bQ _ 2 _ aG)<|Bnr (v:=.bool (dh l)) O O (λ_=>(cY _ _ _).trans (by rw[show decide (3*(onN l:Int)>=2*(l.length:Int))=dh l from decide_eq_decide.2 om]))<|Asg O<|aa<|ao<|Rr<|?_
 exact au O O (λw' hw'=>⟨rfl,ae hw'⟩)
end
section
open Go.RowKit
theorem ent37:aJ prog 37:=λ_ _=>kr
theorem ent122:aJ prog 122:=λ_ _=>kr
theorem ent77:aJ prog 77:=λ_ _=>kr
theorem ent78:aJ prog 78:=λ_ _=>kr
theorem wE(n:BitVec 64)(w:World)(hw:Gt w):CLS 77 [U64 n].toArray w (λe w'=>e=.returned (.bool (ig n))/\Grow w w'):=by
 refine Hf func77 O hw<|λhGF=>Xp<|Asg O<|aa<|Xp<|Mv O<|?_;rcases Bool.eq_false_or_eq_true (decide (1#64<=n))with h1|h1
 ·refine Bnb true O O (λ_=>bO _ n 1#64) (h1)<|Mv O<|Mv O<|?_
  rcases Bool.eq_false_or_eq_true (decide (n<=65536#64))with h2|h2
  ·refine Bnb true O O (λ_=>fO _ n 65536#64) (h2)<|Pk O O O<|Asg O<|aa<|ao<|Rr<|?_
   exact au O O (λw' hw'=>⟨by unfold ig;rw[h1,h2];rfl,ae hw'⟩)
  ·refine Bnb false O O (λ_=>fO _ n 65536#64) (h2)<|Pk O O O<|Asg O<|aa<|ao<|Rr<|?_
   exact au O O (λw' hw'=>⟨by unfold ig;rw[h1,h2];rfl,ae hw'⟩)
 ·refine Bnb false O O (λ_=>bO _ n 1#64) (h1)<|Mv O<|Sk<|Sk<|Pk O O O<|Asg O<|aa<|ao<|Rr<|?_
  exact au O O (λw' hw'=>⟨by unfold ig;rw[h1];rfl,ae hw'⟩)
theorem EB(z:Int)(w:World)(hw:Gt w):CLS 78 [I z].toArray w (λe w'=>e=.returned (.bool (gY z))/\Grow w w'):=by
 refine Hf func78 O hw<|λhGF=>Xp<|Asg O<|aa<|Xp<|Mv O<|?_;rcases Bool.eq_false_or_eq_true (decide (z>=1))with h1|h1
 ·refine Bnb true O O (λ_=>cY _ z 1) (h1)<|Mv O<|Mv O<|?_
  rcases Bool.eq_false_or_eq_true (decide (z<=512))with h2|h2
  ·refine Bnb true O O (λ_=>mY _ z 512) (h2)<|Pk O O O<|Mv O<|Mv O<|Mv O<|Bnr (v:=I (z-1)) O O (λ_=>bu _ _ _ (by unfold inI;simp at h1 h2;omega))<|Bnr (v:=I (Cs z (z-1))) O O (λ_=>xN _ _ _ _)<|Bnr (v:=.bool (gY z)) O O (λ_=>(cj _ _ _).trans (by rw[AR z (by simpa using h1) (by simpa using h2)]))<|Pk O O O<|Asg O<|aa<|ao<|Rr<|?_
   exact au O O (λw' hw'=>⟨rfl,ae hw'⟩)
  ·refine Bnb false O O (λ_=>mY _ z 512) (h2)<|Pk O O O<|Mv O<|Sk<|Sk<|Sk<|Sk<|Sk<|Pk O O O<|Asg O<|aa<|ao<|Rr<|?_
   exact au O O (λw' hw'=>⟨by rw[CG (of_decide_eq_false h2)];rfl,ae hw'⟩)
 ·refine Bnb false O O (λ_=>cY _ z 1) (h1)<|Mv O<|Sk<|Sk<|Pk O O O<|Mv O<|Sk<|Sk<|Sk<|Sk<|Sk<|Pk O O O<|Asg O<|aa<|ao<|Rr<|?_
  exact au O O (λw' hw'=>⟨by rw[Cd (of_decide_eq_false h1)];rfl,ae hw'⟩)
theorem qJ(c:Cf)(hc_:c.Ok)(w:World)(hw:Gt w):CLS 37 [.agg c.cs.toArray].toArray w (λe w'=>e=.returned (I c.chk)/\Grow w w'):=by
 refine Hf func37 O hw<|λhGF=>Xp<|Bx 1 hGF O<|λb1=>Asg O<|aa<|ah<|Xp<|Fa 36 O underlying50 O sizeOf22<|aQ (v:=U64 c.s) O isAgg22 (λw' hw'=>by have:=(av (n:=1) O w' hw') 36 _ (Cf.at_s hc_);rwa [Nat.zero_add]at this) O O<|?_
 rcases Bool.eq_false_or_eq_true (ig c.s)with h1|h1
 ·refine Cbl true O ent77 (wE c.s) (h1)<|bU O (λ_=>bM _) O O<|Mv O<|Fa 37 O underlying50 O sizeOf22<|aQ (v:=U64 c.e) O isAgg22 (λw' hw'=>by have:=(av (n:=1) O w' hw') 37 _ (Cf.at_e hc_);rwa [Nat.zero_add]at this) O O<|?_
  rcases Bool.eq_false_or_eq_true (ig c.e)with h2|h2
  ·refine Cbl true O ent77 (wE c.e) (h2)<|bU O (λ_=>bM _) O O<|Pk O O O<|Mv O<|Fa 38 O underlying50 O sizeOf3<|aQ (v:=I c.z) O isAgg3 (λw' hw'=>by have:=(av (n:=1) O w' hw') 38 _ (Cf.at_z hc_);rwa [Nat.zero_add]at this) O O<|?_
   rcases Bool.eq_false_or_eq_true (gY c.z)with h3|h3
   ·refine Cbl true O ent78 (EB c.z) (h3)<|bU O (λ_=>bM _) O O<|Pk O O O<|aa<|aH O<|aw<|Xp<|Asg O<|aa<|ao<|Rr<|?_
    exact au O O (λw' hw'=>⟨by unfold Cf.chk Cf.rt;rw[h1,h2,h3];rfl,ae hw'⟩)
   ·refine Cbl false O ent78 (EB c.z) (h3)<|bU O (λ_=>bM _) O O<|Pk O O O<|aa<|aP O<|Xp<|Asg O<|aa<|ao<|Rr<|?_
    exact au O O (λw' hw'=>⟨by unfold Cf.chk Cf.rt;rw[h1,h2,h3];rfl,ae hw'⟩)
  ·refine Cbl false O ent77 (wE c.e) (h2)<|bU O (λ_=>bM _) O O<|Pk O O O<|Mv O<|Sk<|Sk<|Sk<|Sk<|Pk O O O<|aa<|aP O<|Xp<|Asg O<|aa<|ao<|Rr<|?_
   exact au O O (λw' hw'=>⟨by unfold Cf.chk Cf.rt;rw[h1,h2];rfl,ae hw'⟩)
 ·refine Cbl false O ent77 (wE c.s) (h1)<|bU O (λ_=>bM _) O O<|Mv O<|Sk<|Sk<|Sk<|Sk<|Pk O O O<|Mv O<|Sk<|Sk<|Sk<|Sk<|Pk O O O<|aa<|aP O<|Xp<|Asg O<|aa<|ao<|Rr<|?_
  exact au O O (λw' hw'=>⟨by unfold Cf.chk Cf.rt;rw[h1];rfl,ae hw'⟩)
theorem JR(c:Cf)(hc_:c.Ok)(n:BitVec 64)(w:World)(hw:Gt w):CLS 153 [.agg c.cs.toArray,U64 n].toArray w (λe w'=>e=.returned (U64 (c.ep n))/\Grow w w'):=by
 refine Hf func153 O hw<|λhGF=>Xp<|Bx 2 hGF O<|λb2=>Asg O<|aa<|ah<|Xp<|az (cs:=c.cs) O isAgg50 sizeOf50 (Cf.len hc_) (λw' hw' j v hv=>by have:=(av (n:=2) O w' hw') _ v (Cf.all j v hv);rwa [Nat.zero_add]at this) O O<|Ca O (qJ c hc_)<|?_
 rcases Bool.eq_false_or_eq_true (c.rt)with hr|hr
 ·refine Bnb false O O (λ_=>cC _ c.chk 0) (by rw[EJ hr];rfl)<|aa<|aH O<|aw<|Xp<|Mv O<|Fa 36 O underlying50 O sizeOf22<|aQ (v:=U64 c.s) O isAgg22 (λw' hw'=>by have:=(av (n:=2) O w' hw') 36 _ (Cf.at_s hc_);rwa [Nat.zero_add]at this) O O<|Bnr (v:=U64 (n / c.s)) O O (λ_=>gS _ _ _ (nU (Ml hr)))<|Asg O<|aa<|ao<|Rr<|?_
  exact au O O (λw' hw'=>⟨by rw[IS hr],ae hw'⟩)
 ·refine Bnb true O O (λ_=>cC _ c.chk 0) (by rw[Fq hr];rfl)<|aa<|aP O<|Xp<|Asg O<|aa<|ao<|Rr<|?_
  exact au O O (λw' hw'=>⟨by rw[ep_f hr];rfl,ae hw'⟩)
theorem lK(c:Cf)(hc_:c.Ok)(n:BitVec 64)(w:World)(hw:Gt w):CLS 122 [.agg c.cs.toArray,U64 n].toArray w (λe w'=>e=.returned (U64 (c.pe n))/\Grow w w'):=by
 refine Hf func122 O hw<|λhGF=>Xp<|Bx 2 hGF O<|λb2=>Asg O<|aa<|ah<|Xp<|az (cs:=c.cs) O isAgg50 sizeOf50 (Cf.len hc_) (λw' hw' j v hv=>by have:=(av (n:=2) O w' hw') _ v (Cf.all j v hv);rwa [Nat.zero_add]at this) O O<|Ca O (qJ c hc_)<|?_
 rcases Bool.eq_false_or_eq_true (c.rt)with hr|hr
 ·refine Bnb false O O (λ_=>cC _ c.chk 0) (by rw[EJ hr];rfl)<|aa<|aH O<|aw<|Xd []<|az (cs:=c.cs) O isAgg50 sizeOf50 (Cf.len hc_) (λw' hw' j v hv=>by have:=(av (n:=2) O w' hw') _ v (Cf.all j v hv);rwa [Nat.zero_add]at this) O O<|Mv O<|Ca O (JR c hc_ n)<|Fa 37 O underlying50 O sizeOf22<|aQ (v:=U64 c.e) O isAgg22 (λw' hw'=>by have:=(av (n:=2) O w' hw') 37 _ (Cf.at_e hc_);rwa [Nat.zero_add]at this) O O<|Bnr (v:=U64 (c.ep n / c.e)) O O (λ_=>gS _ _ _ (nU (IU hr)))<|Asg O<|aa<|ao<|Rr<|?_
  exact au O O (λw' hw'=>⟨by rw[IM hr,IS hr],ae hw'⟩)
 ·refine Bnb true O O (λ_=>cC _ c.chk 0) (by rw[Fq hr];rfl)<|aa<|aP O<|Xp<|Asg O<|aa<|ao<|Rr<|?_
  exact au O O (λw' hw'=>⟨by rw[Kn hr];rfl,ae hw'⟩)
end
section
open Go.RowKit
open Sh
theorem Up.at_s{u:Up}:u.cs[0]? =some (U64 u.at_.s):=Up.l1 0 _ O
theorem Up.at_f{u:Up}(k:u.Ok):u.cs[307]? =some (U64 u.fi.s):=Up.l4 k 0 _ O
theorem ni(a b:BitVec 64):(a==b)=decide (a=b):=rfl
end
section
open Go.RowKit
open Sh
theorem ent87:aJ prog 87:=λ_ _=>kr
theorem ent88:aJ prog 88:=λ_ _=>kr
theorem ent124:aJ prog 124:=λ_ _=>kr
theorem ent125:aJ prog 125:=λ_ _=>kr
theorem ent85:aJ prog 85:=λ_ _=>kr
theorem ent86:aJ prog 86:=λ_ _=>kr
theorem ent48:aJ prog 48:=λ_ _=>kr
theorem ent49:aJ prog 49:=λ_ _=>kr
def jst(x y:Bool):Int:=bif x && !y then 1 else bif y && !x then-1 else 0
def pL(x y:Int):Int:=bif decide (x<y)then-1 else bif decide (x>y)then 1 else 0
def pW(x y:BitVec 64):Int:=bif decide (x<y)then-1 else bif decide (x>y)then 1 else 0
def grt:List Int->Bool
 |[]=>false
 |x::l=>bif decide (x=0)then grt l else decide (x>0)
def Up.fb(u:Up):Int:=bif dh u.sy.bs then 0 else (onN u.sy.bs:Int)
def Sd(c:Cf)(u:Up):List Value:=[.bool (dh u.sy.bs),.bool (u.rip c),.bool u.isf,.bool (u.isf && u.nea c),I (onN u.sy.bs:Int),I u.fb,U64 u.at_.s,U64 u.sl]
def Mk(c:Cf)(a b:Up):List Int:=[jst (dh a.sy.bs) (dh b.sy.bs),pL a.fb b.fb,jst (a.rip c) (b.rip c),jst a.isf b.isf,jst (a.isf && a.nea c) (b.isf && b.nea c),pL (onN a.sy.bs:Int) (onN b.sy.bs:Int),pW b.at_.s a.at_.s,pW b.sl a.sl]
theorem wQ(x y:Bool)(l:List Int):grt (jst x y::l)=bif x !=y then x else grt l:=by cases x<;>cases y<;>rfl
theorem Fk(x y:Nat)(l:List Int):grt (pL (x:Int) (y:Int)::l)=bif decide (x≠y)then decide (y<x)else grt l:=by
 show (bif decide (pL (x:Int) (y:Int)=0)then grt l else decide (pL (x:Int) (y:Int)>0))=_
 unfold pL;rcases Nat.lt_trichotomy x y with h|h|h
 ·rw[show decide ((x:Int)<(y:Int))=true from decide_eq_true om,show decide (x≠y)=true from decide_eq_true om,show decide (y<x)=false from decide_eq_false om];rfl
 ·subst h;rw[show decide ((x:Int)<(x:Int))=false from decide_eq_false om,show decide (x≠x)=false from decide_eq_false om];rfl
 ·rw[show decide ((x:Int)<(y:Int))=false from decide_eq_false om,show decide ((x:Int)>(y:Int))=true from decide_eq_true om,show decide (x≠y)=true from decide_eq_true om,show decide (y<x)=true from decide_eq_true h];rfl
theorem EL(x y:BitVec 64)(l:List Int):grt (pW y x::l)=bif decide (x≠y)then decide (x<y)else grt l:=by
 show (bif decide (pW y x=0)then grt l else decide (pW y x>0))=_
 unfold pW;rcases Nat.lt_trichotomy x.toNat y.toNat with h|h|h
 ·rw[show decide (y<x)=false from decide_eq_false (by rw[BitVec.lt_def];omega),show decide (y>x)=true from decide_eq_true (by rw[gt_iff_lt,BitVec.lt_def];omega),show decide (x≠y)=true from decide_eq_true (λe=>by subst e;omega)];rfl
 ·obtain rfl:=BitVec.eq_of_toNat_eq h;rw[show decide (x<x)=false from decide_eq_false (by rw[BitVec.lt_def];omega),show decide (x≠x)=false from decide_eq_false (λh=>h O)];rfl
 ·rw[show decide (y<x)=true from decide_eq_true (by rw[BitVec.lt_def];omega),show decide (x≠y)=true from decide_eq_true (λe=>by subst e;omega),show decide (x<y)=false from decide_eq_false (by rw[BitVec.lt_def];omega)];rfl
theorem Hn(a b:Up)(l:List Int)(h:dh a.sy.bs=dh b.sy.bs):grt (pL a.fb b.fb::l)=bif !dh a.sy.bs && decide (onN a.sy.bs≠onN b.sy.bs)then decide (onN b.sy.bs<onN a.sy.bs)else grt l:=by
 unfold Up.fb;rw[<-h]
 cases dh a.sy.bs with
 |true=>rfl
 |false=>rw[cond_false,cond_false,Fk];rfl
theorem rd{x y:Bool}{α:Type}{a b b':α}(h:x=y->b=b'):(bif x !=y then a else b)=bif x !=y then a else b':=by
 cases x<;>cases y<;>first|rfl|exact h O
theorem Gb(c:Cf)(a b:Up):grt (Mk c a b)=Ic c a b:=by
 unfold Mk Ic;rw[wQ];refine rd λh1=> ?_;rw[Hn a b _ h1,wQ,wQ];congr 1;refine rd λ_=>rd λh2=> ?_;rw[wQ,Fk,EL,EL,<-h2];have e: ∀x y:Bool,(bif decide (a.sl≠b.sl)then decide (a.sl<b.sl)else grt [])=decide (a.sl<b.sl):=λ_ _=>by
  by_cases h:a.sl=b.sl
  ·rw[h];simp[grt]
  ·rw[decide_eq_true h,cond_true]
 rw[e true true]
 cases a.isf<;>cases a.nea c<;>cases b.nea c<;>rfl
theorem ET(x:Int)(w:World)(hw:Gt w):CLS 124 [I x].toArray w (λe w'=>e=.returned (.bool false)/\Grow w w'):=by
 refine Hf func124 O hw<|λhGF=>Xp<|Asg O<|aa<|Xp<|Mv O<|Mv O<|Bnr (v:=.bool false) O O (λ_=>(cC _ x x).trans aB)<|Asg O<|aa<|ao<|Rr<|?_;exact au O O (λw' hw'=>⟨rfl,ae hw'⟩)
theorem EW(x:BitVec 64)(w:World)(hw:Gt w):CLS 125 [U64 x].toArray w (λe w'=>e=.returned (.bool false)/\Grow w w'):=by
 refine Hf func125 O hw<|λhGF=>Xp<|Asg O<|aa<|Xp<|Mv O<|Mv O<|Bnr (v:=.bool false) O O (λ_=>(j8 _ x x).trans aB)<|Asg O<|aa<|ao<|Rr<|?_;exact au O O (λw' hw'=>⟨rfl,ae hw'⟩)
theorem Fs(x y:Int)(w:World)(hw:Gt w):CLS 87 [I x,I y].toArray w (λe w'=>e=.returned (I (pL x y))/\Grow w w'):=by
 refine Hf func87 O hw<|λhGF=>Xp<|Asg O<|aa<|Xp<|Mv O<|Cc O ent124 (λw' hw' hG=>ET x w' hG)<|Asg O<|aa<|Xp<|Mv O<|Cc O ent124 (λw' hw' hG=>ET y w' hG)<|Asg O<|aa<|ah<|Xp<|Mv O<|aa<|aH O<|aw<|ah<|Xp<|Mv O<|aa<|aH O<|aw<|ah<|Xp<|Mv O<|Mv O<|?_;rcases Bool.eq_false_or_eq_true (decide (x<y))with hl|hl
 ·refine Bnb true O O (λ_=>aI _ x y) (hl)<|aa<|aP O<|Xp<|Asg O<|aa<|ao<|Rr<|?_
  exact au O O (λw' hw'=>⟨by rw[pL,hl];rfl,ae hw'⟩)
 ·refine Bnb false O O (λ_=>aI _ x y) (hl)<|aa<|aH O<|aw<|ah<|Xp<|Mv O<|Mv O<|?_
  rcases Bool.eq_false_or_eq_true (decide (x>y))with hg|hg
  ·refine Bnb true O O (λ_=>cQ _ x y) (hg)<|aa<|aP O<|Xp<|Asg O<|aa<|ao<|Rr<|?_
   exact au O O (λw' hw'=>⟨by rw[pL,hl,hg];rfl,ae hw'⟩)
  ·refine Bnb false O O (λ_=>cQ _ x y) (hg)<|aa<|aH O<|aw<|Xp<|Asg O<|aa<|ao<|Rr<|?_
   exact au O O (λw' hw'=>⟨by rw[pL,hl,hg];rfl,ae hw'⟩)
theorem En(x y:BitVec 64)(w:World)(hw:Gt w):CLS 88 [U64 x,U64 y].toArray w (λe w'=>e=.returned (I (pW x y))/\Grow w w'):=by
 refine Hf func88 O hw<|λhGF=>Xp<|Asg O<|aa<|Xp<|Mv O<|Cc O ent125 (λw' hw' hG=>EW x w' hG)<|Asg O<|aa<|Xp<|Mv O<|Cc O ent125 (λw' hw' hG=>EW y w' hG)<|Asg O<|aa<|ah<|Xp<|Mv O<|aa<|aH O<|aw<|ah<|Xp<|Mv O<|aa<|aH O<|aw<|ah<|Xp<|Mv O<|Mv O<|?_;rcases Bool.eq_false_or_eq_true (decide (x<y))with hl|hl
 ·refine Bnb true O O (λ_=>eN _ x y) (hl)<|aa<|aP O<|Xp<|Asg O<|aa<|ao<|Rr<|?_
  exact au O O (λw' hw'=>⟨by rw[pW,hl];rfl,ae hw'⟩)
 ·refine Bnb false O O (λ_=>eN _ x y) (hl)<|aa<|aH O<|aw<|ah<|Xp<|Mv O<|Mv O<|?_
  rcases Bool.eq_false_or_eq_true (decide (x>y))with hg|hg
  ·refine Bnb true O O (λ_=>eV _ x y) (hg)<|aa<|aP O<|Xp<|Asg O<|aa<|ao<|Rr<|?_
   exact au O O (λw' hw'=>⟨by rw[pW,hl,hg];rfl,ae hw'⟩)
  ·refine Bnb false O O (λ_=>eV _ x y) (hg)<|aa<|aH O<|aw<|Xp<|Asg O<|aa<|ao<|Rr<|?_
   exact au O O (λw' hw'=>⟨by rw[pW,hl,hg];rfl,ae hw'⟩)
theorem xf(x y:Bool)(w:World)(hw:Gt w):CLS 86 [.bool x,.bool y].toArray w (λe w'=>e=.returned (I (jst x y))/\Grow w w'):=by
 cases x<;>cases y
 ·refine Hf func86 O hw<|λhGF=>Xp<|Asg O<|aa<|ah<|ar<|Xp<|Mv O<|Mv O<|Sk<|Sk<|Pk O O O<|Asg O<|aa<|aH O<|Xp<|Mv O<|Mv O<|Sk<|Sk<|Pk O O O<|Asg O<|aa<|aH O<|aw<|Xp<|Asg O<|aa<|ao<|Rr<|?_
  exact au O O (λw' hw'=>⟨rfl,ae hw'⟩)
 ·refine Hf func86 O hw<|λhGF=>Xp<|Asg O<|aa<|ah<|ar<|Xp<|Mv O<|Mv O<|Sk<|Sk<|Pk O O O<|Asg O<|aa<|aH O<|Xp<|Mv O<|Mv O<|Mv O<|bU O (λ_=>bM _) O O<|Pk O O O<|Asg O<|aa<|aP O<|Xp<|Asg O<|aa<|ao<|Rr<|?_
  exact au O O (λw' hw'=>⟨rfl,ae hw'⟩)
 ·refine Hf func86 O hw<|λhGF=>Xp<|Asg O<|aa<|ah<|ar<|Xp<|Mv O<|Mv O<|Mv O<|bU O (λ_=>bM _) O O<|Pk O O O<|Asg O<|aa<|aP O<|Xp<|Asg O<|aa<|ao<|Rr<|?_
  exact au O O (λw' hw'=>⟨rfl,ae hw'⟩)
 ·refine Hf func86 O hw<|λhGF=>Xp<|Asg O<|aa<|ah<|ar<|Xp<|Mv O<|Mv O<|Mv O<|bU O (λ_=>bM _) O O<|Pk O O O<|Asg O<|aa<|aH O<|Xp<|Mv O<|Mv O<|Mv O<|bU O (λ_=>bM _) O O<|Pk O O O<|Asg O<|aa<|aH O<|aw<|Xp<|Asg O<|aa<|ao<|Rr<|?_
  exact au O O (λw' hw'=>⟨rfl,ae hw'⟩)
end
section
open Go.RowKit
open Sh
def ZSd:List Value:=[.bool false,.bool false,.bool false,.bool false,I 0,I 0,U64 0,U64 0]
theorem zv145(w:World):(zeroValue 145).run prog w=.ok (.agg ZSd.toArray) w:=(zeroValue145 w).trans aE
theorem vZ(a b c d:Bool)(x:Int)(s t:BitVec 64)(w:World):(Instr.build 145 #[(0,.bool a),(1,.bool b),(2,.bool c),(3,.bool d),(4,I x),(6,U64 s),(7,U64 t)]).run prog w=.ok (.agg ([Value.bool a,.bool b,.bool c,.bool d,I x,I 0,U64 s,U64 t]:List Value).toArray) w:=
 cP (c:=ZSd) (ps:= #[(0,1),(1,1),(2,1),(3,1),(4,1),(5,1),(6,1),(7,1)]) zv145 underlying145 (λw=>by simp[sizeOf3,sizeOf4,sizeOf22]) [(0,.bool a),(1,.bool b),(2,.bool c),(3,.bool d),(4,I x),(6,U64 s),(7,U64 t)] aE w
theorem zg(c:Cf)(hc_:c.Ok)(u:Up)(hk:u.Ok)(hl:u.sy.bs.length<=1000)(w:World)(hw:Gt w)(hca:CellsAt w u.sy.ba (u.sy.bs.map .bool)):CLS 85 [.agg c.cs.toArray,.agg u.cs.toArray].toArray w (λe w'=>e=.returned (.agg (Sd c u).toArray)/\Grow w w'):=by
 refine Hf func85 O hw<|λhGF=>Xp<|Bx 2 hGF O<|λb2=>Bx 3 hGF O<|λb3=>Al 4 hGF zv145<|λb4=>aa<|Xp<|az (cs:=c.cs) O isAgg50 sizeOf50 (Cf.len hc_) (λw' hw' j v hv=>by have:=(av (n:=2) O w' hw') _ v (Cf.all j v hv);rwa [Nat.zero_add]at this) O O<|Fa 0 O underlying71 O sizeOf30<|Fa 0 O underlying30 O sizeOf22<|?_
 rcases Bool.eq_false_or_eq_true u.isn with hi|hi
 ·refine aU 3 O O ((bg (o:=0) (p:=0) (Up.l1) (Hd.a_s)) 0 (U64 u.at_.s) O) isAgg22 O O ?_
  rcases Bool.eq_false_or_eq_true u.isf with hf|hf
  ·refine Cc O ent122 (λw' hw' hG=>lK c hc_ (u.at_.s) w' hG)<|Asg O<|aa<|Xa [0,1,2,3,4,5,6,7,8,9,10,11,12,13,14,15,16,17,18,19,20,21,22,23,24,25,26,27,28,29,30,31,32,33,34,35,36] ⟨37,6,145,ZSd⟩ [38] (bA O zv145 O)<|Fa 597 O underlying71 O sizeOf69<|Fa 597 O underlying69 O sizeOf65<|aU 3 O O ((bg (o:=597) (p:=0) (Up.l6 hk) (Ag.a0)) 0 (.slice u.sy.ba u.sy.bs.length u.sy.bc) O) isAgg65 O O<|Cc O ent123 (λw' hw' hG=>og u.sy.bs om _ _ w' hG (hca.grow (ae hw')))<|az (cs:=u.cs) O isAgg71 sizeOf71 (Up.len hk) (λw' hw' j v hv=>by have:=(av (n:=3) O w' hw') _ v (dN j v hv);rwa [Nat.zero_add]at this) O O<|Cc O ent19 (λw' hw' hG=>mG u hk w' hG)<|?_
   rw[hi];refine Mv O<|Mv O<|az (cs:=c.cs) O isAgg50 sizeOf50 (Cf.len hc_) (λw' hw' j v hv=>by have:=(av (n:=2) O w' hw') _ v (Cf.all j v hv);rwa [Nat.zero_add]at this) O O<|Fa 694 O underlying71 O sizeOf22<|aU 3 O O ((Up.l7 hk) 0 (U64 u.sl) O) isAgg22 O O<|Cc O ent122 (λw' hw' hG=>lK c hc_ (u.sl) w' hG)<|Bnr (v:=.bool (decide (c.pe u.at_.s=c.pe u.sl))) O O (λ_=>(bC _ (c.pe u.at_.s) (c.pe u.sl)).trans (by rw[ni]))<|Pk O O O<|az (cs:=u.cs) O isAgg71 sizeOf71 (Up.len hk) (λw' hw' j v hv=>by have:=(av (n:=3) O w' hw') _ v (dN j v hv);rwa [Nat.zero_add]at this) O O<|Cc O ent21 (λw' hw' hG=>jc u hk w' hG)<|?_
   rw[hf];refine az (cs:=u.cs) O isAgg71 sizeOf71 (Up.len hk) (λw' hw' j v hv=>by have:=(av (n:=3) O w' hw') _ v (dN j v hv);rwa [Nat.zero_add]at this) O O<|Cc O ent21 (λw' hw' hG=>jc u hk w' hG)<|?_
   rw[hf];refine Mv O<|Mv O<|az (cs:=c.cs) O isAgg50 sizeOf50 (Cf.len hc_) (λw' hw' j v hv=>by have:=(av (n:=2) O w' hw') _ v (Cf.all j v hv);rwa [Nat.zero_add]at this) O O<|Fa 307 O underlying71 O sizeOf30<|Fa 307 O underlying30 O sizeOf22<|aU 3 O O ((bg (o:=307) (p:=0) (Up.l4 hk) (Hd.a_s)) 0 (U64 u.fi.s) O) isAgg22 O O<|Cc O ent122 (λw' hw' hG=>lK c hc_ (u.fi.s) w' hG)<|Bnr (v:=.bool (u.nea c)) O O (λ_=>(bC _ (c.pe u.at_.s) (c.pe u.fi.s)).trans (by rw[ni,show decide (c.pe u.at_.s=c.pe u.fi.s)=u.nea c from decide_eq_decide.2 ⟨Eq.symm,Eq.symm⟩]))<|Pk O O O<|Fa 597 O underlying71 O sizeOf69<|Fa 597 O underlying69 O sizeOf65<|aU 3 O O ((bg (o:=597) (p:=0) (Up.l6 hk) (Ag.a0)) 0 (.slice u.sy.ba u.sy.bs.length u.sy.bc) O) isAgg65 O O<|Cc O ent89 (λw' hw' hG=>mT u.sy.bs om _ _ w' hG (hca.grow (ae hw')))<|Fa 0 O underlying71 O sizeOf30<|Fa 0 O underlying30 O sizeOf22<|aU 3 O O ((bg (o:=0) (p:=0) (Up.l1) (Hd.a_s)) 0 (U64 u.at_.s) O) isAgg22 O O<|Fa 694 O underlying71 O sizeOf22<|aU 3 O O ((Up.l7 hk) 0 (U64 u.sl) O) isAgg22 O O<|ce (ps:=[(0,.tmp 15),(1,.tmp 25),(2,.tmp 27),(3,.tmp 38),(4,.tmp 42),(6,.tmp 45),(7,.tmp 47)]) (vs:=[.bool (dh u.sy.bs),.bool (decide (c.pe u.at_.s=c.pe u.sl)),.bool true,.bool (u.nea c),I (onN u.sy.bs:Int),U64 u.at_.s,U64 u.sl]) (v:=.agg ([Value.bool (dh u.sy.bs),.bool (decide (c.pe u.at_.s=c.pe u.sl)),.bool true,.bool (u.nea c),I (onN u.sy.bs:Int),I 0,U64 u.at_.s,U64 u.sl]:List Value).toArray) O (λw=>vZ _ _ _ _ _ _ _ w) O O<|aa<|?_
   refine ⟨_,_,rfl,hGF,by intro x hx;simp only[List.mem_cons,List.not_mem_nil,or_false]at hx;subst hx;rfl,by intro x hx;simp only[List.mem_cons,List.not_mem_nil,or_false]at hx;subst hx;rfl,λadr2=> ?_⟩
   refine ai 6 hGF O O O sizeOf145 O O aE O<|aa<|ah<|Xp<|Fa 0 O underlying145 O sizeOf4<|?_;rcases Bool.eq_false_or_eq_true (dh u.sy.bs)with hmo|hmo
   ·refine aU (v:=.bool true) 6 O O (by show some (Value.bool (dh u.sy.bs))=_;rw[hmo]) isAgg4 O O<|bU O (λ_=>bM _) O O<|aa<|aH O<|aw<|Xp<|aq 6 O O isAgg145 sizeOf145 O O O<|ai 4 hGF O O O sizeOf145 O O aE O<|aa<|ao<|Rr<|?_
    exact aF 4 O O O isAgg145 sizeOf145 O (λw' hw'=>⟨by rw[Sd,Up.fb,Up.rip,hi,hf,hmo];rfl,ae hw'⟩)
   ·refine aU (v:=.bool false) 6 O O (by show some (Value.bool (dh u.sy.bs))=_;rw[hmo]) isAgg4 O O<|bU O (λ_=>bM _) O O<|aa<|aP O<|Xq<|Fa 4 O underlying145 O sizeOf3<|aU 6 O O O isAgg3 O O<|Fa 5 O underlying145 O sizeOf3<|cL 6 hGF O O O sizeOf3 O (by show 5<8;decide) O<|aa<|Xp<|aq 6 O O isAgg145 sizeOf145 O O O<|ai 4 hGF O O O sizeOf145 O O aE O<|aa<|ao<|Rr<|?_
    exact aF 4 O O O isAgg145 sizeOf145 O (λw' hw'=>⟨by rw[Sd,Up.fb,Up.rip,hi,hf,hmo];rfl,ae hw'⟩)
  ·refine Cc O ent122 (λw' hw' hG=>lK c hc_ (u.at_.s) w' hG)<|Asg O<|aa<|Xa [0,1,2,3,4,5,6,7,8,9,10,11,12,13,14,15,16,17,18,19,20,21,22,23,24,25,26,27,28,29,30,31,32,33,34,35,36] ⟨37,6,145,ZSd⟩ [38] (bA O zv145 O)<|Fa 597 O underlying71 O sizeOf69<|Fa 597 O underlying69 O sizeOf65<|aU 3 O O ((bg (o:=597) (p:=0) (Up.l6 hk) (Ag.a0)) 0 (.slice u.sy.ba u.sy.bs.length u.sy.bc) O) isAgg65 O O<|Cc O ent123 (λw' hw' hG=>og u.sy.bs om _ _ w' hG (hca.grow (ae hw')))<|az (cs:=u.cs) O isAgg71 sizeOf71 (Up.len hk) (λw' hw' j v hv=>by have:=(av (n:=3) O w' hw') _ v (dN j v hv);rwa [Nat.zero_add]at this) O O<|Cc O ent19 (λw' hw' hG=>mG u hk w' hG)<|?_
   rw[hi];refine Mv O<|Mv O<|az (cs:=c.cs) O isAgg50 sizeOf50 (Cf.len hc_) (λw' hw' j v hv=>by have:=(av (n:=2) O w' hw') _ v (Cf.all j v hv);rwa [Nat.zero_add]at this) O O<|Fa 694 O underlying71 O sizeOf22<|aU 3 O O ((Up.l7 hk) 0 (U64 u.sl) O) isAgg22 O O<|Cc O ent122 (λw' hw' hG=>lK c hc_ (u.sl) w' hG)<|Bnr (v:=.bool (decide (c.pe u.at_.s=c.pe u.sl))) O O (λ_=>(bC _ (c.pe u.at_.s) (c.pe u.sl)).trans (by rw[ni]))<|Pk O O O<|az (cs:=u.cs) O isAgg71 sizeOf71 (Up.len hk) (λw' hw' j v hv=>by have:=(av (n:=3) O w' hw') _ v (dN j v hv);rwa [Nat.zero_add]at this) O O<|Cc O ent21 (λw' hw' hG=>jc u hk w' hG)<|?_
   rw[hf];refine az (cs:=u.cs) O isAgg71 sizeOf71 (Up.len hk) (λw' hw' j v hv=>by have:=(av (n:=3) O w' hw') _ v (dN j v hv);rwa [Nat.zero_add]at this) O O<|Cc O ent21 (λw' hw' hG=>jc u hk w' hG)<|?_
   rw[hf];refine Mv O<|Sk<|Sk<|Sk<|Sk<|Sk<|Sk<|Sk<|Pk O O O<|Fa 597 O underlying71 O sizeOf69<|Fa 597 O underlying69 O sizeOf65<|aU 3 O O ((bg (o:=597) (p:=0) (Up.l6 hk) (Ag.a0)) 0 (.slice u.sy.ba u.sy.bs.length u.sy.bc) O) isAgg65 O O<|Cc O ent89 (λw' hw' hG=>mT u.sy.bs om _ _ w' hG (hca.grow (ae hw')))<|Fa 0 O underlying71 O sizeOf30<|Fa 0 O underlying30 O sizeOf22<|aU 3 O O ((bg (o:=0) (p:=0) (Up.l1) (Hd.a_s)) 0 (U64 u.at_.s) O) isAgg22 O O<|Fa 694 O underlying71 O sizeOf22<|aU 3 O O ((Up.l7 hk) 0 (U64 u.sl) O) isAgg22 O O<|ce (ps:=[(0,.tmp 15),(1,.tmp 25),(2,.tmp 27),(3,.tmp 38),(4,.tmp 42),(6,.tmp 45),(7,.tmp 47)]) (vs:=[.bool (dh u.sy.bs),.bool (decide (c.pe u.at_.s=c.pe u.sl)),.bool false,.bool (false),I (onN u.sy.bs:Int),U64 u.at_.s,U64 u.sl]) (v:=.agg ([Value.bool (dh u.sy.bs),.bool (decide (c.pe u.at_.s=c.pe u.sl)),.bool false,.bool (false),I (onN u.sy.bs:Int),I 0,U64 u.at_.s,U64 u.sl]:List Value).toArray) O (λw=>vZ _ _ _ _ _ _ _ w) O O<|aa<|?_;refine ⟨_,_,rfl,hGF,by intro x hx;simp only[List.mem_cons,List.not_mem_nil,or_false]at hx;subst hx;rfl,by intro x hx;simp only[List.mem_cons,List.not_mem_nil,or_false]at hx;subst hx;rfl,λadr2=> ?_⟩
   refine ai 6 hGF O O O sizeOf145 O O aE O<|aa<|ah<|Xp<|Fa 0 O underlying145 O sizeOf4<|?_;rcases Bool.eq_false_or_eq_true (dh u.sy.bs)with hmo|hmo
   ·refine aU (v:=.bool true) 6 O O (by show some (Value.bool (dh u.sy.bs))=_;rw[hmo]) isAgg4 O O<|bU O (λ_=>bM _) O O<|aa<|aH O<|aw<|Xp<|aq 6 O O isAgg145 sizeOf145 O O O<|ai 4 hGF O O O sizeOf145 O O aE O<|aa<|ao<|Rr<|?_
    exact aF 4 O O O isAgg145 sizeOf145 O (λw' hw'=>⟨by rw[Sd,Up.fb,Up.rip,hi,hf,hmo];rfl,ae hw'⟩)
   ·refine aU (v:=.bool false) 6 O O (by show some (Value.bool (dh u.sy.bs))=_;rw[hmo]) isAgg4 O O<|bU O (λ_=>bM _) O O<|aa<|aP O<|Xq<|Fa 4 O underlying145 O sizeOf3<|aU 6 O O O isAgg3 O O<|Fa 5 O underlying145 O sizeOf3<|cL 6 hGF O O O sizeOf3 O (by show 5<8;decide) O<|aa<|Xp<|aq 6 O O isAgg145 sizeOf145 O O O<|ai 4 hGF O O O sizeOf145 O O aE O<|aa<|ao<|Rr<|?_
    exact aF 4 O O O isAgg145 sizeOf145 O (λw' hw'=>⟨by rw[Sd,Up.fb,Up.rip,hi,hf,hmo];rfl,ae hw'⟩)
 ·refine aU 3 O O ((bg (o:=0) (p:=0) (Up.l1) (Hd.a_s)) 0 (U64 u.at_.s) O) isAgg22 O O ?_
  rcases Bool.eq_false_or_eq_true u.isf with hf|hf
  ·refine Cc O ent122 (λw' hw' hG=>lK c hc_ (u.at_.s) w' hG)<|Asg O<|aa<|Xa [0,1,2,3,4,5,6,7,8,9,10,11,12,13,14,15,16,17,18,19,20,21,22,23,24,25,26,27,28,29,30,31,32,33,34,35,36] ⟨37,6,145,ZSd⟩ [38] (bA O zv145 O)<|Fa 597 O underlying71 O sizeOf69<|Fa 597 O underlying69 O sizeOf65<|aU 3 O O ((bg (o:=597) (p:=0) (Up.l6 hk) (Ag.a0)) 0 (.slice u.sy.ba u.sy.bs.length u.sy.bc) O) isAgg65 O O<|Cc O ent123 (λw' hw' hG=>og u.sy.bs om _ _ w' hG (hca.grow (ae hw')))<|az (cs:=u.cs) O isAgg71 sizeOf71 (Up.len hk) (λw' hw' j v hv=>by have:=(av (n:=3) O w' hw') _ v (dN j v hv);rwa [Nat.zero_add]at this) O O<|Cc O ent19 (λw' hw' hG=>mG u hk w' hG)<|?_
   rw[hi];refine Mv O<|Sk<|Sk<|Sk<|Sk<|Sk<|Sk<|Pk O O O<|az (cs:=u.cs) O isAgg71 sizeOf71 (Up.len hk) (λw' hw' j v hv=>by have:=(av (n:=3) O w' hw') _ v (dN j v hv);rwa [Nat.zero_add]at this) O O<|Cc O ent21 (λw' hw' hG=>jc u hk w' hG)<|?_
   rw[hf];refine az (cs:=u.cs) O isAgg71 sizeOf71 (Up.len hk) (λw' hw' j v hv=>by have:=(av (n:=3) O w' hw') _ v (dN j v hv);rwa [Nat.zero_add]at this) O O<|Cc O ent21 (λw' hw' hG=>jc u hk w' hG)<|?_
   rw[hf];refine Mv O<|Mv O<|az (cs:=c.cs) O isAgg50 sizeOf50 (Cf.len hc_) (λw' hw' j v hv=>by have:=(av (n:=2) O w' hw') _ v (Cf.all j v hv);rwa [Nat.zero_add]at this) O O<|Fa 307 O underlying71 O sizeOf30<|Fa 307 O underlying30 O sizeOf22<|aU 3 O O ((bg (o:=307) (p:=0) (Up.l4 hk) (Hd.a_s)) 0 (U64 u.fi.s) O) isAgg22 O O<|Cc O ent122 (λw' hw' hG=>lK c hc_ (u.fi.s) w' hG)<|Bnr (v:=.bool (u.nea c)) O O (λ_=>(bC _ (c.pe u.at_.s) (c.pe u.fi.s)).trans (by rw[ni,show decide (c.pe u.at_.s=c.pe u.fi.s)=u.nea c from decide_eq_decide.2 ⟨Eq.symm,Eq.symm⟩]))<|Pk O O O<|Fa 597 O underlying71 O sizeOf69<|Fa 597 O underlying69 O sizeOf65<|aU 3 O O ((bg (o:=597) (p:=0) (Up.l6 hk) (Ag.a0)) 0 (.slice u.sy.ba u.sy.bs.length u.sy.bc) O) isAgg65 O O<|Cc O ent89 (λw' hw' hG=>mT u.sy.bs om _ _ w' hG (hca.grow (ae hw')))<|Fa 0 O underlying71 O sizeOf30<|Fa 0 O underlying30 O sizeOf22<|aU 3 O O ((bg (o:=0) (p:=0) (Up.l1) (Hd.a_s)) 0 (U64 u.at_.s) O) isAgg22 O O<|Fa 694 O underlying71 O sizeOf22<|aU 3 O O ((Up.l7 hk) 0 (U64 u.sl) O) isAgg22 O O<|ce (ps:=[(0,.tmp 15),(1,.tmp 25),(2,.tmp 27),(3,.tmp 38),(4,.tmp 42),(6,.tmp 45),(7,.tmp 47)]) (vs:=[.bool (dh u.sy.bs),.bool (false),.bool true,.bool (u.nea c),I (onN u.sy.bs:Int),U64 u.at_.s,U64 u.sl]) (v:=.agg ([Value.bool (dh u.sy.bs),.bool (false),.bool true,.bool (u.nea c),I (onN u.sy.bs:Int),I 0,U64 u.at_.s,U64 u.sl]:List Value).toArray) O (λw=>vZ _ _ _ _ _ _ _ w) O O<|aa<|?_
   refine ⟨_,_,rfl,hGF,by intro x hx;simp only[List.mem_cons,List.not_mem_nil,or_false]at hx;subst hx;rfl,by intro x hx;simp only[List.mem_cons,List.not_mem_nil,or_false]at hx;subst hx;rfl,λadr2=> ?_⟩
   refine ai 6 hGF O O O sizeOf145 O O aE O<|aa<|ah<|Xp<|Fa 0 O underlying145 O sizeOf4<|?_;rcases Bool.eq_false_or_eq_true (dh u.sy.bs)with hmo|hmo
   ·refine aU (v:=.bool true) 6 O O (by show some (Value.bool (dh u.sy.bs))=_;rw[hmo]) isAgg4 O O<|bU O (λ_=>bM _) O O<|aa<|aH O<|aw<|Xp<|aq 6 O O isAgg145 sizeOf145 O O O<|ai 4 hGF O O O sizeOf145 O O aE O<|aa<|ao<|Rr<|?_
    exact aF 4 O O O isAgg145 sizeOf145 O (λw' hw'=>⟨by rw[Sd,Up.fb,Up.rip,hi,hf,hmo];rfl,ae hw'⟩)
   ·refine aU (v:=.bool false) 6 O O (by show some (Value.bool (dh u.sy.bs))=_;rw[hmo]) isAgg4 O O<|bU O (λ_=>bM _) O O<|aa<|aP O<|Xq<|Fa 4 O underlying145 O sizeOf3<|aU 6 O O O isAgg3 O O<|Fa 5 O underlying145 O sizeOf3<|cL 6 hGF O O O sizeOf3 O (by show 5<8;decide) O<|aa<|Xp<|aq 6 O O isAgg145 sizeOf145 O O O<|ai 4 hGF O O O sizeOf145 O O aE O<|aa<|ao<|Rr<|?_
    exact aF 4 O O O isAgg145 sizeOf145 O (λw' hw'=>⟨by rw[Sd,Up.fb,Up.rip,hi,hf,hmo];rfl,ae hw'⟩)
  ·refine Cc O ent122 (λw' hw' hG=>lK c hc_ (u.at_.s) w' hG)<|Asg O<|aa<|Xa [0,1,2,3,4,5,6,7,8,9,10,11,12,13,14,15,16,17,18,19,20,21,22,23,24,25,26,27,28,29,30,31,32,33,34,35,36] ⟨37,6,145,ZSd⟩ [38] (bA O zv145 O)<|Fa 597 O underlying71 O sizeOf69<|Fa 597 O underlying69 O sizeOf65<|aU 3 O O ((bg (o:=597) (p:=0) (Up.l6 hk) (Ag.a0)) 0 (.slice u.sy.ba u.sy.bs.length u.sy.bc) O) isAgg65 O O<|Cc O ent123 (λw' hw' hG=>og u.sy.bs om _ _ w' hG (hca.grow (ae hw')))<|az (cs:=u.cs) O isAgg71 sizeOf71 (Up.len hk) (λw' hw' j v hv=>by have:=(av (n:=3) O w' hw') _ v (dN j v hv);rwa [Nat.zero_add]at this) O O<|Cc O ent19 (λw' hw' hG=>mG u hk w' hG)<|?_
   rw[hi];refine Mv O<|Sk<|Sk<|Sk<|Sk<|Sk<|Sk<|Pk O O O<|az (cs:=u.cs) O isAgg71 sizeOf71 (Up.len hk) (λw' hw' j v hv=>by have:=(av (n:=3) O w' hw') _ v (dN j v hv);rwa [Nat.zero_add]at this) O O<|Cc O ent21 (λw' hw' hG=>jc u hk w' hG)<|?_
   rw[hf];refine az (cs:=u.cs) O isAgg71 sizeOf71 (Up.len hk) (λw' hw' j v hv=>by have:=(av (n:=3) O w' hw') _ v (dN j v hv);rwa [Nat.zero_add]at this) O O<|Cc O ent21 (λw' hw' hG=>jc u hk w' hG)<|?_
   rw[hf];refine Mv O<|Sk<|Sk<|Sk<|Sk<|Sk<|Sk<|Sk<|Pk O O O<|Fa 597 O underlying71 O sizeOf69<|Fa 597 O underlying69 O sizeOf65<|aU 3 O O ((bg (o:=597) (p:=0) (Up.l6 hk) (Ag.a0)) 0 (.slice u.sy.ba u.sy.bs.length u.sy.bc) O) isAgg65 O O<|Cc O ent89 (λw' hw' hG=>mT u.sy.bs om _ _ w' hG (hca.grow (ae hw')))<|Fa 0 O underlying71 O sizeOf30<|Fa 0 O underlying30 O sizeOf22<|aU 3 O O ((bg (o:=0) (p:=0) (Up.l1) (Hd.a_s)) 0 (U64 u.at_.s) O) isAgg22 O O<|Fa 694 O underlying71 O sizeOf22<|aU 3 O O ((Up.l7 hk) 0 (U64 u.sl) O) isAgg22 O O<|ce (ps:=[(0,.tmp 15),(1,.tmp 25),(2,.tmp 27),(3,.tmp 38),(4,.tmp 42),(6,.tmp 45),(7,.tmp 47)]) (vs:=[.bool (dh u.sy.bs),.bool (false),.bool false,.bool (false),I (onN u.sy.bs:Int),U64 u.at_.s,U64 u.sl]) (v:=.agg ([Value.bool (dh u.sy.bs),.bool (false),.bool false,.bool (false),I (onN u.sy.bs:Int),I 0,U64 u.at_.s,U64 u.sl]:List Value).toArray) O (λw=>vZ _ _ _ _ _ _ _ w) O O<|aa<|?_;refine ⟨_,_,rfl,hGF,by intro x hx;simp only[List.mem_cons,List.not_mem_nil,or_false]at hx;subst hx;rfl,by intro x hx;simp only[List.mem_cons,List.not_mem_nil,or_false]at hx;subst hx;rfl,λadr2=> ?_⟩
   refine ai 6 hGF O O O sizeOf145 O O aE O<|aa<|ah<|Xp<|Fa 0 O underlying145 O sizeOf4<|?_;rcases Bool.eq_false_or_eq_true (dh u.sy.bs)with hmo|hmo
   ·refine aU (v:=.bool true) 6 O O (by show some (Value.bool (dh u.sy.bs))=_;rw[hmo]) isAgg4 O O<|bU O (λ_=>bM _) O O<|aa<|aH O<|aw<|Xp<|aq 6 O O isAgg145 sizeOf145 O O O<|ai 4 hGF O O O sizeOf145 O O aE O<|aa<|ao<|Rr<|?_
    exact aF 4 O O O isAgg145 sizeOf145 O (λw' hw'=>⟨by rw[Sd,Up.fb,Up.rip,hi,hf,hmo];rfl,ae hw'⟩)
   ·refine aU (v:=.bool false) 6 O O (by show some (Value.bool (dh u.sy.bs))=_;rw[hmo]) isAgg4 O O<|bU O (λ_=>bM _) O O<|aa<|aP O<|Xq<|Fa 4 O underlying145 O sizeOf3<|aU 6 O O O isAgg3 O O<|Fa 5 O underlying145 O sizeOf3<|cL 6 hGF O O O sizeOf3 O (by show 5<8;decide) O<|aa<|Xp<|aq 6 O O isAgg145 sizeOf145 O O O<|ai 4 hGF O O O sizeOf145 O O aE O<|aa<|ao<|Rr<|?_
    exact aF 4 O O O isAgg145 sizeOf145 O (λw' hw'=>⟨by rw[Sd,Up.fb,Up.rip,hi,hf,hmo];rfl,ae hw'⟩)
end
end Go.Proofs.YtfakhlafilbjkaaGreatDoor
