/- Y1 -/
import Derived.Test.YtfakhlafilbjkaaGreatDoorY0
import Derived.Test.YtfakhlafilbjkaaGreatDoorL4
import Derived.SizedLaws
namespace Go.Proofs.YtfakhlafilbjkaaGreatDoor
open Go.Proofs.Tryz
open Go.ChangeShapes Go.WideShapes Go.ChangeAt Go.RowKit
set_option maxRecDepth 100000
theorem xm{n:Int}(h:(Lit.int .u64 n).wf=true): ∃x:BitVec 64,(.int .u64 n:Value)=U64 x:=by
 simp only[Lit.wf,Bool.and_eq_true,decide_eq_true_eq]at h;have h1:IntKind.u64.min=0:=rfl;have h2:IntKind.u64.max=18446744073709551615:=rfl;rw[h1,h2]at h;refine ⟨BitVec.ofNat 64 n.toNat, ?_⟩;simp only[U64,BitVec.toNat_ofNat];congr 1;omega
theorem co5:prog.cellsOf 5=1:=kr
theorem co4:prog.cellsOf 4=1:=kr
theorem zY:prog.cellsOf 22=1:=kr
theorem co65:prog.cellsOf 65=1:=kr
theorem Jp:prog.cellsOf 31=1:=kr
theorem co51:prog.cellsOf 51=1:=kr
theorem xi:prog.cellsOf 28=32:=kr
theorem Gg:prog.cellsOf 33=48:=kr
theorem KO:prog.cellsOf 67=96:=kr
theorem KJ:prog.cellsOf 36=160:=kr
theorem Kp:prog.cellsOf 64=192:=kr
theorem BI:prog.cellsOf 30=98:=kr
theorem uw:prog.cellsOf 35=49:=kr
theorem JM:prog.cellsOf 69=97:=kr
theorem co71:prog.cellsOf 71=695:=kr
theorem co53:prog.cellsOf 53=297:=kr
theorem AP{n:Int}(h:(Lit.int .u8 n).wf=true): ∃x:BitVec 8,(.int .u8 n:Value)=U8 x:=by
 simp only[Lit.wf,Bool.and_eq_true,decide_eq_true_eq]at h;have h1:IntKind.u8.min=0:=rfl;have h2:IntKind.u8.max=255:=rfl;rw[h1,h2]at h;refine ⟨BitVec.ofNat 8 n.toNat, ?_⟩;simp only[U8,BitVec.toNat_ofNat];congr 1;omega
theorem mT: ∀(cs:List Value),(∀(j:Nat) (v:Value),cs[j]? =some v->∃x:BitVec 8,v=U8 x)->∃r:L8,cs=r.map U8
 |[],_=>⟨[],rfl⟩
 |c::cs,h=>by
  obtain ⟨x,rfl⟩:=h 0 c O;obtain ⟨r,rfl⟩:=mT cs (λj v hv=>h (j+1) v hv);exact ⟨x::r,rfl⟩
def KB{H:Type}(x:DataW H):Bool:=match x with
 | .lit (.bool b)=>b
 |_=>false
theorem dI(cs:List Value)(p n q:Nat)(h:p+n=q):cs.drop p=(cs.drop p).take n++cs.drop q:=by
 subst h
 conv=>lhs;rw[<-List.take_append_drop n (cs.drop p),List.drop_drop]
section
variable {W:World} {H:Type} {enc:TypeId×Value->H} {base:Nat} {spare:Nat->Bool} {held:Bool} {fuel:Nat}
theorem tS{cs:List Value}{x:DataW H×List MemPlace}(hf:DataW.trod enc prog W base spare held fuel 28 cs=some x): ∃r:By,r.length=32/\cs=r.map U8:=by
 obtain ⟨xs,m,rfl,rfl,hl,hx,hF⟩:=DataW.trod_array underlying28 hf;rw[xi]at hl;obtain ⟨r,hr⟩:=mT cs (λj v hv=>by
  have hj:j<32:=by rw[<-hl];exact (List.getElem?_eq_some_iff.1 hv).1
  have h1:=hF j hj;rw[co5,Nat.mul_one,List.getElem?_eq_getElem om]at h1;have h2:(cs.drop j).take 1=[v]:=by
   obtain ⟨hlt,he⟩:=List.getElem?_eq_some_iff.1 hv;rw[List.drop_eq_getElem_cons hlt,he];rfl
  rw[h2]at h1;obtain ⟨n,e1,_,w1⟩:=DataW.trod_int underlying5 h1;obtain ⟨y,hy⟩:=AP w1;exact ⟨y,by rw[<-hy];simpa using e1⟩)
 exact ⟨r,by rw[hr,List.length_map]at hl;exact hl,hr⟩
theorem Et{cs:List Value}{x:DataW H×List MemPlace}(hf:DataW.trod enc prog W base spare held fuel 33 cs=some x): ∃r:By,r.length=48/\cs=r.map U8:=by
 obtain ⟨xs,m,rfl,rfl,hl,hx,hF⟩:=DataW.trod_array underlying33 hf;rw[Gg]at hl;obtain ⟨r,hr⟩:=mT cs (λj v hv=>by
  have hj:j<48:=by rw[<-hl];exact (List.getElem?_eq_some_iff.1 hv).1
  have h1:=hF j hj;rw[co5,Nat.mul_one,List.getElem?_eq_getElem om]at h1;have h2:(cs.drop j).take 1=[v]:=by
   obtain ⟨hlt,he⟩:=List.getElem?_eq_some_iff.1 hv;rw[List.drop_eq_getElem_cons hlt,he];rfl
  rw[h2]at h1;obtain ⟨n,e1,_,w1⟩:=DataW.trod_int underlying5 h1;obtain ⟨y,hy⟩:=AP w1;exact ⟨y,by rw[<-hy];simpa using e1⟩)
 exact ⟨r,by rw[hr,List.length_map]at hl;exact hl,hr⟩
theorem Jz{cs:List Value}{x:DataW H×List MemPlace}(hf:DataW.trod enc prog W base spare held fuel 67 cs=some x): ∃r:By,r.length=96/\cs=r.map U8:=by
 obtain ⟨xs,m,rfl,rfl,hl,hx,hF⟩:=DataW.trod_array underlying67 hf;rw[KO]at hl;obtain ⟨r,hr⟩:=mT cs (λj v hv=>by
  have hj:j<96:=by rw[<-hl];exact (List.getElem?_eq_some_iff.1 hv).1
  have h1:=hF j hj;rw[co5,Nat.mul_one,List.getElem?_eq_getElem om]at h1;have h2:(cs.drop j).take 1=[v]:=by
   obtain ⟨hlt,he⟩:=List.getElem?_eq_some_iff.1 hv;rw[List.drop_eq_getElem_cons hlt,he];rfl
  rw[h2]at h1;obtain ⟨n,e1,_,w1⟩:=DataW.trod_int underlying5 h1;obtain ⟨y,hy⟩:=AP w1;exact ⟨y,by rw[<-hy];simpa using e1⟩)
 exact ⟨r,by rw[hr,List.length_map]at hl;exact hl,hr⟩
theorem Lg{cs:List Value}{x:DataW H×List MemPlace}(hf:DataW.trod enc prog W base spare held fuel 36 cs=some x): ∃r:By,r.length=160/\cs=r.map U8:=by
 obtain ⟨xs,m,rfl,rfl,hl,hx,hF⟩:=DataW.trod_array underlying36 hf;rw[KJ]at hl;obtain ⟨r,hr⟩:=mT cs (λj v hv=>by
  have hj:j<160:=by rw[<-hl];exact (List.getElem?_eq_some_iff.1 hv).1
  have h1:=hF (j / 32) om;rw[xi,List.getElem?_eq_getElem om]at h1;obtain ⟨r,h2,h3⟩:=tS h1;have h4:(r.map U8)[j % 32]? =some v:=by
   rw[<-h3,List.getElem?_take,if_pos om,List.getElem?_drop,show j / 32*32+j % 32=j by omega]
   exact hv
  rw[List.getElem?_map,Option.map_eq_some_iff]at h4;obtain ⟨y,_,hy⟩:=h4;exact ⟨y,hy.symm⟩)
 exact ⟨r,by rw[hr,List.length_map]at hl;exact hl,hr⟩
theorem KQ{cs:List Value}{x:DataW H×List MemPlace}(hf:DataW.trod enc prog W base spare held fuel 64 cs=some x): ∃r:By,r.length=192/\cs=r.map U8:=by
 obtain ⟨xs,m,rfl,rfl,hl,hx,hF⟩:=DataW.trod_array underlying64 hf;rw[Kp]at hl;obtain ⟨r,hr⟩:=mT cs (λj v hv=>by
  have hj:j<192:=by rw[<-hl];exact (List.getElem?_eq_some_iff.1 hv).1
  have h1:=hF (j / 32) om;rw[xi,List.getElem?_eq_getElem om]at h1;obtain ⟨r,h2,h3⟩:=tS h1;have h4:(r.map U8)[j % 32]? =some v:=by
   rw[<-h3,List.getElem?_take,if_pos om,List.getElem?_drop,show j / 32*32+j % 32=j by omega]
   exact hv
  rw[List.getElem?_map,Option.map_eq_some_iff]at h4;obtain ⟨y,_,hy⟩:=h4;exact ⟨y,hy.symm⟩)
 exact ⟨r,by rw[hr,List.length_map]at hl;exact hl,hr⟩
theorem isU{c:Value}{x:DataW H×List MemPlace}(hf:DataW.trod enc prog W base spare held fuel 22 [c]=some x): ∃u:BitVec 64,c=U64 u:=by
 obtain ⟨k,e,_,w⟩:=DataW.trod_int underlying22 hf;obtain ⟨u,hu⟩:=xm w;exact ⟨u,by rw[<-hu];simpa using e⟩
theorem zu{cs:List Value}{x:DataW H×List MemPlace}(hl:cs.length=1)(hf:DataW.trod enc prog W base spare held fuel 22 cs=some x): ∃u:BitVec 64,cs=[U64 u]:=by
 match cs,hl with
 |[c],_=>
  obtain ⟨u,rfl⟩:=isU hf;exact ⟨u,rfl⟩
theorem FU{c:Value}{x:DataW H×List MemPlace}(hf:DataW.trod enc prog W base spare held fuel 65 [c]=some x): ∃a cap,∃ls:List Bool,c=.slice a ls.length cap/\ls.length<=cap/\CellsAt W a (ls.map .bool):=by
 rcases DataW.trod_slice underlying65 hf with ⟨e1,_⟩|⟨b,l,c',elems,rest,n,_,e1,ex,_,hcap,_,hlen,hel,_⟩
 ·cases e1
  exact ⟨none,0,[],rfl,Nat.le_refl _,λj v hv=>by simp at hv⟩
 ·cases e1
  subst hlen;refine ⟨some b,c',elems.map (λx=>KB x.1),by rw[List.length_map],by rw[List.length_map];exact hcap,λj v hv=> ?_⟩
  rw[List.map_map,List.getElem?_map,Option.map_eq_some_iff]at hv;obtain ⟨y,hy,rfl⟩:=hv;have hj:j<elems.length:=(List.getElem?_eq_some_iff.1 hy).1;have hE:=hel j hj;rw[co4,Nat.mul_one,hy,Option.bind_eq_some_iff]at hE;obtain ⟨c1,hc1,hy2⟩:=hE;obtain ⟨b1,e2,e3⟩:=DataW.trod_bool underlying4 hy2;subst e2 e3;refine ⟨b,rfl, ?_⟩;have:=(iW hc1).2 0 _ O;rw[show (b.add j).add 0=b.add j from by simp[Addr.add]]at this
  exact this
theorem Fu{c:Value}{x:DataW H×List MemPlace}(hf:DataW.trod enc prog W base spare held fuel 31 [c]=some x): ∃a cap,∃l:List By,c=.slice a l.length cap/\l.length<=cap/\(∀r∈l,r.length=48)/\RwsAt 48 W a l:=by
 rcases DataW.trod_slice underlying31 hf with ⟨e1,_⟩|⟨a',len,cap',elems,rest,n,_,e1,ex,_,hl,_,hlen,hel,_⟩
 ·cases e1
  exact ⟨none,0,[],rfl,Nat.le_refl _,λ_ h=>by simp at h,λi s hs=>by simp at hs⟩
 ·cases e1
  have each: ∀i,i<len->∃r:By,r.length=48/\∀j v,(r.map U8)[j]? =some v->W.cell? ((a'.add (i*48)).add j)=some v:=λi hi=>by
   have hE:=hel i hi;rw[Gg,List.getElem?_eq_getElem om,Option.bind_eq_some_iff]at hE;obtain ⟨c1,hc1,hy⟩:=hE;obtain ⟨r,h1,rfl⟩:=Et hy;exact ⟨r,h1,(iW hc1).2⟩
  refine ⟨some a',cap',(List.range len).map (λi=>if h:i<len then Classical.choose (each i h)else []),aB,by simpa using hl,λr hr=> ?_,λi r hr=> ?_⟩
  ·obtain ⟨i,hi,rfl⟩:=List.mem_map.1 hr
   have hlt:=List.mem_range.1 hi;rw[dif_pos hlt];exact (Classical.choose_spec (each i hlt)).1
  ·rw[List.getElem?_map,Option.map_eq_some_iff]at hr
   obtain ⟨j,hj,rfl⟩:=hr;obtain ⟨h1,h2⟩:=List.getElem?_eq_some_iff.1 hj;simp only[List.getElem_range]at h2;subst h2;have hlt:i<len:=by simpa using h1
   rw[dif_pos hlt];exact ⟨a',rfl,(Classical.choose_spec (each i hlt)).2⟩
theorem isSl{t e:TypeId}(hu:prog.underlying t=some (.slice e)){cs:List Value}{x:DataW H×List MemPlace}(hf:DataW.trod enc prog W base spare held fuel t cs=some x): ∃a n c,cs=[.slice a n c]:=by
 rcases DataW.trod_slice hu hf with ⟨e1,_⟩|⟨b,l,c',elems,rest,_,_,e1,_⟩
 ·exact ⟨none,0,0,e1⟩
 ·exact ⟨some b,l,c',e1⟩
theorem I2:prog.bytesOf 33=48:=kr
theorem Bz:reachBytes<=140737488355328:=aC
theorem Db{a:Option Addr}{l c:Nat}{x:DataW H×List MemPlace}(hf:DataW.trod enc prog W base spare held fuel 31 [.slice a l c]=some x)(hz: ∀n∈x.1.weights prog 31,n<=reachBytes):l<=140737488355328:=by
 rcases DataW.trod_slice underlying31 hf with ⟨e1,_⟩|⟨b,l',c',elems,rest,_,_,e1,ex,_,_,_,hlen,_⟩
 ·cases e1;exact Nat.zero_le _
 ·cases e1
  subst ex;have:=hz ((elems.length+rest.length)*prog.bytesOf 33) (by simp[DataW.weights,underlying31])
  rw[I2]at this;have:=Bz;omega
theorem DS{cs:List Value}{x:DataW H×List MemPlace}(hf:DataW.trod enc prog W base spare held fuel 30 cs=some x): ∃h:Hd,h.Ok/\cs=h.cs:=by
 obtain ⟨xs,n,rfl,rfl,hl,hx,hF⟩:=DataW.trod_struct underlying30 hf;rw[BI]at hl;have hxn:xs.length=5:=hx.trans O
 match xs,hxn with
 |[y0,y1,y2,y3,y4],_=>
 have h0:DataW.trod enc prog W base spare held n 22 ((cs.drop 0).take (prog.cellsOf 22))=some y0:=hF 0 _ O;rw[zY]at h0;have h1:DataW.trod enc prog W base spare held n 22 ((cs.drop 1).take (prog.cellsOf 22))=some y1:=hF 1 _ O;rw[zY]at h1;have h2:DataW.trod enc prog W base spare held n 28 ((cs.drop 2).take (prog.cellsOf 28))=some y2:=hF 2 _ O;rw[xi]at h2;have h3:DataW.trod enc prog W base spare held n 28 ((cs.drop 34).take (prog.cellsOf 28))=some y3:=hF 3 _ O;rw[xi]at h3;have h4:DataW.trod enc prog W base spare held n 28 ((cs.drop 66).take (prog.cellsOf 28))=some y4:=hF 4 _ O;rw[xi]at h4;obtain ⟨u0,q0⟩:=zu (by rw[List.length_take,List.length_drop];omega) h0
 obtain ⟨u1,q1⟩:=zu (by rw[List.length_take,List.length_drop];omega) h1
 obtain ⟨r2,n2,q2⟩:=tS h2;obtain ⟨r3,n3,q3⟩:=tS h3;obtain ⟨r4,n4,q4⟩:=tS h4;have e:cs=cs.drop 0:=rfl;rw[dI cs 0 1 1 O,dI cs 1 1 2 O,dI cs 2 32 34 O,dI cs 34 32 66 O,dI cs 66 32 98 O,List.drop_of_length_le (by omega:cs.length<=98)]at e
 rw[q0,q1,q2,q3,q4,List.append_nil]at e;exact ⟨⟨u0,u1,r2,r3,r4⟩,⟨n2,n3,n4⟩,e⟩
theorem HD{cs:List Value}{x:DataW H×List MemPlace}(hf:DataW.trod enc prog W base spare held fuel 35 cs=some x): ∃c:Co,c.Ok/\cs=c.cs/\RwsAt 48 W c.ka c.ks:=by
 obtain ⟨xs,n,rfl,rfl,hl,hx,hF⟩:=DataW.trod_struct underlying35 hf;rw[uw]at hl;have hxn:xs.length=2:=hx.trans O
 match xs,hxn with
 |[y0,y1],_=>
 have h0:DataW.trod enc prog W base spare held n 31 ((cs.drop 0).take (prog.cellsOf 31))=some y0:=hF 0 _ O;rw[Jp]at h0;have h1:DataW.trod enc prog W base spare held n 33 ((cs.drop 1).take (prog.cellsOf 33))=some y1:=hF 1 _ O;rw[Gg]at h1;obtain ⟨v0,w0⟩: ∃v,(cs.drop 0).take 1=[v]:=by
  match cs,hl with
  |c::r,_=>exact ⟨c,rfl⟩
 rw[w0]at h0;obtain ⟨a,cap,l,rfl,hc,hk,hr⟩:=Fu h0;obtain ⟨r1,n1,q1⟩:=Et h1;have e:cs=cs.drop 0:=rfl;rw[dI cs 0 1 1 O,dI cs 1 48 49 O,List.drop_of_length_le (by omega:cs.length<=49)]at e
 rw[w0,q1,List.append_nil]at e;exact ⟨⟨l,a,cap,r1⟩,⟨hk,n1,hc⟩,e,hr⟩
theorem isAg{cs:List Value}{x:DataW H×List MemPlace}(hf:DataW.trod enc prog W base spare held fuel 69 cs=some x): ∃c:Ag,c.Ok/\cs=c.cs/\CellsAt W c.ba (c.bs.map .bool)/\c.bs.length<=c.bc:=by
 obtain ⟨xs,n,rfl,rfl,hl,hx,hF⟩:=DataW.trod_struct underlying69 hf;rw[JM]at hl;have hxn:xs.length=2:=hx.trans O
 match xs,hxn with
 |[y0,y1],_=>
 have h0:DataW.trod enc prog W base spare held n 65 ((cs.drop 0).take (prog.cellsOf 65))=some y0:=hF 0 _ O;rw[co65]at h0;have h1:DataW.trod enc prog W base spare held n 67 ((cs.drop 1).take (prog.cellsOf 67))=some y1:=hF 1 _ O;rw[KO]at h1;obtain ⟨v0,w0⟩: ∃v,(cs.drop 0).take 1=[v]:=by
  match cs,hl with
  |c::r,_=>exact ⟨c,rfl⟩
 rw[w0]at h0;obtain ⟨a,cap,l,rfl,hc,hr⟩:=FU h0;obtain ⟨r1,n1,q1⟩:=Jz h1;have e:cs=cs.drop 0:=rfl;rw[dI cs 0 1 1 O,dI cs 1 96 97 O,List.drop_of_length_le (by omega:cs.length<=97)]at e
 rw[w0,q1,List.append_nil]at e;exact ⟨⟨l,a,cap,r1⟩,⟨n1⟩,e,hr,hc⟩
theorem isUp{cs:List Value}{x:DataW H×List MemPlace}(hf:DataW.trod enc prog W base spare held fuel 71 cs=some x): ∃u:Up,u.Ok/\cs=u.cs/\RwsAt 48 W u.nx.ka u.nx.ks/\CellsAt W u.sy.ba (u.sy.bs.map .bool)/\u.sy.bs.length<=u.sy.bc:=by
 obtain ⟨xs,n,rfl,rfl,hl,hx,hF⟩:=DataW.trod_struct underlying71 hf;rw[co71]at hl;have hxn:xs.length=7:=hx.trans O
 match xs,hxn with
 |[y0,y1,y2,y3,y4,y5,y6],_=>
 have h0:DataW.trod enc prog W base spare held n 30 ((cs.drop 0).take (prog.cellsOf 30))=some y0:=hF 0 _ O;rw[BI]at h0;have h1:DataW.trod enc prog W base spare held n 35 ((cs.drop 98).take (prog.cellsOf 35))=some y1:=hF 1 _ O;rw[uw]at h1;have h2:DataW.trod enc prog W base spare held n 36 ((cs.drop 147).take (prog.cellsOf 36))=some y2:=hF 2 _ O;rw[KJ]at h2;have h3:DataW.trod enc prog W base spare held n 30 ((cs.drop 307).take (prog.cellsOf 30))=some y3:=hF 3 _ O;rw[BI]at h3;have h4:DataW.trod enc prog W base spare held n 64 ((cs.drop 405).take (prog.cellsOf 64))=some y4:=hF 4 _ O;rw[Kp]at h4;have h5:DataW.trod enc prog W base spare held n 69 ((cs.drop 597).take (prog.cellsOf 69))=some y5:=hF 5 _ O;rw[JM]at h5;have h6:DataW.trod enc prog W base spare held n 22 ((cs.drop 694).take (prog.cellsOf 22))=some y6:=hF 6 _ O;rw[zY]at h6;obtain ⟨d0,k0,q0⟩:=DS h0;obtain ⟨d1,k1,q1,m1⟩:=HD h1;obtain ⟨r2,n2,q2⟩:=Lg h2;obtain ⟨d3,k3,q3⟩:=DS h3;obtain ⟨r4,n4,q4⟩:=KQ h4;obtain ⟨d5,k5,q5,m5,b5⟩:=isAg h5;obtain ⟨u6,q6⟩:=zu (by rw[List.length_take,List.length_drop];omega) h6
 have e:cs=cs.drop 0:=rfl;rw[dI cs 0 98 98 O,dI cs 98 49 147 O,dI cs 147 160 307 O,dI cs 307 98 405 O,dI cs 405 192 597 O,dI cs 597 97 694 O,dI cs 694 1 695 O,List.drop_of_length_le (by omega:cs.length<=695)]at e
 rw[q0,q1,q2,q3,q4,q5,q6,List.append_nil]at e;exact ⟨⟨d0,d1,r2,d3,r4,d5,u6⟩,⟨k0,k1,n2,k3,n4,k5⟩,e,m1,m5,b5⟩
theorem isSt{cs:List Value}{x:DataW H×List MemPlace}(hf:DataW.trod enc prog W base spare held fuel 53 cs=some x): ∃s:St,s.Ok/\cs=s.cs/\RwsAt 48 W s.nw.ka s.nw.ks/\RwsAt 48 W s.nx.ka s.nx.ks:=by
 obtain ⟨xs,n,rfl,rfl,hl,hx,hF⟩:=DataW.trod_struct underlying53 hf;rw[co53]at hl;have hxn:xs.length=7:=hx.trans O
 match xs,hxn with
 |[y0,y1,y2,y3,y4,y5,y6],_=>
 have h0:DataW.trod enc prog W base spare held n 30 ((cs.drop 0).take (prog.cellsOf 30))=some y0:=hF 0 _ O;rw[BI]at h0;have h1:DataW.trod enc prog W base spare held n 30 ((cs.drop 98).take (prog.cellsOf 30))=some y1:=hF 1 _ O;rw[BI]at h1;have h2:DataW.trod enc prog W base spare held n 35 ((cs.drop 196).take (prog.cellsOf 35))=some y2:=hF 2 _ O;rw[uw]at h2;have h3:DataW.trod enc prog W base spare held n 35 ((cs.drop 245).take (prog.cellsOf 35))=some y3:=hF 3 _ O;rw[uw]at h3;have h4:DataW.trod enc prog W base spare held n 51 ((cs.drop 294).take (prog.cellsOf 51))=some y4:=hF 4 _ O;rw[co51]at h4;have h5:DataW.trod enc prog W base spare held n 22 ((cs.drop 295).take (prog.cellsOf 22))=some y5:=hF 5 _ O;rw[zY]at h5;have h6:DataW.trod enc prog W base spare held n 22 ((cs.drop 296).take (prog.cellsOf 22))=some y6:=hF 6 _ O;rw[zY]at h6;obtain ⟨d0,k0,q0⟩:=DS h0;obtain ⟨d1,k1,q1⟩:=DS h1;obtain ⟨d2,k2,q2,m2⟩:=HD h2;obtain ⟨d3,k3,q3,m3⟩:=HD h3;obtain ⟨b4,l4,c4,q4⟩:=isSl underlying51 h4;obtain ⟨u5,q5⟩:=zu (by rw[List.length_take,List.length_drop];omega) h5
 obtain ⟨u6,q6⟩:=zu (by rw[List.length_take,List.length_drop];omega) h6
 have e:cs=cs.drop 0:=rfl;rw[dI cs 0 98 98 O,dI cs 98 98 196 O,dI cs 196 49 245 O,dI cs 245 49 294 O,dI cs 294 1 295 O,dI cs 295 1 296 O,dI cs 296 1 297 O,List.drop_of_length_le (by omega:cs.length<=297)]at e
 rw[q0,q1,q2,q3,q4,q5,q6,List.append_nil]at e;exact ⟨⟨d0,d1,d2,d3,b4,l4,c4,u5,u6⟩,⟨k0,k1,k2,k3⟩,e,m2,m3⟩
theorem ut{l m r:List Value}{i n:Nat}(h:l.length=i)(k:m.length=n):((l++(m++r)).drop i).take n=m:=by
 subst h k;rw[List.drop_left,List.take_left]
theorem BR{x:DataW H×List MemPlace}{c:Co}(_:c.Ok)(hf:DataW.trod enc prog W base spare held fuel 35 c.cs=some x)(hz: ∀n∈x.1.weights prog 35,n<=reachBytes):c.ks.length<=140737488355328:=by
 obtain ⟨xs,n,rfl,rfl,hl,hx,hF⟩:=DataW.trod_struct underlying35 hf;have hxn:xs.length=2:=hx.trans O
 match xs,hxn with
 |[y0,y1],_=>
 have hw: ∀(j:Nat) t (d:DataW H),[31,33][j]? =some t->([y0,y1].map (·.1))[j]? =some d->∀n∈d.weights prog t,n<=reachBytes:=λj t d ht hd n hn=>hz n (by
  simp only[DataW.weights,underlying35];exact DataW.weights_mem_each (ts:=[31,33]) ht hd n hn)
 have h0:DataW.trod enc prog W base spare held n 31 ((c.cs.drop 0).take (prog.cellsOf 31))=some y0:=hF 0 _ O;rw[Jp,show (c.cs.drop 0).take 1=[.slice c.ka c.ks.length c.kc]from O]at h0;exact Db h0 (hw 0 _ _ O O)
theorem K7{x:DataW H×List MemPlace}{u:Up}(k:u.Ok)(hf:DataW.trod enc prog W base spare held fuel 71 u.cs=some x)(hz: ∀n∈x.1.weights prog 71,n<=reachBytes):u.nx.ks.length<=140737488355328:=by
 obtain ⟨xs,n,rfl,rfl,hl,hx,hF⟩:=DataW.trod_struct underlying71 hf;have hxn:xs.length=7:=hx.trans O
 match xs,hxn with
 |[y0,y1,y2,y3,y4,y5,y6],_=>
 have hw: ∀(j:Nat) t (d:DataW H),[30,35,36,30,64,69,22][j]? =some t->([y0,y1,y2,y3,y4,y5,y6].map (·.1))[j]? =some d->∀n∈d.weights prog t,n<=reachBytes:=λj t d ht hd n hn=>hz n (by
  simp only[DataW.weights,underlying71];exact DataW.weights_mem_each (ts:=[30,35,36,30,64,69,22]) ht hd n hn)
 have h1:DataW.trod enc prog W base spare held n 35 ((u.cs.drop 98).take (prog.cellsOf 35))=some y1:=hF 1 _ O;rw[uw,show (u.cs.drop 98).take 49=u.nx.cs from ut (Hd.len k.at_) (Co.len k.nx)]at h1;exact BR k.nx h1 (hw 1 _ _ O O)
theorem Jd{x:DataW H×List MemPlace}{s:St}(k:s.Ok)(hf:DataW.trod enc prog W base spare held fuel 53 s.cs=some x)(hz: ∀n∈x.1.weights prog 53,n<=reachBytes):s.nw.ks.length<=140737488355328/\s.nx.ks.length<=140737488355328:=by
 obtain ⟨xs,n,rfl,rfl,hl,hx,hF⟩:=DataW.trod_struct underlying53 hf;have hxn:xs.length=7:=hx.trans O
 match xs,hxn with
 |[y0,y1,y2,y3,y4,y5,y6],_=>
 have hw: ∀(j:Nat) t (d:DataW H),[30,30,35,35,51,22,22][j]? =some t->([y0,y1,y2,y3,y4,y5,y6].map (·.1))[j]? =some d->∀n∈d.weights prog t,n<=reachBytes:=λj t d ht hd n hn=>hz n (by
  simp only[DataW.weights,underlying53];exact DataW.weights_mem_each (ts:=[30,30,35,35,51,22,22]) ht hd n hn)
 have h2:DataW.trod enc prog W base spare held n 35 ((s.cs.drop 196).take (prog.cellsOf 35))=some y2:=hF 2 _ O;rw[uw,show (s.cs.drop 196).take 49=s.nw.cs from by rw[St.cs,<-List.append_assoc];exact ut (by rw[List.length_append,Hd.len k.f,Hd.len k.o]) (Co.len k.nw)]at h2
 have h3:DataW.trod enc prog W base spare held n 35 ((s.cs.drop 245).take (prog.cellsOf 35))=some y3:=hF 3 _ O;rw[uw,show (s.cs.drop 245).take 49=s.nx.cs from by rw[St.cs,<-List.append_assoc,<-List.append_assoc];exact ut (by rw[List.length_append,List.length_append,Hd.len k.f,Hd.len k.o,Co.len k.nw]) (Co.len k.nx)]at h3
 exact ⟨BR k.nw h2 (hw 2 _ _ O O),BR k.nx h3 (hw 3 _ _ O O)⟩
def wHd:List Value:=[.int .u64 0,.int .u64 0]++List.replicate 96 (.int .u8 0)
def wCo:List Value:=.slice none 0 0::List.replicate 48 (.int .u8 0)
def wAg:List Value:=.slice none 0 0::List.replicate 96 (.int .u8 0)
def wUp:List Value:=wHd++wCo++List.replicate 160 (.int .u8 0)++wHd++List.replicate 192 (.int .u8 0)++wAg++[.int .u64 0]
def wSt:List Value:=wHd++wHd++wCo++wCo++[.slice none 0 0,.int .u64 0,.int .u64 0]
end
end Go.Proofs.YtfakhlafilbjkaaGreatDoor
