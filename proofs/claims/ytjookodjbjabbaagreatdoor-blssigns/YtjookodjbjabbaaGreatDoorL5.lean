/- L5 -/
import Derived.Test.YtjookodjbjabbaaGreatDoorL4
import Derived.Lib.BufferMore
set_option maxRecDepth 100000
set_option maxHeartbeats 1000000
namespace Go.Proofs.YtjookodjbjabbaaGreatDoor
open Go.Proofs.Tryz
section
open Go.RowKit
namespace Sh
theorem rI{w:World}{b:Nat}{c:List Value}{t:TypeId}(h:OwnB w b c t){o:Nat}{cs:List Value}(hc: ∀j v,cs[j]? =some v->c[o+j]? =some v):w.rangeAt b o cs:=λj v hv=>(h.cell (o+j)).trans (hc j v hv)
theorem ly(bh:Nat)(st:L3)(rs:L8)(n:BitVec 64)(h1:st.length=8)(h2:rs.length=64)(w:World)(hw:Gt w)(ho:OwnB w bh (hc st rs n) 291):
 CLS 275 [pnt bh].toArray w (λe w'=>e=.returned (.agg ((rch st n).map U32).toArray)/\Grow w w'):=by
 refine Hf func275 O hw<|λhGF=>Xp<|Al 2 hGF zv91<|λb2=>aa<|ae<|Xp<|Mv O<|dz O O O<|Fa 72 O underlying291 O sizeOf24<|bN O isAgg24 (lE (B:=pl w) ((ho.cell 72).trans (r7 h1 h2)) (λh=>h)) O O<|Bnr O O (λ_=>nL _ _ _)<|aa<|?_;refine bC O (λhc=> ?_) (λhc=> ?_)
 ·simp only[decide_eq_true_eq]at hc
  refine Xp<|Ca O (yy)<|Sx 2 hGF O O O re (by rw[(show IV.length=8 from O)]) (eH _)<|aa<|ak<|Rr<|?_
  exact au 2 O O O isAgg91 sizeOf91 O (λw hw=>⟨by rw[rch,if_pos hc],ab hw⟩)
 ·simp only[decide_eq_false_iff_not]at hc
  refine ap<|Xp<|Mv O<|dz O O O<|Fa 0 O underlying291 O sizeOf91<|de O isAgg91 sizeOf91 (by rw[List.length_map,h1]) (eO (B:=pl w) (rI ho Wg) (λh=>h)) O O<|Sx 2 hGF O O O re h1 (eH _)<|aa<|ak<|Rr<|?_
  exact au 2 O O O isAgg91 sizeOf91 (by rw[List.length_map,h1]) (λw hw=>⟨by rw[rch,if_neg hc],ab hw⟩)
theorem y6(T:L8)(bh:Nat)(st:L3)(rs:L8)(n:BitVec 64)(hi:HInv T st rs n)(w:World)(hw:Gt w)(ho:OwnB w bh (hc st rs n) 291):
 CLS 265 [pnt bh].toArray w (λe w'=>e=.returned (.agg ((SHA T).map U8).toArray)/\Grow w w'):=by
 have hGF:BOk Gt (pl w):=gt_low.plain hw;have hmt:(n % 64#64).toNat=(tl T).length:=by rw[BitVec.toNat_umod,hi.toNat,lN];rfl
 have hm64:(n % 64#64).toNat<64:=by rw[hmt,lN];omega
 have hn:BitVec.ofInt 64 T.length=n:=by rw[hi.num,BitVec.ofInt_natCast]
 refine Hd func265 O hGF<|ac (E:=EE [279])<|Al 2 hGF zv98<|λb2=>aa<|Xd [279]<|Mv O<|Cc O ent275 (λw' hw' hG=>ly bh st rs n hi.st8 hi.rs64 w' hG (ho.of_same ((ab hw').block bh ho.lt)))<|Mv O<|dz O O O<|Fa 8 O underlying291 O sizeOf289<|Mv O<|dz O O O<|Fa 72 O underlying291 O sizeOf24<|bN O isAgg24 (lE (B:=pl w) ((ho.cell 72).trans (r7 hi.st8 hi.rs64)) (λh=>h)) O O<|Bnr O O (λ_=>eU _ _ _ dc)<|IJ O underlying289 sizeOf5 O hm64 O O<|Mv O<|dz O O O<|Fa 72 O underlying291 O sizeOf24<|bN O isAgg24 (lE (B:=pl w) ((ho.cell 72).trans (r7 hi.st8 hi.rs64)) (λh=>h)) O O<|?_;refine dy O O ent279 O O (λw' hw'=>(tR _ _ O w' (hGF.g _ _ _ hw')).mono λe w'' h=> ?_);obtain ⟨c2,c3,rfl,hgr,h2,h3,hne,hc2,hc3⟩:=h;refine ⟨_,_,rfl,ay hGF,hw'.news am hgr [(31,c2,[.slice (some ⟨bh,8,none⟩) (n % 64#64).toNat 64],22),(32,c3,[U64 n],24)] ?_ ?_, ?_⟩
 ·intro n' b c t hl
  rcases aI hl with ⟨_,e⟩|⟨_,hl⟩
  ·cases e;exact ⟨h2,hc2⟩
  ·rcases aI hl with ⟨_,e⟩|⟨_,hl⟩
   ·cases e;exact ⟨h3,hc3⟩
   ·cases hl
 ·exact ux hne
 refine Cc O ent278 (λw' hw' hG=>BD (rch st n) (mr hi.st8) 285 [pnt c2,pnt c3] (fu (tl T) n) (nU _ _ (by rw[lN];omega)) (sS c2 c3 (some ⟨bh,8,none⟩) 64 (tl T) n) ent285 (If c2 c3 (some ⟨bh,8,none⟩) 64 (tl T) n (by rw[lN];omega)) w' hG (λw3 hg3=> ?_)) ?_
 ·have hx:=hw'.grow am hg3
  refine ⟨by rw[<-hmt];exact cM (n:=31) O O w3 hx,cM (n:=32) O O w3 hx,BytesAt.range ?_⟩
  intro j v hv;refine lE (B:=pl w) ((ho.cell (8+j)).trans ?_) (λh=>h) w3 hx;refine LH hi.st8 j v ?_;rw[hi.rest,nB,List.map_append];have hlt:j<((tl T).map U8).length:=by
   rcases Nat.lt_or_ge j ((tl T).map U8).length with h|h
   ·exact h
   ·rw[List.getElem?_eq_none h]at hv;cases hv
  rw[List.getElem?_append_left hlt];exact hv
 refine Ca O (u3 _ (gP _ _ (mr hi.st8) _))<|Sx 2 hGF O O O uK (fB _ _) (bY _)<|aa<|ak<|Rr<|?_;exact au 2 O O O isAgg98 sizeOf98 (by rw[List.length_map,fB]) (λw hw=>⟨by rw[Gd T,hi.rch,hn],ab hw⟩)
end Sh
end
section
open Go.RowKit
namespace Sh
structure WSt(T bs:L8)(w:World)(bh:Nat) where
 (c:Nat) (st:L3) (rs:L8) (n:BitVec 64) (a:Option Addr) (cap:Nat)
 hc:c<=bs.length
 hi:HInv (T++bs.take c) st rs n
 hb:BytesAt w a (bs.drop c)
 hcap:(bs.drop c).length<=cap
 hne:bs.drop c≠[]->∀ad,a=some ad->ad.block≠bh
theorem Ck(bs:L8)(c m:Nat):bs.take c++(bs.drop c).take m=bs.take (c+m):=by rw[List.take_add]
theorem wm(T bs:L8)(bh:Nat)(st:L3)(rs:L8)(n:BitVec 64)(hi:HInv T st rs n)(hT:(T++bs).length<9223372036854775808)(a:Option Addr)(cap:Nat)(hcap:bs.length<=cap)(w:World)(hw:Gt w)(ho:OwnB w bh (hc st rs n) 291)(hbh:8<=bh)(hby:BytesAt w a bs)(hne:bs≠[]->∀ad,a=some ad->ad.block≠bh):
 CLS 264 [pnt bh,.slice a bs.length cap].toArray w (λe w'=>e=.returned (.tuple #[])/\Mod bh w w'/\∃st' rs' n',HInv (T++bs) st' rs' n'/\OwnB w' bh (hc st' rs' n') 291):=by
 have hGF:BOk Gt (plM w (λk=>k=bh)):=(gt_low.from (M:=λk=>k=bh) hw (λm hm=>by subst hm;exact hbh)).ok (B:=plM w (λk=>k=bh)) am
 refine cu (G:=Gt) func264 O O (Hp (plM w (λk=>k=bh)) [(0,bh,hc st rs n,291)]) (H9 ho) (ay hGF)<|ah<|bG (ι:=WSt T bs w bh) (λx=>[(0,pnt bh),(1,.slice x.a (bs.drop x.c).length x.cap)]) (λx=>[(0,bh,hc x.st x.rs x.n,291)]) (λx=>bs.length-x.c) ⟨0,st,rs,n,a,cap,Nat.zero_le _,by simpa using hi,by simpa using hby,by simpa using hcap,hne⟩ hGF trv trv<|?_
 rintro x;have x8:=x.hi.st8;have x64:=x.hi.rs64;have hdl:(bs.drop x.c).length=bs.length-x.c:=List.length_drop;have hxc:=x.hc;refine ae<|Xp<|Mv O<|bc O (λ_=>aF underlying22 _ _ _ _) O O<|Bnr O O (λ_=>a9 _ _ _)<|aa<|?_;refine bC O (λhc=> ?_) (λhc=> ?_)
 ·simp only[decide_eq_true_eq]at hc
  have hmod:(x.n % 64#64).toNat=(T++bs.take x.c).length % 64:=by rw[BitVec.toNat_umod,x.hi.toNat];rfl
  have hm64:(x.n % 64#64).toNat<64:=om;obtain ⟨xs,hxs⟩: ∃xs,(bs.drop x.c).take (64-(x.n % 64#64).toNat)=xs:=⟨_,rfl⟩;have hxl:xs.length=Nat.min (bs.drop x.c).length (64-(x.n % 64#64).toNat):=by rw[<-hxs,List.length_take];exact Nat.min_comm _ _
  have hx1:xs.length<=(bs.drop x.c).length:=by rw[hxl];exact Nat.min_le_left _ _
  have hx2:xs.length<=64-(x.n % 64#64).toNat:=by rw[hxl];exact Nat.min_le_right _ _
  have hx0:0<xs.length:=by rw[hxl];exact Nat.lt_min.2 ⟨om,om⟩
  have hdne:bs.drop x.c≠[]:=λe=>by rw[e]at hc;simp at hc
  have hbx:BytesAt w x.a xs:=hxs▸x.hb.take _;have hmx:(x.n % 64#64).toNat+xs.length<=x.rs.length:=by rw[x64];omega
  have hxt:T++bs.take (x.c+xs.length)=T++bs.take x.c++xs:=by
   rw[<-Ck,<-List.append_assoc,<-List.prefix_iff_eq_take.1 (hxs▸List.take_prefix _ _)]
  have hdn:(bs.drop x.c).length-xs.length=(bs.drop (x.c+xs.length)).length:=by rw[List.length_drop,List.length_drop];omega
  have hroom:8+(x.n % 64#64).toNat+xs.length<=73:=om;have hlen2:(T++bs.take x.c++xs).length<9223372036854775808:=by simp at hT⊢;omega
  have hb3:BytesAt w (if x.cap=xs.length then x.a else x.a.map (·.add (xs.length*1))) (bs.drop (x.c+xs.length)):=by
   have:=x.hb.drop (cap:=x.cap) (l:=xs.length) x.hcap om
   rwa [List.drop_drop]at this
  have hc3:(bs.drop (x.c+xs.length)).length<=x.cap-xs.length:=by have:=x.hcap;simp at this⊢;omega
  have hn3:bs.drop (x.c+xs.length)≠[]->∀ad,(if x.cap=xs.length then x.a else x.a.map (·.add (xs.length*1)))=some ad->ad.block≠bh:=by
   intro _ ad had;split at had
   ·exact x.hne hdne ad had
   ·cases hxa:x.a with
    |none=>rw[hxa]at had;cases had
    |some ad0=>
     rw[hxa]at had
     cases had
     rw[rD];exact x.hne hdne ad0 hxa
  have hsum:(x.n+BitVec.ofInt 64 xs.length).toNat=(T++bs.take x.c).length+xs.length:=by
   rw[BitVec.toNat_add,x.hi.toNat,BitVec.ofInt_natCast,BitVec.toNat_ofNat];simp at hlen2⊢;omega
  have hsm:((x.n+BitVec.ofInt 64 xs.length) % 64#64).toNat=((T++bs.take x.c).length+xs.length) % 64:=by rw[BitVec.toNat_umod,hsum];rfl
  have hfl0:(((x.n+BitVec.ofInt 64 xs.length) % 64#64==0#64)=true->(T++bs.take x.c).length % 64+xs.length=64)/\(((x.n+BitVec.ofInt 64 xs.length) % 64#64==0#64)=false->(T++bs.take x.c).length % 64+xs.length<64):=by
   refine ⟨λh=> ?_,λh=> ?_⟩
   ·have:=congrArg BitVec.toNat (beq_iff_eq.1 h)
    rw[hsm]at this;have h0:(0#64).toNat=0:=rfl;omega
   ·have hne: ¬((x.n+BitVec.ofInt 64 xs.length) % 64#64).toNat=0:=λe=>(beq_eq_false_iff_ne.1 h) (BitVec.eq_of_toNat_eq (by rw[e];rfl))
    rw[hsm]at hne;omega
  refine ap<|ah<|Xp<|Mv O<|Cc O ent275 (λw' hw' hG=>ly bh x.st x.rs x.n x8 x64 w' hG (hw'.own 0 _ _ _ O).1)<|Al 4 hGF zv91<|λb4=>Sx 4 hGF O O O re (mr x.hi.st8) (eH _)<|aa<|Xd []<|Mv O<|dz O O O<|Fa 8 O underlying291 O sizeOf289<|Mv O<|dz O O O<|Fa 72 O underlying291 O sizeOf24<|cV 0 O O (r7 x8 x64) isAgg24 O O<|Bnr O O (λ_=>eU _ _ _ dc)<|J7 O underlying289 sizeOf5 O hm64 O O<|Mv O<|gK (cs:=xs) 0 hGF O O O underlying22 G4 hxl (λw' h=>Cx hbx (yX h) (x.hne hdne)) (by rw[sG x8 x64];exact hroom) O O<|?_
  rw[vK x8 _ xs hmx];have x64:(x.rs.take (x.n % 64#64).toNat++xs++x.rs.drop ((x.n % 64#64).toNat+xs.length)).length=64:=by rw[List.length_append,List.length_append,List.length_take,List.length_drop,x64];omega
  obtain ⟨rs1,hrs1⟩: ∃rs1,x.rs.take (x.n % 64#64).toNat++xs++x.rs.drop ((x.n % 64#64).toNat+xs.length)=rs1:=⟨_,rfl⟩;rw[hrs1]at x64⊢;refine Asg O<|aa<|Xp<|Mv O<|dz O O O<|Fa 72 O underlying291 O sizeOf24<|cV 0 O O (r7 x8 x64) isAgg24 O O<|Mv O<|bV O O (λ_=>fO underlying3 underlying24 _) O O<|Bnr O O (λ_=>a8 _ _ _)<|dz O O O<|Fa 72 O underlying291 O sizeOf24<|dS 0 hGF O O O sizeOf24 O (by rw[sG x8 x64];decide) O<|?_
  rw[QU x8 x64];refine aa<|Xp<|Mv O<|Mv O<|f9 (l:=xs.length) (h':=(bs.drop x.c).length) O underlying22 sizeOf5 O O ⟨om,x.hcap⟩ O O<|Asg O<|aa<|Xp<|Mv O<|dz O O O<|Fa 72 O underlying291 O sizeOf24<|cV 0 O O (r7 x8 x64) isAgg24 O O<|Bnr O O (λ_=>eU _ _ _ dc)<|Bnr O O (λ_=>bj _ _ _)<|aa<|?_;refine bC O (λhc=> ?_) (λhc=> ?_)
  ·have hfl:=hfl0.1 hc
   refine Xd []<|Mv O<|Lw 4 O O re (mr x.hi.st8)<|Mv O<|dz O O O<|Fa 8 O underlying291 O sizeOf289<|EG 0 O O isAgg289 sizeOf289 (by rw[List.length_map,x64]) (LH x8) O O<|Ca O (rX _ _ (mr x.hi.st8) x64)<|dz O O O<|Fa 0 O underlying291 O sizeOf91<|fQ 0 hGF O O O sizeOf91 (by rw[List.length_map,iE]) (eH _) (by rw[sG x8 x64,List.length_map,iE];decide) O<|?_
   rw[Qc x8 (iE _ _)];have x8:=iE (rch x.st x.n) rs1;refine aa<|Xq<|Mv O<|dX zv289 underlying289 sizeOf5 O O<|dz O O O<|Fa 8 O underlying291 O sizeOf289<|fQ 0 hGF O O O sizeOf289 (by rw[List.length_map,List.length_replicate]) (bY _) (by rw[sG x8 x64,List.length_map,List.length_replicate];decide) O<|?_
   rw[Qq x8 x64 List.length_replicate];refine aa ?_
   repeat (refine aL ?_)
   exact aB<|⟨rfl,⟨x.c+xs.length,rn (rch x.st x.n) rs1,List.replicate 64 0#8,x.n+BitVec.ofInt 64 xs.length,if x.cap=xs.length then x.a else x.a.map (·.add (xs.length*1)),x.cap-xs.length,om,(by rw[hxt,<-hrs1,hmod,x.hi.rch];exact x.hi.fill xs hfl hlen2),hb3,hc3,hn3⟩,_,by show bs.length-(x.c+xs.length)<bs.length-x.c;omega,rfl,⟨rfl,congrArg (λk=>some (Value.slice (if x.cap=xs.length then x.a else x.a.map (·.add (xs.length*1))) k (x.cap-xs.length))) hdn,trivial⟩,trv⟩
  ·have hfl:=hfl0.2 hc
   refine ap ?_
   repeat (refine aL ?_)
   exact aB<|⟨rfl,⟨x.c+xs.length,x.st,rs1,x.n+BitVec.ofInt 64 xs.length,if x.cap=xs.length then x.a else x.a.map (·.add (xs.length*1)),x.cap-xs.length,om,(by rw[hxt,<-hrs1,hmod];exact x.hi.part xs hfl hlen2),hb3,hc3,hn3⟩,_,by show bs.length-(x.c+xs.length)<bs.length-x.c;omega,rfl,⟨rfl,congrArg (λk=>some (Value.slice (if x.cap=xs.length then x.a else x.a.map (·.add (xs.length*1))) k (x.cap-xs.length))) hdn,trivial⟩,trv⟩
 ·simp only[decide_eq_false_iff_not]at hc
  refine aU ?_;have hall:bs.take x.c=bs:=List.take_of_length_le (by have:=x.hc;omega)
  repeat (refine du ?_)
  exact ck<|cS O (λw' hw'=>⟨rfl,yX hw',x.st,x.rs,x.n,by have:=x.hi;rw[hall]at this;exact this,(hw'.own 0 _ _ _ O).1⟩)
end Sh
end
section
open Go.RowKit
namespace Sh
theorem ti5:TI prog 5 (.int .u8 0) 1 1:=rJ kr
def Cln(w w':World)(bs:L8)(sv:Value):Prop:=
 (bs=[]/\sv=.slice none 0 0)\/∃b c cap1,sv=.slice (spt b) bs.length cap1/\w.heap.size<=b/\OwnB w' b c 5/\c.length=cap1/\bs.length<=cap1/\c.take bs.length=bs.map U8
end Sh
end
section
open Go.RowKit
namespace Sh
def PD(bs:L8)(k:Nat):L8:=bs++([128#8]++List.replicate k 0#8)
theorem AX(bs:L8)(k:Nat):PD bs k++[0#8]=PD bs (k+1):=by
 simp[PD,List.replicate_succ']
theorem yV(bs:L8)(k:Nat):(PD bs k).length=bs.length+1+k:=by simp[PD];omega
def nz(bs:L8):Nat:=(120-(bs.length+1) % 64) % 64
def nb(n:BitVec 64)(j:Nat):BitVec 8:=(n>>>(8*(7-(j:Int))).toNat).setWidth 8
def PE(bs:L8)(n:BitVec 64):Nat->L8
 |0=>PD bs (nz bs)
 |j+1=>PE bs n j++[nb n j]
theorem m5(bs:L8)(n:BitVec 64): ∀j,(PE bs n j).length=bs.length+1+nz bs+j
 |0=>yV bs _
 |j+1=>by rw[PE,List.length_append,m5 bs n j];rfl
def PAD(bs:L8):L8:=PE bs (BitVec.ofInt 64 bs.length*8#64) 8
structure PdSt(bs:L8) where
 (k b:Nat) (c:List Value)
 hk:k+(120-(bs.length+1+k) % 64) % 64=nz bs
 h1:(PD bs k).length<=c.length
 h2:c.take (PD bs k).length=(PD bs k).map U8
structure PeSt(bs:L8)(n:BitVec 64) where
 (j b:Nat) (c:List Value)
 hj:j<=8
 h1:(PE bs n j).length<=c.length
 h2:c.take (PE bs n j).length=(PE bs n j).map U8
theorem BQ(a:Option Addr)(cap:Nat)(bs:L8)(hl:bs.length<=70368744170000)(w:World)(hw:Gt w)(hby:BytesAt w a bs):
 CLS 182 [.slice a bs.length cap].toArray w (λe w'=> ∃sv,e=.returned sv/\Grow w w'/\Cln w w' (PAD bs) sv):=by
 refine Hf func182 O hw<|λhGF=>Xp<|Asg O<|aa<|Xp<|Mv O<|?_;refine cn (xs:=[]) (ys:=bs) 3 hGF O O underlying22 underlying22 ti5 (iB _ _ _) (λw' h=>hby.grow (ab h)) (by simpa using Nat.le_trans hl dc) O O (λh0=> ?_) (λb7 c7 cap7 e7 l7 t7=> ?_)
 ·have hbs:bs=[]:=h0
  subst hbs;clear h0;refine dV 8 [128#8] hGF O O O dc dc underlying22 sizeOf5 zeroValue5 O O ?_;intro b8;refine cn (xs:=[]) (ys:=[128#8]) 3 hGF O O underlying22 underlying22 ti5 (iB _ _ _) (λw' h=>BytesAt.range (aG (n:=8) O w' h)) dc O O (λh0=> ?_) (λb9 c9 cap9 e9 l9 t9=> ?_)
  ·simp at h0
  subst e9;refine Asg O<|aa<|ae<|ah<|bG (ι:=PdSt ([]:L8)) (λx=>[(0,.slice a (List.length ([]:L8)) cap),(3,.slice (spt x.b) (PD ([]:L8) x.k).length x.c.length)]) (λx=>[(3,x.b,x.c,5)]) (λx=>nz ([]:L8)-x.k) ⟨0,b9,c9,by unfold nz;rw[Nat.zero_add,Nat.add_zero],l9,t9⟩ hGF trv trv<|?_
  intro x;have hk:=x.hk;have hln:=yV ([]:L8) x.k;clear l9 t9;refine ae<|Xp<|Mv O<|bc O (λ_=>aF underlying22 _ _ _ _) O O<|cr (v:=I (((PD ([]:L8) x.k).length % 64:Nat):Int)) O O (λ_=>rfl) (λ_=>cX _ _ _ dc) O O<|Bnr O O (λ_=>bz _ _ _)<|aa<|?_;refine bC O (λhc=> ?_) (λhc=> ?_)
  ·have hne:(PD ([]:L8) x.k).length % 64≠56:=by have:=bne_iff_ne.1 hc;omega
   refine ap<|ah<|Xq<|Mv O<|dV 15 [0#8] hGF O O O dc dc underlying22 sizeOf5 zeroValue5 O O<|?_;intro b15;refine cn (xs:=PD ([]:L8) x.k) (ys:=[0#8]) 3 hGF O O underlying22 underlying22 ti5 (.inr ⟨x.b,x.c,rfl,rfl,rfl,x.h1,x.h2⟩) (λw' h=>BytesAt.range (aG (n:=15) O w' h)) (by show (PD ([]:L8) x.k).length+1<=_;rw[hln];unfold nz at hk;omega) O O (λh0=> ?_) (λb16 c16 cap16 e16 l16 t16=> ?_)
   ·simp at h0
   subst e16;rw[AX]at l16 t16⊢;refine Asg O<|aa<|?_
   repeat (refine aL ?_)
   exact aB<|⟨rfl,⟨x.k+1,b16,c16,by unfold nz at hk⊢;omega,l16,t16⟩,_,by show nz ([]:L8)-(x.k+1)<nz ([]:L8)-x.k;unfold nz at hk⊢;omega,rfl,trv,trv⟩
  ·obtain ⟨k,bb,cc,hk',h1,h2⟩:=x
   dsimp only at hc hk hln⊢;obtain rfl:k=nz ([]:L8):=by
    have:=bne_eq_false_iff_eq.1 hc;unfold nz at hk⊢;omega
   clear hc hk hln hk';refine aU<|Xp<|Mv O<|bc O (λ_=>aF underlying22 _ _ _ _) O O<|bV O O (λ_=>fO underlying3 underlying24 _) O O<|Bnr O O (λ_=>cv _ _ _)<|Asg O<|aa<|ae<|Xp<|Asg O<|aa<|ah<|bG (ι:=PeSt ([]:L8) (BitVec.ofInt 64 (List.length ([]:L8))*8#64)) (λy=>[(3,.slice (spt y.b) (PE ([]:L8) (BitVec.ofInt 64 (List.length ([]:L8))*8#64) y.j).length y.c.length),(4,U64 (BitVec.ofInt 64 (List.length ([]:L8))*8#64)),(5,I (7-(y.j:Int)))]) (λy=>[(3,y.b,y.c,5)]) (λy=>8-y.j) ⟨0,bb,cc,dc,h1,h2⟩ hGF trv trv<|?_;clear h1 h2;intro x;have hj:=x.hj;refine ae<|Xp<|Mv O<|Bnr O O (λ_=>dh _ _ _)<|aa<|?_;refine bC O (λhc=> ?_) (λhc=> ?_)
   ·simp only[decide_eq_true_eq]at hc
    refine ap<|ae<|ah<|Xq<|Mv O<|Mv O<|Mv O<|Bnr O O (λ_=>bp _ _ _ oi)<|Bnr O O (λ_=>da _ _ _ om)<|bV O O (λ_=>eJ underlying24 underlying5 _) O O<|dV 31 [nb (BitVec.ofInt 64 (List.length ([]:L8))*8#64) x.j] hGF O O O dc dc underlying22 sizeOf5 zeroValue5 O O<|?_;intro b31;refine cn (xs:=PE ([]:L8) (BitVec.ofInt 64 (List.length ([]:L8))*8#64) x.j) (ys:=[nb (BitVec.ofInt 64 (List.length ([]:L8))*8#64) x.j]) 3 hGF O O underlying22 underlying22 ti5 (.inr ⟨x.b,x.c,rfl,rfl,rfl,x.h1,x.h2⟩) (λw' h=>BytesAt.range (aG (n:=31) O w' h)) (by show (PE ([]:L8) (BitVec.ofInt 64 (List.length ([]:L8))*8#64) x.j).length+1<=_;rw[m5];unfold nz;omega) O O (λh0=> ?_) (λb32 c32 cap32 e32 l32 t32=> ?_)
    ·simp at h0
    subst e32;refine Asg O<|aa<|Xq<|Mv O<|Bnr O O (λ_=>aV _ _ _ oi)<|Asg O<|aa<|?_
    repeat (refine aL ?_)
    exact aB<|⟨rfl,⟨x.j+1,b32,c32,om,l32,t32⟩,_,by show 8-(x.j+1)<8-x.j;omega,rfl,⟨rfl,rfl,congrArg (λz=>some (I z)) (by show 7-(x.j:Int)-1=7-((x.j+1:Nat):Int);omega),trivial⟩,trv⟩
   ·simp only[decide_eq_false_iff_not]at hc
    refine aU<|Xp<|Mv O<|Asg O<|aa<|ak<|Rr<|?_;have h8:x.j=8:=om;obtain ⟨j,b,c,hj',h1,h2⟩:=x;dsimp only at h8;subst h8;exact aE O O (λw hw=>⟨_,rfl,ab hw,.inr ⟨b,c,_,rfl,(hw.own 3 b _ _ O).2.elim id False.elim,(hw.own 3 b _ _ O).1,rfl,h1,h2⟩⟩)
 ·subst e7
  refine dV 8 [128#8] hGF O O O dc dc underlying22 sizeOf5 zeroValue5 O O ?_;intro b8;refine cn (xs:=bs) (ys:=[128#8]) 3 hGF O O underlying22 underlying22 ti5 (.inr ⟨b7,c7,rfl,rfl,rfl,l7,t7⟩) (λw' h=>BytesAt.range (aG (n:=8) O w' h)) (by show bs.length+1<=_;omega) O O (λh0=> ?_) (λb9 c9 cap9 e9 l9 t9=> ?_)
  ·simp at h0
  subst e9;refine Asg O<|aa<|ae<|ah<|bG (ι:=PdSt bs) (λx=>[(0,.slice a (List.length bs) cap),(3,.slice (spt x.b) (PD bs x.k).length x.c.length)]) (λx=>[(3,x.b,x.c,5)]) (λx=>nz bs-x.k) ⟨0,b9,c9,by unfold nz;rw[Nat.zero_add,Nat.add_zero],l9,t9⟩ hGF trv trv<|?_
  intro x;have hk:=x.hk;have hln:=yV bs x.k;clear l9 t9;refine ae<|Xp<|Mv O<|bc O (λ_=>aF underlying22 _ _ _ _) O O<|Bnr (v:=I (((PD bs x.k).length % 64:Nat):Int)) O O (λ_=>cX _ _ _ dc)<|Bnr O O (λ_=>bz _ _ _)<|aa<|?_;refine bC O (λhc=> ?_) (λhc=> ?_)
  ·have hne:(PD bs x.k).length % 64≠56:=by have:=bne_iff_ne.1 hc;omega
   refine ap<|ah<|Xq<|Mv O<|dV 15 [0#8] hGF O O O dc dc underlying22 sizeOf5 zeroValue5 O O<|?_;intro b15;refine cn (xs:=PD bs x.k) (ys:=[0#8]) 3 hGF O O underlying22 underlying22 ti5 (.inr ⟨x.b,x.c,rfl,rfl,rfl,x.h1,x.h2⟩) (λw' h=>BytesAt.range (aG (n:=15) O w' h)) (by show (PD bs x.k).length+1<=_;rw[hln];unfold nz at hk;omega) O O (λh0=> ?_) (λb16 c16 cap16 e16 l16 t16=> ?_)
   ·simp at h0
   subst e16;rw[AX]at l16 t16⊢;refine Asg O<|aa<|?_
   repeat (refine aL ?_)
   exact aB<|⟨rfl,⟨x.k+1,b16,c16,by unfold nz at hk⊢;omega,l16,t16⟩,_,by show nz bs-(x.k+1)<nz bs-x.k;unfold nz at hk⊢;omega,rfl,trv,trv⟩
  ·obtain ⟨k,bb,cc,hk',h1,h2⟩:=x
   dsimp only at hc hk hln⊢;obtain rfl:k=nz bs:=by
    have:=bne_eq_false_iff_eq.1 hc;unfold nz at hk⊢;omega
   clear hc hk hln hk';refine aU<|Xp<|Mv O<|bc O (λ_=>aF underlying22 _ _ _ _) O O<|bV O O (λ_=>fO underlying3 underlying24 _) O O<|Bnr O O (λ_=>cv _ _ _)<|Asg O<|aa<|ae<|Xp<|Asg O<|aa<|ah<|bG (ι:=PeSt bs (BitVec.ofInt 64 bs.length*8#64)) (λy=>[(3,.slice (spt y.b) (PE bs (BitVec.ofInt 64 bs.length*8#64) y.j).length y.c.length),(4,U64 (BitVec.ofInt 64 bs.length*8#64)),(5,I (7-(y.j:Int)))]) (λy=>[(3,y.b,y.c,5)]) (λy=>8-y.j) ⟨0,bb,cc,dc,h1,h2⟩ hGF trv trv<|?_;clear h1 h2;intro x;have hj:=x.hj;refine ae<|Xp<|Mv O<|Bnr O O (λ_=>dh _ _ _)<|aa<|?_;refine bC O (λhc=> ?_) (λhc=> ?_)
   ·simp only[decide_eq_true_eq]at hc
    refine ap<|ae<|ah<|Xq<|Mv O<|Mv O<|Mv O<|Bnr O O (λ_=>bp _ _ _ oi)<|Bnr O O (λ_=>da _ _ _ om)<|bV O O (λ_=>eJ underlying24 underlying5 _) O O<|dV 31 [nb (BitVec.ofInt 64 bs.length*8#64) x.j] hGF O O O dc dc underlying22 sizeOf5 zeroValue5 O O<|?_;intro b31;refine cn (xs:=PE bs (BitVec.ofInt 64 bs.length*8#64) x.j) (ys:=[nb (BitVec.ofInt 64 bs.length*8#64) x.j]) 3 hGF O O underlying22 underlying22 ti5 (.inr ⟨x.b,x.c,rfl,rfl,rfl,x.h1,x.h2⟩) (λw' h=>BytesAt.range (aG (n:=31) O w' h)) (by show (PE bs (BitVec.ofInt 64 bs.length*8#64) x.j).length+1<=_;rw[m5];unfold nz;omega) O O (λh0=> ?_) (λb32 c32 cap32 e32 l32 t32=> ?_)
    ·simp at h0
    subst e32;refine Asg O<|aa<|Xq<|Mv O<|Bnr O O (λ_=>aV _ _ _ oi)<|Asg O<|aa<|?_
    repeat (refine aL ?_)
    exact aB<|⟨rfl,⟨x.j+1,b32,c32,om,l32,t32⟩,_,by show 8-(x.j+1)<8-x.j;omega,rfl,⟨rfl,rfl,congrArg (λz=>some (I z)) (by show 7-(x.j:Int)-1=7-((x.j+1:Nat):Int);omega),trivial⟩,trv⟩
   ·simp only[decide_eq_false_iff_not]at hc
    refine aU<|Xp<|Mv O<|Asg O<|aa<|ak<|Rr<|?_;have h8:x.j=8:=om;obtain ⟨j,b,c,hj',h1,h2⟩:=x;dsimp only at h8;subst h8;exact aE O O (λw hw=>⟨_,rfl,ab hw,.inr ⟨b,c,_,rfl,(hw.own 3 b _ _ O).2.elim id False.elim,(hw.own 3 b _ _ O).1,rfl,h1,h2⟩⟩)
end Sh
end
section
open Go.RowKit
namespace Sh
theorem zv94: ∀w,(zeroValue 94).run prog w=.ok (.agg ((List.replicate 72 0#32).map U32).toArray) w:=λ_=>kr
def MK:L3:=IV++KW
theorem y7:PUR 41 [] (.tuple #[.agg (IV.map U32).toArray,.agg (KW.map U32).toArray]):=by
 intro w hw;refine Hf func41 O hw<|λhGF=>Xp<|Al 0 hGF zv91<|λb0=>Al 1 hGF zv92<|λb1=>aa<|Xp<|bR (n:=8) O O underlying91 sizeOf90 zeroValue91 O O O O<|bR (n:=64) O O underlying92 sizeOf90 zeroValue92 O O O O<|az (vs:=IV.map U32) 0 hGF O O O sizeOf91 O (by rw[List.length_map,List.length_replicate]) (eH _) O<|az (vs:=KW.map U32) 1 hGF O O O sizeOf92 O (by rw[List.length_map,List.length_replicate]) (eH _) O<|aa<|ak<|Rr<|?_
 exact FX (c1:=IV.map U32) (c2:=KW.map U32) 0 1 O O O O O isAgg91 sizeOf91 O isAgg92 sizeOf92 O (λw hw=>⟨rfl,ab hw⟩)
theorem CD(w:World)(hw:Gt w):CLS 10 [].toArray w (λe w'=> ∃bm,e=.returned (pnt bm)/\Grow w w'/\w.heap.size<=bm/\OwnB w' bm (MK.map U32) 94):=by
 refine Hf func10 O hw<|λhGF=>Xp<|Asg O<|aa<|Xp<|el zv94 underlying94 (λ_=>⟨#[(0,8),(8,64)],kr⟩) O O<|Bx 3 hGF O<|λb3=>Asg O<|aa<|Xp<|Mv O<|Mv O<|Ca O (y7)<|Mv O<|Ext O O<|Ext O O<|dz O O O<|Fa 0 O underlying94 O sizeOf91<|fQ (vs:=IV.map U32) 3 hGF O O O sizeOf91 O (eH _) dc O<|dz O O O<|Fa 8 O underlying94 O sizeOf92<|fQ (vs:=KW.map U32) 3 hGF O O O sizeOf92 O (eH _) dc O<|?_;rw[show lay 8 (KW.map U32) (lay 0 (IV.map U32) ((List.replicate 72 0#32).map U32))=MK.map U32 from O];refine aa<|Xp<|Mv O<|Asg O<|aa<|ak<|Rr<|?_;exact aE O O (λw hw=>⟨b3,rfl,ab hw,(hw.own 3 b3 _ _ O).2.elim id False.elim,(hw.own 3 b3 _ _ O).1⟩)
end Sh
end
section
open Go.RowKit
set_option maxHeartbeats 2000000
namespace Sh
theorem Ct(xs:L8)(tail:List Value)(i:Nat)(h:i<xs.length):(xs.map U8++tail)[i]? =some (U8 (xs.getD i 0)):=by
 rw[List.getElem?_append_left (by simpa using h)]
 exact gm U8 xs 0 i h
def wk(p:L8)(o:Nat)(x:BitVec 32):Nat->BitVec 32
 |0=>x
 |k+1=>(wk p o x k<<<8)|||(p.getD (o+k) 0).setWidth 32
def V1(p:L8)(q:Nat):Nat->L3
 |0=>List.replicate 64 0#32
 |i+1=>(V1 p q i).set i (wk p (q+4*i) ((V1 p q i).getD i 0) 4)
theorem nk(p:L8)(q:Nat): ∀i,(V1 p q i).length=64
 |0=>by simp[V1]
 |i+1=>by simp[V1,nk p q i]
theorem pu(l:L3)(i:Nat)(h:i<l.length):l=l.set i (l.getD i 0):=by
 have e:l.getD i 0=l[i]:=by simp[h]
 rw[e,List.set_getElem_self]
theorem q8(l:L3)(i:Nat)(x:BitVec 32)(h:i<l.length):(l.set i x).getD i 0=x:=by simp[h]
def r0(x:BitVec 32):BitVec 32:=turn x 7^^^turn x 18^^^(x>>>3)
def r1(x:BitVec 32):BitVec 32:=turn x 17^^^turn x 19^^^(x>>>10)
def r5(ws:L3)(i:Nat):BitVec 32:=ws.getD (i-16) 0+r0 (ws.getD (i-15) 0)+ws.getD (i-7) 0+r1 (ws.getD (i-2) 0)
def V2(p:L8)(q:Nat):Nat->L3
 |0=>V1 p q 16
 |j+1=>(V2 p q j).set (16+j) (r5 (V2 p q j) (16+j))
theorem lH(p:L8)(q:Nat): ∀j,(V2 p q j).length=64
 |0=>nk p q 16
 |j+1=>by simp[V2,lH p q j]
def rt(v:L3)(k w:BitVec 32):BitVec 32:=v.getD 7 0+(turn (v.getD 4 0) 6^^^turn (v.getD 4 0) 11^^^turn (v.getD 4 0) 25)+((v.getD 4 0 &&& v.getD 5 0)^^^(~~~(v.getD 4 0) &&& v.getD 6 0))+k+w
def ru(v:L3):BitVec 32:=(turn (v.getD 0 0) 2^^^turn (v.getD 0 0) 13^^^turn (v.getD 0 0) 22)+((v.getD 0 0 &&& v.getD 1 0)^^^(v.getD 0 0 &&& v.getD 2 0)^^^(v.getD 1 0 &&& v.getD 2 0))
def rr(v:L3)(k w:BitVec 32):L3:=[rt v k w+ru v,v.getD 0 0,v.getD 1 0,v.getD 2 0,v.getD 3 0+rt v k w,v.getD 4 0,v.getD 5 0,v.getD 6 0]
def RRs(h ws:L3):Nat->L3
 |0=>h
 |j+1=>rr (RRs h ws j) (MK.getD (8+j) 0) (ws.getD j 0)
theorem dB(h ws:L3)(hh:h.length=8): ∀j,(RRs h ws j).length=8
 |0=>hh
 |_+1=>rfl
def HAs(h v:L3):Nat->L3
 |0=>h
 |i+1=>(HAs h v i).set i ((HAs h v i).getD i 0+v.getD i 0)
theorem oA(h v:L3): ∀j,(HAs h v j).length=h.length
 |0=>rfl
 |i+1=>by simp[HAs,oA h v i]
def RK(p:L8):Nat->L3
 |0=>IV
 |k+1=>HAs (RK p k) (RRs (RK p k) (V2 p (64*k) 48) 64) 8
theorem df(p:L8): ∀k,(RK p k).length=8
 |0=>rfl
 |k+1=>by rw[RK,oA,df p k]
def OD(h:L3):Nat->L8
 |0=>List.replicate 32 0#8
 |i+1=>(OD h i).set i ((h.getD (i / 4) 0>>>(24-8*((i % 4:Nat):Int)).toNat).setWidth 8)
theorem qe(h:L3): ∀j,(OD h j).length=32
 |0=>by simp[OD]
 |i+1=>by simp[OD,qe h i]
def Jo(bs:L8):L8:=OD (RK (PAD bs) ((PAD bs).length / 64)) 32
theorem ca:MK.length=72:=rfl
theorem Kq(bs:L8):(PAD bs).length % 64=0:=by
 rw[PAD,m5];unfold nz;omega
theorem yP(bm:Nat)(a:Option Addr)(cap:Nat)(bs:L8)(hl:bs.length<=70368744170000)(w:World)(hw:Gt w)(ho:OwnB w bm (MK.map U32) 94)(hby:BytesAt w a bs):
 CLS 133 [pnt bm,.slice a bs.length cap].toArray w (λe w'=>e=.returned (.agg ((Jo bs).map U8).toArray)/\Grow w w'):=by
 refine Hf func133 O hw<|λhGF=>ac (E:=EE [182])<|Al 4 hGF zv98<|λb4=>aa<|ac (E:=EE [182])<|Mv O<|dz O O O<|Fa 0 O underlying94 O sizeOf91<|?_;refine de O isAgg91 sizeOf91 (cs:=IV.map U32) O (eO (B:=pl w) (rI ho (λj v hv=>by rw[Nat.zero_add];show (MK.map U32)[j]? =some v;rw[MK,List.map_append,List.getElem?_append_left (by rcases Nat.lt_or_ge j (IV.map U32).length with h|h;exact h;rw[List.getElem?_eq_none h]at hv;cases hv)];exact hv)) (λh=>h)) O O ?_
 refine Al 5 hGF zv91<|λb5=>az (vs:=IV.map U32) 5 hGF O O O sizeOf91 O (by rw[List.length_map,List.length_replicate]) (eH _) O<|aa<|ac (E:=EE [182])<|Mv O<|?_
 refine dy O O ent182 O O (λw' hw'=>(BQ _ _ bs hl w' (hGF.g _ _ _ hw') (hby.grow (ab hw'))).mono λe w'' h=> ?_);obtain ⟨sv,rfl,hg,hcl⟩:=h;rcases hcl with ⟨h0,_⟩|⟨b6,c,cap6,rfl,hb6,hob,hcc,hle,htk⟩
 ·exact absurd (congrArg List.length h0) (by rw[PAD,m5];simp)
 have hm64:=Kq bs;have hpl:(PAD bs).length<=bs.length+200:=by rw[PAD,m5];unfold nz;omega
 rw[show Jo bs=OD (RK (PAD bs) ((PAD bs).length / 64)) 32 from O];generalize PAD bs=p at hle htk hm64 hpl⊢;refine ⟨_,_,rfl,ay hGF,hw'.news am hg [(6,b6,c,5)] ?_ bQ, ?_⟩
 ·intro n' b' c' t' hl
  rcases aI hl with ⟨_,e⟩|⟨_,hl⟩
  ·cases e;exact ⟨hb6,hob⟩
  ·cases hl
 obtain ⟨tail,rfl⟩: ∃tail,c=p.map U8++tail:=⟨c.drop p.length,by rw[<-htk,List.take_append_drop]⟩
 clear hw' hg hb6 hob hcc htk;refine Asg O<|aa<|ae<|ac (E:=EE [182])<|Asg O<|aa<|ah<|bG (ι:={k:Nat // 64*k<=p.length}) (λx=>[(0,pnt bm),(4,pnt b4),(5,pnt b5),(6,.slice (spt b6) p.length cap6),(7,I ((64*x.1:Nat):Int))]) (λx=>[(4,b4,(List.replicate 32 0#8).map U8,98),(6,b6,p.map U8++tail,5),(5,b5,(RK p x.1).map U32,91)]) (λx=>p.length-x.1) ⟨0,om⟩ hGF trv trv<|?_;rintro ⟨k,hk⟩;dsimp only;refine ae<|ac (E:=EE [182])<|Mv O<|Mv O<|bc O (λ_=>aF underlying22 _ _ _ _) O O<|Bnr O O (λ_=>av _ _ _)<|aa<|?_;refine bC O (λhc=> ?_) (λhc=> ?_)
 ·simp only[decide_eq_true_eq]at hc
  have hk64:64*k+64<=p.length:=om;refine ap<|ae<|ah<|ac (E:=EE [182])<|Al 8 hGF zv92<|λb8=>aa<|ae<|ac (E:=EE [182])<|Asg O<|aa<|ah<|bG (ι:={i:Nat // i<=16}) (λx=>[(0,pnt bm),(4,pnt b4),(5,pnt b5),(6,.slice (spt b6) p.length cap6),(7,I ((64*k:Nat):Int)),(8,pnt b8),(9,I (x.1:Int))]) (λx=>[(4,b4,(List.replicate 32 0#8).map U8,98),(6,b6,p.map U8++tail,5),(5,b5,(RK p k).map U32,91),(8,b8,(V1 p (64*k) x.1).map U32,92)]) (λx=>16-x.1) ⟨0,om⟩ hGF trv trv<|?_;rintro ⟨i,hi⟩;dsimp only;refine ae<|ac (E:=EE [182])<|Mv O<|Bnr O O (λ_=>av _ _ _)<|aa<|?_;refine bC O (λhc=> ?_) (λhc=> ?_)
  ·simp only[decide_eq_true_eq]at hc
   refine ap<|ae<|ah<|ac (E:=EE [182])<|Asg O<|aa<|ah<|bG (ι:={m:Nat // m<=4}) (λx=>[(0,pnt bm),(4,pnt b4),(5,pnt b5),(6,.slice (spt b6) p.length cap6),(7,I ((64*k:Nat):Int)),(8,pnt b8),(9,I (i:Int)),(10,I (x.1:Int))]) (λx=>[(4,b4,(List.replicate 32 0#8).map U8,98),(6,b6,p.map U8++tail,5),(5,b5,(RK p k).map U32,91),(8,b8,((V1 p (64*k) i).set i (wk p (64*k+4*i) ((V1 p (64*k) i).getD i 0) x.1)).map U32,92)]) (λx=>4-x.1) ⟨0,om⟩ hGF trv ⟨rfl,rfl,rfl,congrArg (λl=>some (b8,List.map U32 l,92)) (pu _ i (by rw[nk];omega)),trivial⟩<|?_
   rintro ⟨m,hm⟩;dsimp only;refine ae<|ac (E:=EE [182])<|Mv O<|Bnr O O (λ_=>av _ _ _)<|aa<|?_;refine bC O (λhc=> ?_) (λhc=> ?_)
   ·simp only[decide_eq_true_eq]at hc
    have hq:64*k+4*i+m<p.length:=om;refine ap<|ae<|ah<|Xe [182]<|Mv O<|Mv O<|Ia (i) O O underlying92 sizeOf90<|Lm 8 U32 0 O O isAgg90 (by rw[List.length_set,nk];omega)<|?_
    rw[q8 _ _ _ (by rw[nk];omega)]
    refine Bnr O O (λ_=>gW _ _ _)<|Mv O<|Mv O<|Mv O<|Bnr O O (λ_=>bp _ _ _ oi)<|Bnr O O (λ_=>aq _ _ _ oi)<|Mv O<|Bnr O O (λ_=>aq _ _ _ oi)<|ie (64*k+4*i+m) O O underlying22 sizeOf5 om hq O O<|?_;rw[Nat.zero_add];refine cV 6 O O (Ct p tail (64*k+4*i+m) hq) isAgg5 O O<|bV O O (λ_=>gQ underlying5 underlying90 _) O O<|Bnr O O (λ_=>gF _ _ _)<|Ia (i) O O underlying92 sizeOf90<|aX 8 U32 hGF O O O sizeOf90 O (by rw[List.length_set,nk];omega) O<|?_
    rw[List.set_set];refine aa<|bF (E:=EE [182])<|Mv O<|Bnr O O (λ_=>aq _ _ _ oi)<|Asg O<|aa<|?_
    repeat (refine aL ?_)
    exact aB<|⟨rfl,⟨m+1,om⟩,_,by show 4-(m+1)<4-m;omega,rfl,trv,trv⟩
   ·obtain rfl:m=4:=by simp at hc;omega
    refine aU<|bF (E:=EE [182])<|Mv O<|Bnr O O (λ_=>aq _ _ _ oi)<|Asg O<|aa<|?_
    repeat (refine aL ?_)
    exact aB<|⟨rfl,⟨i+1,om⟩,_,by show 16-(i+1)<16-i;omega,rfl,trv,trv⟩
  ·obtain rfl:i=16:=by simp at hc;omega
   refine aU<|ae<|ac (E:=EE [182])<|Asg O<|aa<|ah<|bG (ι:={j:Nat // j<=48}) (λx=>[(0,pnt bm),(4,pnt b4),(5,pnt b5),(6,.slice (spt b6) p.length cap6),(7,I ((64*k:Nat):Int)),(8,pnt b8),(11,I ((16+x.1:Nat):Int))]) (λx=>[(4,b4,(List.replicate 32 0#8).map U8,98),(6,b6,p.map U8++tail,5),(5,b5,(RK p k).map U32,91),(8,b8,(V2 p (64*k) x.1).map U32,92)]) (λx=>48-x.1) ⟨0,om⟩ hGF trv trv<|?_;rintro ⟨j,hj⟩;dsimp only;refine ae<|ac (E:=EE [182])<|Mv O<|Bnr O O (λ_=>av _ _ _)<|aa<|?_;refine bC O (λhc=> ?_) (λhc=> ?_)
   ·simp only[decide_eq_true_eq]at hc
    refine ap<|ae<|ah<|Xd [182]<|Mv O<|Bnr O O (λ_=>aV _ _ _ oi)<|Ia (((16+j)-15)) O O underlying92 sizeOf90<|Lm 8 U32 0 O O isAgg90 (by rw[lH];omega)<|Mv O<|Bnr O O (λ_=>aV _ _ _ oi)<|Ia (((16+j)-2)) O O underlying92 sizeOf90<|Lm 8 U32 0 O O isAgg90 (by rw[lH];omega)<|Asg O<|Asg O<|aa<|Xe [182]<|Mv O<|Mv O<|Bnr O O (λ_=>aV _ _ _ oi)<|Ia (((16+j)-16)) O O underlying92 sizeOf90<|Lm 8 U32 0 O O isAgg90 (by rw[lH];omega)<|Mv O<|Ca O (ep _ _ om om)<|Mv O<|Ca O (ep _ _ om om)<|Bnr O O (λ_=>bL _ _ _)<|Mv O<|Bnr O O (λ_=>ee _ _ _)<|Bnr O O (λ_=>bL _ _ _)<|Bnr O O (λ_=>be _ _ _)<|Mv O<|Bnr O O (λ_=>aV _ _ _ oi)<|Ia (((16+j)-7)) O O underlying92 sizeOf90<|Lm 8 U32 0 O O isAgg90 (by rw[lH];omega)<|Bnr O O (λ_=>be _ _ _)<|Mv O<|Ca O (ep _ _ om om)<|Mv O<|Ca O (ep _ _ om om)<|Bnr O O (λ_=>bL _ _ _)<|?_
    refine Mv O<|Bnr O O (λ_=>ee _ _ _)<|Bnr O O (λ_=>bL _ _ _)<|Bnr O O (λ_=>be _ _ _)<|Ia ((16+j)) O O underlying92 sizeOf90<|aX 8 U32 hGF O O O sizeOf90 O (by rw[lH];omega) O<|aa<|bF (E:=EE [182])<|Mv O<|Bnr O O (λ_=>aq _ _ _ oi)<|Asg O<|aa<|?_
    repeat (refine aL ?_)
    exact aB<|⟨rfl,⟨j+1,om⟩,_,by show 48-(j+1)<48-j;omega,rfl,trv,trv⟩
   ·obtain rfl:j=48:=by simp at hc;omega
    refine aU<|ac (E:=EE [182])<|Lw 5 O O re (df _ _)<|Al 14 hGF zv91<|λb14=>Sx 14 hGF O O O re (df p k) (eH _)<|aa<|ae<|ac (E:=EE [182])<|Asg O<|aa<|ah<|bG (ι:={r:Nat // r<=64}) (λx=>[(0,pnt bm),(4,pnt b4),(5,pnt b5),(6,.slice (spt b6) p.length cap6),(7,I ((64*k:Nat):Int)),(8,pnt b8),(14,pnt b14),(15,I (x.1:Int))]) (λx=>[(4,b4,(List.replicate 32 0#8).map U8,98),(6,b6,p.map U8++tail,5),(5,b5,(RK p k).map U32,91),(8,b8,(V2 p (64*k) 48).map U32,92),(14,b14,(RRs (RK p k) (V2 p (64*k) 48) x.1).map U32,91)]) (λx=>64-x.1) ⟨0,om⟩ hGF trv trv<|?_;rintro ⟨r,hr⟩;dsimp only;refine ae<|ac (E:=EE [182])<|Mv O<|Bnr O O (λ_=>av _ _ _)<|aa<|?_;refine bC O (λhc=> ?_) (λhc=> ?_)
    ·simp only[decide_eq_true_eq]at hc
     refine ap<|ae<|ah<|Xd [182]<|Ia (4) O O underlying91 sizeOf90<|Lm 14 U32 0 O O isAgg90 (by rw[dB _ _ (df p k)];omega)<|Ia (0) O O underlying91 sizeOf90<|Lm 14 U32 0 O O isAgg90 (by rw[dB _ _ (df p k)];omega)<|Asg O<|Asg O<|aa<|Xd [182]<|Ia (7) O O underlying91 sizeOf90<|Lm 14 U32 0 O O isAgg90 (by rw[dB _ _ (df p k)];omega)<|Mv O<|Ca O (ep _ _ om om)<|Mv O<|Ca O (ep _ _ om om)<|Bnr O O (λ_=>bL _ _ _)<|Mv O<|Ca O (ep _ _ om om)<|Bnr O O (λ_=>bL _ _ _)<|Bnr O O (λ_=>be _ _ _)<|Mv O<|Ia (5) O O underlying91 sizeOf90<|Lm 14 U32 0 O O isAgg90 (by rw[dB _ _ (df p k)];omega)<|Bnr O O (λ_=>dq _ _ _)<|Mv O<|bi O (λ_=>pG _) O O<|Ia (6) O O underlying91 sizeOf90<|Lm 14 U32 0 O O isAgg90 (by rw[dB _ _ (df p k)];omega)<|Bnr O O (λ_=>dq _ _ _)<|Bnr O O (λ_=>bL _ _ _)<|Bnr O O (λ_=>be _ _ _)<|Mv O<|Mv O<|dz O O O<|Fa 8 O underlying94 O sizeOf92<|Ek (r) O O underlying92 sizeOf90 om om O O<|bN O isAgg90 (lE (B:=pl w) ((ho.cell (8+r)).trans (gm U32 MK 0 (8+r) (by rw[ca];omega))) (λh=>h)) O O<|?_
     refine Bnr O O (λ_=>be _ _ _)<|Mv O<|Ia (r) O O underlying92 sizeOf90<|Lm 8 U32 0 O O isAgg90 (by rw[lH];omega)<|Bnr O O (λ_=>be _ _ _)<|Asg O<|aa<|Xd [182]<|Mv O<|Ca O (ep _ _ om om)<|Mv O<|Ca O (ep _ _ om om)<|Bnr O O (λ_=>bL _ _ _)<|Mv O<|Ca O (ep _ _ om om)<|Bnr O O (λ_=>bL _ _ _)<|Mv O<|Ia (1) O O underlying91 sizeOf90<|Lm 14 U32 0 O O isAgg90 (by rw[dB _ _ (df p k)];omega)<|Bnr O O (λ_=>dq _ _ _)<|Mv O<|Ia (2) O O underlying91 sizeOf90<|Lm 14 U32 0 O O isAgg90 (by rw[dB _ _ (df p k)];omega)<|Bnr O O (λ_=>dq _ _ _)<|Bnr O O (λ_=>bL _ _ _)<|Ia (1) O O underlying91 sizeOf90<|Lm 14 U32 0 O O isAgg90 (by rw[dB _ _ (df p k)];omega)<|Ia (2) O O underlying91 sizeOf90<|Lm 14 U32 0 O O isAgg90 (by rw[dB _ _ (df p k)];omega)<|Bnr O O (λ_=>dq _ _ _)<|Bnr O O (λ_=>bL _ _ _)<|Bnr O O (λ_=>be _ _ _)<|Asg O<|aa<|bF (E:=EE [182])<|Mv O<|Mv O<|Bnr O O (λ_=>be _ _ _)<|Ia (0) O O underlying91 sizeOf90<|Lm 14 U32 0 O O isAgg90 (by rw[dB _ _ (df p k)];omega)<|?_
     refine Ia (1) O O underlying91 sizeOf90<|Lm 14 U32 0 O O isAgg90 (by rw[dB _ _ (df p k)];omega)<|Ia (2) O O underlying91 sizeOf90<|Lm 14 U32 0 O O isAgg90 (by rw[dB _ _ (df p k)];omega)<|Ia (3) O O underlying91 sizeOf90<|Lm 14 U32 0 O O isAgg90 (by rw[dB _ _ (df p k)];omega)<|Mv O<|Bnr O O (λ_=>be _ _ _)<|Ia (4) O O underlying91 sizeOf90<|Lm 14 U32 0 O O isAgg90 (by rw[dB _ _ (df p k)];omega)<|Ia (5) O O underlying91 sizeOf90<|Lm 14 U32 0 O O isAgg90 (by rw[dB _ _ (df p k)];omega)<|Ia (6) O O underlying91 sizeOf90<|Lm 14 U32 0 O O isAgg90 (by rw[dB _ _ (df p k)];omega)<|bR (n:=8) O O underlying91 sizeOf90 zeroValue91 O O O O<|az 14 hGF O O O sizeOf91 O (by rw[List.length_map,dB _ _ (df p k)]) O O<|aa<|bF (E:=EE [182])<|Mv O<|Bnr O O (λ_=>aq _ _ _ oi)<|Asg O<|aa<|?_
     repeat (refine aL ?_)
     exact aB<|⟨rfl,⟨r+1,om⟩,_,by show 64-(r+1)<64-r;omega,rfl,trv,trv⟩
    ·obtain rfl:r=64:=by simp at hc;omega
     refine aU<|ac (E:=EE [182])<|Asg O<|aa<|ah<|bG (ι:={t:Nat // t<=8}) (λx=>[(0,pnt bm),(4,pnt b4),(5,pnt b5),(6,.slice (spt b6) p.length cap6),(7,I ((64*k:Nat):Int)),(8,pnt b8),(14,pnt b14),(20,I (x.1:Int))]) (λx=>[(4,b4,(List.replicate 32 0#8).map U8,98),(6,b6,p.map U8++tail,5),(5,b5,(HAs (RK p k) (RRs (RK p k) (V2 p (64*k) 48) 64) x.1).map U32,91),(14,b14,(RRs (RK p k) (V2 p (64*k) 48) 64).map U32,91)]) (λx=>8-x.1) ⟨0,om⟩ hGF trv trv<|?_;rintro ⟨t,ht⟩;dsimp only;refine ae<|ac (E:=EE [182])<|Mv O<|Bnr O O (λ_=>av _ _ _)<|aa<|?_;refine bC O (λhc=> ?_) (λhc=> ?_)
     ·simp only[decide_eq_true_eq]at hc
      refine ap<|ae<|ah<|Xe [182]<|Mv O<|Ia (t) O O underlying91 sizeOf90<|Lm 5 U32 0 O O isAgg90 (by rw[oA,df];omega)<|Mv O<|Ia (t) O O underlying91 sizeOf90<|Lm 14 U32 0 O O isAgg90 (by rw[dB _ _ (df p k)];omega)<|Bnr O O (λ_=>be _ _ _)<|Ia (t) O O underlying91 sizeOf90<|aX 5 U32 hGF O O O sizeOf90 O (by rw[oA,df];omega) O<|aa<|bF (E:=EE [182])<|Mv O<|Bnr O O (λ_=>aq _ _ _ oi)<|Asg O<|aa<|?_
      repeat (refine aL ?_)
      exact aB<|⟨rfl,⟨t+1,om⟩,_,by show 8-(t+1)<8-t;omega,rfl,trv,trv⟩
     ·obtain rfl:t=8:=by simp at hc;omega
      refine aU<|bF (E:=EE [182])<|Mv O<|Bnr O O (λ_=>aq _ _ _ oi)<|Asg O<|aa<|?_
      repeat (refine aL ?_)
      exact aB<|⟨rfl,⟨k+1,om⟩,_,by show p.length-(k+1)<p.length-k;omega,rfl,trv,trv⟩
 ·simp only[decide_eq_false_iff_not]at hc
  obtain rfl:k=p.length / 64:=om;clear hc hk;refine aU<|ac (E:=EE [182])<|Al 21 hGF zv98<|λb21=>aa<|ae<|ac (E:=EE [182])<|Asg O<|aa<|ah<|bG (ι:={i:Nat // i<=32}) (λx=>[(4,pnt b4),(5,pnt b5),(21,pnt b21),(22,I (x.1:Int))]) (λx=>[(4,b4,(List.replicate 32 0#8).map U8,98),(5,b5,(RK p (p.length / 64)).map U32,91),(21,b21,(OD (RK p (p.length / 64)) x.1).map U8,98)]) (λx=>32-x.1) ⟨0,om⟩ hGF trv trv<|?_;rintro ⟨i,hi⟩;dsimp only;refine ae<|ac (E:=EE [182])<|Mv O<|Bnr O O (λ_=>av _ _ _)<|aa<|?_;refine bC O (λhc=> ?_) (λhc=> ?_)
  ·simp only[decide_eq_true_eq]at hc
   refine ap<|ae<|ah<|bF (E:=EE [182])<|Mv O<|Mv O<|Bnr (v:=I ((i / 4:Nat):Int)) O O (λ_=>fh _ _ _ dc (show inI ((i / 4:Nat):Int) by unfold inI;omega))<|Ia ((i / 4)) O O underlying91 sizeOf90<|Lm 5 U32 0 O O isAgg90 (by rw[df];omega)<|Mv O<|Bnr (v:=I ((i % 4:Nat):Int)) O O (λ_=>cX _ _ _ dc)<|Bnr O O (λ_=>bp _ _ _ oi)<|Bnr O O (λ_=>aV _ _ _ oi)<|Bnr O O (λ_=>lw _ _ _ om)<|bV O O (λ_=>gY underlying90 underlying5 _) O O<|Ia (i) O O underlying98 sizeOf5<|aX 21 U8 hGF O O O sizeOf5 O (by rw[qe];omega) O<|aa<|bF (E:=EE [182])<|Mv O<|Bnr O O (λ_=>aq _ _ _ oi)<|Asg O<|aa<|?_
   repeat (refine aL ?_)
   exact aB<|⟨rfl,⟨i+1,om⟩,_,by show 32-(i+1)<32-i;omega,rfl,trv,trv⟩
  ·obtain rfl:i=32:=by simp at hc;omega
   refine aU<|ac (E:=EE [182])<|Lw 21 O O uK (qe _ _)<|Sx 4 hGF O O O uK (qe _ _) (bY _)<|aa<|ak<|Rr<|?_;exact au 4 O O O isAgg98 sizeOf98 (by rw[List.length_map,qe]) (λw hw=>⟨rfl,ab hw⟩)
end Sh
end
section
open Go.RowKit
namespace Sh
theorem Ti(p:L8)(o:Nat):wk p o 0 4=((p.getD o 0).setWidth 32<<<24)|||((p.getD (o+1) 0).setWidth 32<<<16)|||((p.getD (o+2) 0).setWidth 32<<<8)|||(p.getD (o+3) 0).setWidth 32:=by
 simp only[wk,BitVec.shiftLeft_or_distrib,<-BitVec.shiftLeft_add,Nat.add_zero,Nat.reduceAdd];simp
def bk(p:L8)(k:Nat):L8:=(p.drop (64*k)).take 64
theorem oJ(p:L8)(k i:Nat)(h:i<64):(bk p k).getD i 0=p.getD (64*k+i) 0:=by
 simp[bk,List.getD_eq_getElem?_getD,h,List.getElem?_drop]
theorem Bj(p:L8)(q:Nat): ∀i j,i<=j->(V1 p q i).getD j 0=0
 |0,j,_=>by
  simp only[V1,List.getD_eq_getElem?_getD,List.getElem?_replicate];split<;>rfl
 |i+1,j,h=>by
  have:=Bj p q i j om;rw[List.getD_eq_getElem?_getD]at this⊢;rw[V1,List.getElem?_set_ne om];exact this
theorem M9(p:L8)(k:Nat): ∀i,i<=16->V1 p (64*k) i=W1 (bk p k) i
 |0,_=>rfl
 |i+1,h=>by
  rw[V1,Bj p _ i i (Nat.le_refl _),Ti,M9 p k i om,W1,w4,oJ _ _ _ om,oJ _ _ _ om,oJ _ _ _ om,oJ _ _ _ om];rfl
theorem fC(x:BitVec 32)(k:Int)(m:Nat)(h1:(BitVec.ofInt 64 k &&& 31#64).toNat=32-m)(h2:(32#64-(BitVec.ofInt 64 k &&& 31#64)).toNat=m):lm x k=turn x m:=by
 rw[lm,turn,h1,h2,BitVec.or_comm]
theorem Iw(x:BitVec 32):Cy x=r0 x:=by
 rw[Cy,r0,fC x (-7) 7 dc dc,fC x (-18) 18 dc dc]
theorem Ii(x:BitVec 32):BW x=r1 x:=by
 rw[BW,r1,fC x (-17) 17 dc dc,fC x (-19) 19 dc dc]
theorem PF(x:BitVec 32):vv x=turn x 2^^^turn x 13^^^turn x 22:=by
 rw[vv,fC x (-2) 2 dc dc,fC x (-13) 13 dc dc,fC x (-22) 22 dc dc]
theorem Qs(x:BitVec 32):qD x=turn x 6^^^turn x 11^^^turn x 25:=by
 rw[qD,fC x (-6) 6 dc dc,fC x (-11) 11 dc dc,fC x (-25) 25 dc dc]
theorem XB(ws:L3)(i:Nat):r5 ws i=w5 ws i:=by
 rw[r5,w5,Iw,Ii]
 ac_rfl
theorem KZ(p:L8)(k:Nat): ∀j,V2 p (64*k) j=W2 (bk p k) j
 |0=>M9 p k 16 om
 |j+1=>by rw[V2,W2,KZ p k j,XB]
def toL(v:V8):L3:=[v.a,v.b,v.c,v.d,v.e,v.f,v.g,v.h]
theorem RG(v:V8)(k w:BitVec 32):rr (toL v) k w=toL (rnd v k w):=by
 have e1:rt (toL v) k w=v.h+qD v.e+(v.e &&& v.f^^^ ~~~v.e &&& v.g)+k+w:=by rw[Qs];rfl
 have e2:ru (toL v)=vv v.a+(v.a &&& v.b^^^v.a &&& v.c^^^v.b &&& v.c):=by rw[PF];rfl
 rw[rr,e1,e2];rfl
theorem Uf(j:Nat):MK.getD (8+j) 0=KW.getD j 0:=by
 rw[MK,List.getD_eq_getElem?_getD,List.getElem?_append_right (by show 8<=8+j;omega),show 8+j-IV.length=j from by show 8+j-8=j;omega,<-List.getD_eq_getElem?_getD]
theorem P8(h:L3)(hh:h.length=8):toL (v8 h)=h:=by
 match h,hh with
 |[_,_,_,_,_,_,_,_],_=>rfl
theorem wa(h ws:L3)(hh:h.length=8): ∀j,RRs h ws j=toL (mO (v8 h) ws j)
 |0=>(P8 h hh).symm
 |j+1=>by rw[RRs,wa h ws hh j,RG,Uf,mO]
theorem Gv(h:L3)(v:V8)(hh:h.length=8):HAs h (toL v) 8=NS h v:=by
 match h,hh with
 |[_,_,_,_,_,_,_,_],_=>rfl
theorem JT(p:L8)(k:Nat):RK p (k+1)=rn (RK p k) (bk p k):=by
 rw[RK,rn,wa _ _ (df p k),Gv _ _ (df p k),KZ]
theorem Uo(h:L3)(hh:h.length=8):OD h 32=DG h 8:=by
 match h,hh with
 |[a,b,c,d,e,f,g,i],_=>
  have z: ∀x:BitVec 32,x>>>(0:Nat)=x:=λx=>sm;simp only[OD,DG,List.replicate,List.set,List.getD,Nat.reduceDiv,Nat.reduceMod,Nat.reduceMul,Nat.reduceAdd];simp
theorem AU(p:L8)(L:List L8): ∀k,k<=L.length->(∀i,i<L.length->bk p i=L.getD i [])->RK p k=gM IV L k
 |0,_,_=>rfl
 |k+1,h,hb=>by rw[JT,gM,AU p L k om hb,hb k om]
theorem HR(L:List L8)(h: ∀l∈L,l.length=64):L.flatten.length=64*L.length:=by
 induction L with
 |nil=>rfl
 |cons x r ih=>
  rw[List.flatten_cons,List.length_append,ih (λl hl=>h l (by simp[hl])),h x sm,List.length_cons]
  omega
theorem Jp(L:List L8)(h: ∀l∈L,l.length=64): ∀i,i<L.length->bk L.flatten i=L.getD i []:=by
 induction L with
 |nil=>intro i hi;simp at hi
 |cons x r ih=>
  intro i hi;have hx:x.length=64:=h x sm
  cases i with
  |zero=>simp[bk,hx]
  |succ i=>
   have e:=ih (λl hl=>h l (by simp[hl])) i (by simpa using hi)
   rw[List.getD_cons_succ,<-e,bk,bk,List.flatten_cons,show 64*(i+1)=x.length+64*i from by omega,List.drop_append,List.drop_eq_nil_of_le (by omega:x.length<=x.length+64*i),List.nil_append,Nat.add_sub_cancel_left]
theorem px(bs:L8): ∀m,64*m<=bs.length->((List.range m).map λk=>(bs.drop (64*k)).take 64).flatten=bs.take (64*m)
 |0,_=>sm
 |m+1,h=>by
  rw[List.range_succ,List.map_append,List.flatten_append,px bs m om];simp only[List.map_cons,List.map_nil,List.flatten_cons,List.flatten_nil,List.append_nil];rw[show 64*(m+1)=64*m+64 from by omega,List.take_add]
theorem LZ(rs:L8)(h:rs.length<64):e1 rs=rs++([128#8]++List.replicate (63-rs.length) 0#8):=by
 rw[e1,List.set_append_right _ _ (Nat.le_refl _),Nat.sub_self,show 64-rs.length=(63-rs.length)+1 from by omega,List.replicate_succ]
 rfl
def b8s(n:BitVec 64):Nat->L8
 |0=>[]
 |k+1=>b8s n k++[((8#64*n)>>>(56-8*(k:Int)).toNat).setWidth 8]
theorem sN(n:BitVec 64): ∀k,(b8s n k).length=k
 |0=>rfl
 |k+1=>by rw[b8s,List.length_append,sN n k];rfl
theorem GC(bl:L8)(n:BitVec 64)(h:bl.length=64): ∀k,k<=8->LB bl n k=bl.take 56++(b8s n k++bl.drop (56+k))
 |0,_=>by simp[LB,b8s]
 |k+1,hk=>by
  have hd:bl.drop (56+k)=bl[56+k]::bl.drop (56+(k+1)):=by rw[List.drop_eq_getElem_cons om];rfl
  rw[LB,GC bl n h k om,hd,List.set_append_right _ _ (by simp[h]),List.set_append_right _ _ (by simp[h,sN]),b8s]
  simp[h,sN]
theorem LM(bs:L8)(n:BitVec 64): ∀j,j<=8->PE bs (n*8#64) j=PD bs (nz bs)++b8s n j
 |0,_=>by simp[PE,b8s]
 |j+1,h=>by
  rw[PE,LM bs n j om,b8s,nb,BitVec.mul_comm,show (8*(7-(j:Int))).toNat=(56-8*(j:Int)).toNat from by omega,List.append_assoc]
theorem FQ(bs:L8):PAD bs=(pd bs).flatten:=by
 rw[PAD,LM bs _ 8 (Nat.le_refl _),pd,List.flatten_append,iH,px bs _ om,PD];have hr:=wI bs;have hrl:(bs.drop (64*(bs.length / 64))).length=bs.length % 64:=by rw[List.length_drop];omega
 generalize hrs:bs.drop (64*(bs.length / 64))=rs at hr hrl;have hbs:bs=bs.take (64*(bs.length / 64))++rs:=by rw[<-hrs,List.take_append_drop]
 generalize hn:BitVec.ofInt 64 (bs.length:Int)=n;have key:(fu rs n).flatten=rs++([128#8]++(List.replicate (nz bs) 0#8++b8s n 8)):=by
  unfold fu;split
  ·rename_i h56
   have hz:nz bs=55-rs.length:=by unfold nz;omega
   rw[List.flatten_cons,List.flatten_nil,List.append_nil,GC _ _ (yw rs om) 8 (Nat.le_refl _),LZ rs hr,hz];rw[List.drop_eq_nil_of_le (by simp;omega),List.append_nil,List.take_append,List.take_of_length_le (by omega:rs.length<=56)]
   rw[List.take_append,List.take_of_length_le (by simp;omega),List.take_replicate]
   simp only[List.append_assoc,List.length_cons,List.length_nil];rw[show min (56-rs.length-(0+1)) (63-rs.length)=55-rs.length from by omega]
  ·rename_i h56
   have hz:nz bs=(63-rs.length)+56:=by unfold nz;omega
   rw[List.flatten_cons,List.flatten_cons,List.flatten_nil,List.append_nil,GC _ _ sm 8 (Nat.le_refl _),LZ rs hr,hz,<-List.replicate_append_replicate];simp
 rw[key]
 conv=>lhs;lhs;lhs;rw[hbs]
 simp only[List.append_assoc]
theorem HG(bs:L8):Jo bs=SHA bs:=by
 have hb:=F4 bs;have hl:=HR (pd bs) hb;rw[Jo,SHA,FQ,hl,Nat.mul_div_cancel_left _ dc,AU _ (pd bs) _ (Nat.le_refl _) (Jp _ hb),Uo _ (gP _ _ O _)]
end Sh
end
section
open Go.RowKit
theorem ent83:ai prog 83:=λ_ _=>kr
namespace Xm
theorem zv98(w:World):(zeroValue 98).run prog w=.ok (.agg ((List.replicate 32 (0#8)).map U8).toArray) w:=Sh.zv98 w
theorem ti5:TI prog 5 (.int .u8 0) 1 1:=Sh.ti5
def D(dst:L8):L8:=dst++[BitVec.ofInt 8 (dst.length:Int)]
theorem kj(dst:L8):(D dst).length=dst.length+1:=by simp[D]
def F(msg dst:L8)(n:Nat):L8:=((List.replicate 64 0#8++msg)++[BitVec.ofInt 8 ((n / 256:Nat):Int),BitVec.ofInt 8 (n:Int),0#8])++D dst
theorem qQ(msg dst:L8)(n:Nat):(F msg dst n).length=64+msg.length+3+(dst.length+1):=by
 rw[F,List.length_append,List.length_append,List.length_append,List.length_replicate,kj];rfl
def B0(msg dst:L8)(n:Nat):L8:=Sh.SHA (F msg dst n)
theorem kJ(msg dst:L8)(n:Nat):(B0 msg dst n).length=32:=Sh.gH _
def R(b l:L8):Nat->L8
 |0=>b
 |j+1=>(R b l j).set j (b.getD j 0^^^l.getD j 0)
theorem kc(b l:L8): ∀j,(R b l j).length=b.length
 |0=>rfl
 |j+1=>by rw[R,List.length_set,kc b l j]
def Xk(b d:L8):Nat->L8
 |0=>List.replicate 32 0#8
 |k+1=>Sh.SHA (((if k=0 then b else R b (Xk b d k) 32)++[BitVec.ofInt 8 ((k+1:Nat):Int)])++d)
theorem fA(b d:L8): ∀k,(Xk b d k).length=32
 |0=>List.length_replicate
 |_+1=>Sh.gH _
def Ozz(b d:L8):Nat->L8
 |0=>[]
 |k+1=>Ozz b d k++Xk b d (k+1)
theorem gb(b d:L8): ∀k,(Ozz b d k).length=32*k
 |0=>rfl
 |k+1=>by rw[Ozz,List.length_append,gb b d k,fA];omega
def E(msg dst:L8)(n:Nat):L8:=(Ozz (B0 msg dst n) (D dst) ((n+31) / 32)).take n
theorem ki(msg dst:L8)(n:Nat):(E msg dst n).length=n:=by rw[E,List.length_take,gb];omega
structure Bk(xs:L8) where
 (b:Nat) (c:List Value)
 h1:xs.length<=c.length
 h2:c.take xs.length=xs.map U8
theorem r6(bm:Nat)(a:Option Addr)(len cap:Nat)(bs:L8)(hb:bs.length=len)(hl:len<=100000)(w:World)(hw:Gt w)(ho:OwnB w bm (Sh.MK.map U32) 94)(hby:BytesAt w a bs):CLS 133 [pnt bm,.slice a len cap].toArray w (λe w'=>e=.returned (.agg ((Sh.SHA bs).map U8).toArray)/\Grow w w'):=by
 subst hb;rw[<-Sh.HG];exact Sh.yP bm a cap bs om w hw ho hby
theorem own_grow{w w':World}{b:Nat}{c:List Value}{t:TypeId}(h:OwnB w b c t)(hg:Grow w w'):OwnB w' b c t:=h.of_same (hg.block b h.lt)
theorem hmc{i:TypeInfo}(k:Nat)(h:prog.info? 5=some i/\i.zero=some (.int .u8 0)/\i.size=1/\i.bytes=1)(hk:(madeCells (Value.int .u8 0).cells (k*1)).toList=(List.replicate k 0#8).map U8):(madeCells (Value.int .u8 0).cells (k*i.size)).toList=(List.replicate k 0#8).map U8:=by
 rw[h.2.2.1];exact hk
theorem hmk(k:Nat)(h:k<=1000):k*ti5.choose.size<=16777216/\ti5.choose.bytes*k<=281474976710656/\k<=1000000:=by
 rw[ti5.choose_spec.2.2.1,ti5.choose_spec.2.2.2];omega
theorem Uv:(madeCells (Value.int .u8 0).cells (64*1)).toList=(List.replicate 64 0#8).map U8:=kr
end Xm
end
section
open Go.RowKit
namespace Xm
attribute [local simp] Sh.gH kJ qQ kc fA gb Sh.ca kj
theorem WA(bm:Nat)(a1:Option Addr)(cap1:Nat)(msg:L8)(a2:Option Addr)(cap2:Nat)(dst:L8)(z:Int)(h:z<0)(w:World)(hw:Gt w):CLS 83 [pnt bm,.slice a1 msg.length cap1,.slice a2 dst.length cap2,I z].toArray w (λe w'=>e=.returned (.tuple #[.slice none 0 0,I 130])/\Grow w w'):=by
 refine Hf func83 O hw<|λhGF=>Xp<|Asg O<|Asg O<|aa<|ae<|Xp<|Mv O<|Bnb true O O (λ_=>av _ _ _) (decide_eq_true om)<|Mv O<|Sk<|Sk<|Pk O O O<|Mv O<|Sk<|Sk<|Sk<|Pk O O O<|Mv O<|Sk<|Sk<|Sk<|Pk O O O<|aa<|aP O<|Xp<|Asg O<|Asg O<|aa<|ak<|Rr<|?_;exact cg O O O (λw hw=>⟨rfl,ab hw⟩)
theorem Wd(bm:Nat)(a1:Option Addr)(cap1:Nat)(msg:L8)(a2:Option Addr)(cap2:Nat)(dst:L8)(z:Int)(h:8160<z)(w:World)(hw:Gt w):CLS 83 [pnt bm,.slice a1 msg.length cap1,.slice a2 dst.length cap2,I z].toArray w (λe w'=>e=.returned (.tuple #[.slice none 0 0,I 130])/\Grow w w'):=by
 refine Hf func83 O hw<|λhGF=>Xp<|Asg O<|Asg O<|aa<|ae<|Xp<|Mv O<|Bnb false O O (λ_=>av _ _ _) (decide_eq_false om)<|Mv O<|Mv O<|Bnb true O O (λ_=>a9 _ _ _) (decide_eq_true om)<|Pk O O O<|Mv O<|Sk<|Sk<|Sk<|Pk O O O<|Mv O<|Sk<|Sk<|Sk<|Pk O O O<|aa<|aP O<|Xp<|Asg O<|Asg O<|aa<|ak<|Rr<|?_;exact cg O O O (λw hw=>⟨rfl,ab hw⟩)
theorem Wy(bm:Nat)(a1:Option Addr)(cap1:Nat)(msg:L8)(a2:Option Addr)(cap2:Nat)(dst:L8)(z:Int)(h0: ¬z<0)(h1: ¬8160<z)(h:255<dst.length)(w:World)(hw:Gt w):CLS 83 [pnt bm,.slice a1 msg.length cap1,.slice a2 dst.length cap2,I z].toArray w (λe w'=>e=.returned (.tuple #[.slice none 0 0,I 130])/\Grow w w'):=by
 refine Hf func83 O hw<|λhGF=>Xp<|Asg O<|Asg O<|aa<|ae<|Xp<|Mv O<|Bnb false O O (λ_=>av _ _ _) (decide_eq_false om)<|Mv O<|Mv O<|Bnb false O O (λ_=>a9 _ _ _) (decide_eq_false om)<|Pk O O O<|Mv O<|Mv O<|bc O (λ_=>aF underlying22 _ _ _ _) O O<|Bnb true O O (λ_=>a9 _ _ _) (decide_eq_true om)<|Pk O O O<|Mv O<|Sk<|Sk<|Sk<|Pk O O O<|aa<|aP O<|Xp<|Asg O<|Asg O<|aa<|ak<|Rr<|?_;exact cg O O O (λw hw=>⟨rfl,ab hw⟩)
theorem S8(bm:Nat)(a1:Option Addr)(cap1:Nat)(msg:L8)(a2:Option Addr)(cap2:Nat)(dst:L8)(z:Int)(h0: ¬z<0)(h1: ¬8160<z)(h2: ¬255<dst.length)(h:65536<msg.length)(w:World)(hw:Gt w):CLS 83 [pnt bm,.slice a1 msg.length cap1,.slice a2 dst.length cap2,I z].toArray w (λe w'=>e=.returned (.tuple #[.slice none 0 0,I 130])/\Grow w w'):=by
 refine Hf func83 O hw<|λhGF=>Xp<|Asg O<|Asg O<|aa<|ae<|Xp<|Mv O<|Bnb false O O (λ_=>av _ _ _) (decide_eq_false om)<|Mv O<|Mv O<|Bnb false O O (λ_=>a9 _ _ _) (decide_eq_false om)<|Pk O O O<|Mv O<|Mv O<|bc O (λ_=>aF underlying22 _ _ _ _) O O<|Bnb false O O (λ_=>a9 _ _ _) (decide_eq_false om)<|Pk O O O<|Mv O<|Mv O<|bc O (λ_=>aF underlying22 _ _ _ _) O O<|Bnb true O O (λ_=>a9 _ _ _) (decide_eq_true om)<|Pk O O O<|aa<|aP O<|Xp<|Asg O<|Asg O<|aa<|ak<|Rr<|?_;exact cg O O O (λw hw=>⟨rfl,ab hw⟩)
theorem o2{w:World}{b:Nat}{c:List Value}{xs:L8}(h:w.rangeAt b 0 c)(h2:c.take xs.length=xs.map U8):BytesAt w (spt b) xs:=BytesAt.range λj v hv=>h j v (by
 rw[<-h2,List.getElem?_take]at hv;split at hv
 ·exact hv
 ·cases hv)
structure LpV(b d:L8)(m:Nat) where
 (k:Nat) (a0:Option Addr) (cap:Nat) (own:Hl)
 hk:k<=m
 hs:OwnSl own 50 5 a0 cap (Ozz b d k)
 ho:own=[]\/∃z,own=[(50,z)]
theorem uG{own L:Hl}(ho:own=[]\/∃z,own=[(50,z)])(h:lkB L 50=lkB own 50):jP L own:=by
 rcases ho with rfl|⟨z,rfl⟩
 ·exact trivial
 ·exact ⟨h,trivial⟩
theorem JG{own:Hl}{a0:Option Addr}{cap:Nat}{xs:L8}(h:OwnSl own 50 5 a0 cap xs):xs.length<=cap:=by
 rcases h with ⟨_,rfl,rfl⟩|⟨_,_,_,_,_,h,_⟩
 ·exact Nat.le_refl _
 ·exact h
def X16(b l:L8)(k:Nat):L8:=if k=0 then b else R b l 32
theorem uA{b l:L8}(hb:b.length=32)(k:Nat):(X16 b l k).length=32:=by
 unfold X16;split
 ·exact hb
 ·rw[kc];exact hb
theorem xN{xs ys:L8}(h:ys.length=32)(e:xs++ys=[]):False:=by
 have:=congrArg List.length e;rw[List.length_append,h,List.length_nil]at this;omega
theorem wo{c:List Value}{xs:L8}{n:Nat}(h:c.take xs.length=xs.map U8)(hn:n<=xs.length):c.take n=(xs.take n).map U8:=by
 have e:=congrArg (List.take n) h;rw[List.take_take,Nat.min_eq_left hn]at e;rw[e,List.map_take]
attribute [local simp] uA
theorem OR(bm:Nat)(a1:Option Addr)(cap1:Nat)(msg:L8)(a2:Option Addr)(cap2:Nat)(dst:L8)(n:Nat)(hn:n<=8160)(hd:dst.length<=255)(hm:msg.length<=65536)(w:World)(hw:Gt w)(ho:OwnB w bm (Sh.MK.map U32) 94)(hb1:BytesAt w a1 msg)(hb2:BytesAt w a2 dst):CLS 83 [pnt bm,.slice a1 msg.length cap1,.slice a2 dst.length cap2,I (n:Int)].toArray w (λe w'=> ∃sv,e=.returned (.tuple #[sv,I 0])/\Grow w w'/\Sh.Cln w w' (E msg dst n) sv):=by
 refine Hf func83 O hw<|λhGF=>Xp<|Asg O<|Asg O<|aa<|ae<|Xp<|Mv O<|Bnb false O O (λ_=>av _ _ _) (decide_eq_false om)<|Mv O<|Mv O<|Bnb false O O (λ_=>a9 _ _ _) (decide_eq_false om)<|Pk O O O<|Mv O<|Mv O<|bc O (λ_=>aF underlying22 _ _ _ _) O O<|Bnb false O O (λ_=>a9 _ _ _) (decide_eq_false om)<|Pk O O O<|Mv O<|Mv O<|bc O (λ_=>aF underlying22 _ _ _ _) O O<|Bnb false O O (λ_=>a9 _ _ _) (decide_eq_false om)<|Pk O O O<|aa<|aC O<|ap<|?_;refine i3 (ι:=Bk (D dst)) (λz=>[(0,pnt bm),(1,.slice a1 msg.length cap1),(3,I (n:Int)),(10,.slice (spt z.b) (D dst).length z.c.length)]) (λz=>[(10,z.b,z.c,5)]) hGF ?_ ?_
 ·refine Xq<|Mv O<|?_
  refine cn (xs:=[]) (ys:=dst) 10 hGF O O underlying22 underlying22 ti5 (iB _ _ _) (λw' h=>hb2.grow (ab h)) (by first|omega|(simp<;>omega)) O O (λh0=> ?_) (λb35 c35 cap35 e35 l35 t35=> ?_)
  ·have hd:dst=[]:=h0
   subst hd;clear h0;refine Mv O<|bc O (λ_=>aF underlying22 _ _ _ _) O O<|bV O O (λ_=>ff underlying3 underlying5 _) O O<|dV 39 [BitVec.ofInt 8 ((List.length ([]:L8):Nat):Int)] hGF O O O dc dc underlying22 sizeOf5 zeroValue5 O O<|?_;intro b39;refine cn (xs:=[]) (ys:=[BitVec.ofInt 8 ((List.length ([]:L8):Nat):Int)]) 10 hGF O O underlying22 underlying22 ti5 (iB _ _ _) (λw' h=>BytesAt.range (aG (n:=39) O w' h)) (by first|omega|(simp<;>omega)) O O (λh0=> ?_) (λb40 c40 cap40 e40 l40 t40=> ?_)
   ·simp at h0
   subst e40;exact Asg O<|aa<|aB<|⟨rfl,⟨b40,c40,l40,t40⟩,_,rfl,trv,trv⟩
  ·subst e35
   refine Mv O<|bc O (λ_=>aF underlying22 _ _ _ _) O O<|bV O O (λ_=>ff underlying3 underlying5 _) O O<|dV 39 [BitVec.ofInt 8 (dst.length:Int)] hGF O O O dc dc underlying22 sizeOf5 zeroValue5 O O<|?_;intro b39;refine cn (xs:=dst) (ys:=[BitVec.ofInt 8 (dst.length:Int)]) 10 hGF O O underlying22 underlying22 ti5 (.inr ⟨b35,c35,rfl,rfl,rfl,l35,t35⟩) (λw' h=>BytesAt.range (aG (n:=39) O w' h)) (by first|omega|(simp<;>omega)) O O (λh0=> ?_) (λb40 c40 cap40 e40 l40 t40=> ?_)
   ·simp at h0
   subst e40;exact Asg O<|aa<|aB<|⟨rfl,⟨b40,c40,l40,t40⟩,_,rfl,trv,trv⟩
 ·intro z
  obtain ⟨bd,cd,hd1,hd2⟩:=z;dsimp only;refine Xp<|oO 41 hGF O O underlying22 ti5.choose_spec.1 ti5.choose_spec.2.1 (hmk 64 dc) (hmc 64 ti5.choose_spec Uv) O O<|λb41=>Mv O<|?_;refine cn (xs:=List.replicate 64 0#8) (ys:=msg) 41 hGF O O underlying22 underlying22 ti5 (.inr ⟨b41,_,rfl,rfl,sm,sm,sm⟩) (λw' h=>hb1.grow (ab h)) (by first|omega|(simp<;>omega)) O O (λh0=> ?_) (λb43 c43 cap43 e43 l43 t43=> ?_)
  ·simp at h0
  subst e43;refine Asg O<|aa<|Xp<|Mv O<|Mv O<|Bnr O O (λ_=>wt _ _)<|bV O O (λ_=>ff underlying3 underlying5 _) O O<|Mv O<|bV O O (λ_=>ff underlying3 underlying5 _) O O<|dV 50 [BitVec.ofInt 8 ((n / 256:Nat):Int),BitVec.ofInt 8 (n:Int),0#8] hGF O O O dc dc underlying22 sizeOf5 zeroValue5 O O<|?_;intro b50;refine cn (xs:=List.replicate 64 0#8++msg) (ys:=[BitVec.ofInt 8 ((n / 256:Nat):Int),BitVec.ofInt 8 (n:Int),0#8]) 41 hGF O O underlying22 underlying22 ti5 (.inr ⟨b43,c43,rfl,rfl,rfl,l43,t43⟩) (λw' h=>BytesAt.range (aG (n:=50) O w' h)) (by first|omega|(simp<;>omega)) O O (λh0=> ?_) (λb51 c51 cap51 e51 l51 t51=> ?_)
  ·simp at h0
  subst e51;refine Mv O ?_;refine cn (xs:=(List.replicate 64 0#8++msg)++[BitVec.ofInt 8 ((n / 256:Nat):Int),BitVec.ofInt 8 (n:Int),0#8]) (ys:=(D dst)) 41 hGF O O underlying22 underlying22 ti5 (.inr ⟨b51,c51,rfl,rfl,rfl,l51,t51⟩) (λw' h=>o2 (aG (n:=10) O w' h) hd2) (by first|omega|(simp<;>omega)) O O (λh0=> ?_) (λb53 c53 cap53 e53 l53 t53=> ?_)
  ·simp at h0
  subst e53;refine Asg O<|aa<|Xp<|Mv O<|Mv O<|Cc O ent133 (λw' hC hG=>r6 bm (spt b53) _ _ (F msg dst n) O (by first|omega|(simp<;>omega)) w' hG (own_grow ho (ab hC)) (o2 (aG (n:=41) O w' hC) t53))<|Al 12 hGF zv98<|λb12=>az 12 hGF O O O sizeOf98 sm sm (bY _) O<|aa<|Xp<|Asg O<|aa<|Xp<|Al 14 hGF zv98<|λb14=>aa<|ae<|Xp<|Asg O<|aa<|ah<|bG (ι:=LpV (B0 msg dst n) (D dst) ((n+31) / 32)) (λz=>[(0,pnt bm),(3,I (n:Int)),(10,.slice (spt bd) (D dst).length cd.length),(12,pnt b12),(13,.slice z.a0 (Ozz (B0 msg dst n) (D dst) z.k).length z.cap),(14,pnt b14),(15,I ((z.k+1:Nat):Int))]) (λz=>(10,bd,cd,5)::(12,b12,(B0 msg dst n).map U8,98)::(14,b14,(Xk (B0 msg dst n) (D dst) z.k).map U8,98)::z.own) (λz=>((n+31) / 32)-z.k) ⟨0,none,0,[],om,iB _ _ _,.inl O⟩ hGF trv trv<|?_
  rintro ⟨k,a0,cap,own,hk,hs,hown⟩;dsimp only at hs hown⊢;have hx:(X16 (B0 msg dst n) (Xk (B0 msg dst n) (D dst) k) k).length=32:=uA (Sh.gH _) k;have hcap:=JG hs;rw[gb]at hcap;refine ae<|Xp<|Mv O<|bc O (λ_=>aF underlying22 _ _ _ _) O O<|Mv O<|Bnr O O (λ_=>av _ _ _)<|aa<|?_;refine bC O (λhc=> ?_) (λhc=> ?_)
  ·have hlt:32*k<n:=by rw[gb]at hc;simp at hc;omega
   clear hc;refine ap<|ae<|ah<|Xp<|La 12 O O uK<|Al 16 hGF zv98<|λb16=>az 16 hGF O O O sizeOf98 sm sm (bY _) O<|aa<|?_;refine i3 (ι:=Unit) (λ_=>[(0,pnt bm),(3,I (n:Int)),(10,.slice (spt bd) (D dst).length cd.length),(12,pnt b12),(13,.slice a0 (Ozz (B0 msg dst n) (D dst) k).length cap),(14,pnt b14),(15,I ((k+1:Nat):Int)),(16,pnt b16)]) (λ_=>(16,b16,(X16 (B0 msg dst n) (Xk (B0 msg dst n) (D dst) k) k).map U8,98)::(10,bd,cd,5)::(12,b12,(B0 msg dst n).map U8,98)::(14,b14,(Xk (B0 msg dst n) (D dst) k).map U8,98)::own) hGF ?_ ?_
   ·by_cases hk0:k=0
    ·refine Xp<|Mv O<|Bnb false O O (λ_=>a9 _ _ _) (decide_eq_false om)<|aa<|aC O<|ap<|?_
     repeat (refine aL ?_)
     exact aB<|⟨rfl,(),_,rfl,trv,⟨by rw[X16,if_pos hk0];rfl,rfl,rfl,rfl,uG hown O⟩⟩
    ·refine Xp<|Mv O<|Bnb true O O (λ_=>a9 _ _ _) (decide_eq_true om)<|aa<|aP O<|Xp<|Asg O<|aa<|ah<|bG (ι:={j:Nat // j<=32}) (λy=>[(0,pnt bm),(3,I (n:Int)),(10,.slice (spt bd) (D dst).length cd.length),(12,pnt b12),(13,.slice a0 (Ozz (B0 msg dst n) (D dst) k).length cap),(14,pnt b14),(15,I ((k+1:Nat):Int)),(16,pnt b16),(17,I (y.1:Int))]) (λy=>(16,b16,(R (B0 msg dst n) (Xk (B0 msg dst n) (D dst) k) y.1).map U8,98)::(10,bd,cd,5)::(12,b12,(B0 msg dst n).map U8,98)::(14,b14,(Xk (B0 msg dst n) (D dst) k).map U8,98)::own) (λy=>32-y.1) ⟨0,om⟩ hGF trv ⟨rfl,rfl,rfl,rfl,uG hown O⟩<|?_
     rintro ⟨j,hj⟩;dsimp only;refine ae<|Xp<|Mv O<|Bnr O O (λ_=>av _ _ _)<|aa<|?_;refine bC O (λhc=> ?_) (λhc=> ?_)
     ·simp only[decide_eq_true_eq]at hc
      refine ap<|ae<|ah<|Xe []<|Mv O<|Mv O<|Ia (j) O O underlying98 sizeOf5<|Lm 12 U8 0 O O isAgg5 (by simp;try omega)<|Mv O<|Ia (j) O O underlying98 sizeOf5<|Lm 14 U8 0 O O isAgg5 (by simp;try omega)<|Bnr O O (λ_=>qO _ _ _)<|Ia (j) O O underlying98 sizeOf5<|aX 16 U8 hGF O O O sizeOf5 O (by simp;try omega) O<|aa<|Xq<|Mv O<|Bnr O O (λ_=>aq _ _ _ oi)<|Asg O<|aa<|?_
      repeat (refine aL ?_)
      exact aB<|⟨rfl,⟨j+1,om⟩,_,by show 32-(j+1)<32-j;omega,rfl,trv,⟨rfl,rfl,rfl,rfl,uG hown O⟩⟩
     ·obtain rfl:j=32:=by simp at hc;omega
      refine aU ?_
      repeat (first|refine du ?_|refine ck ?_)
      exact aB<|⟨rfl,(),_,rfl,trv,⟨by rw[X16,if_neg hk0];rfl,rfl,rfl,rfl,uG hown O⟩⟩
   ·intro _
    refine Xp<|Mv O<|bP (l:=0) (h':=32) O underlying98 sizeOf5 O O om om O O<|?_;refine cn (xs:=[]) (ys:=X16 (B0 msg dst n) (Xk (B0 msg dst n) (D dst) k) k) 60 hGF O (by rw[hx];rfl) underlying22 underlying22 ti5 (iB _ _ _) (λw' h=>BytesAt.range (aG (n:=16) O w' h)) (by rw[hx];decide) O O (λh0=> ?_) (λb81 c81 cap81 e81 l81 t81=> ?_)
    ·exact (xN hx h0).elim
    subst e81;refine Mv O<|bV O O (λ_=>ff underlying3 underlying5 _) O O<|dV 84 [BitVec.ofInt 8 ((k+1:Nat):Int)] hGF O O O dc dc underlying22 sizeOf5 zeroValue5 O O<|?_;intro b84;refine cn (xs:=X16 (B0 msg dst n) (Xk (B0 msg dst n) (D dst) k) k) (ys:=[BitVec.ofInt 8 ((k+1:Nat):Int)]) 60 hGF O O underlying22 underlying22 ti5 (.inr ⟨b81,c81,rfl,rfl,rfl,l81,t81⟩) (λw' h=>BytesAt.range (aG (n:=84) O w' h)) (by rw[hx];show 32+1<=_;decide) O O (λh0=> ?_) (λb85 c85 cap85 e85 l85 t85=> ?_)
    ·simp at h0
    subst e85;refine Mv O ?_;refine cn (xs:=(X16 (B0 msg dst n) (Xk (B0 msg dst n) (D dst) k) k)++[BitVec.ofInt 8 ((k+1:Nat):Int)]) (ys:=(D dst)) 60 hGF O O underlying22 underlying22 ti5 (.inr ⟨b85,c85,rfl,rfl,rfl,l85,t85⟩) (λw' h=>o2 (aG (n:=10) O w' h) hd2) (by rw[List.length_append,hx,kj];first|omega|(simp<;>omega)) O O (λh0=> ?_) (λb87 c87 cap87 e87 l87 t87=> ?_)
    ·simp at h0
    subst e87;refine kR O O ent133 (λw' hC hG=>r6 bm (spt b87) _ _ (((X16 (B0 msg dst n) (Xk (B0 msg dst n) (D dst) k) k)++[BitVec.ofInt 8 ((k+1:Nat):Int)])++(D dst)) O (by rw[List.length_append,List.length_append,hx,kj];first|omega|(simp<;>omega)) w' hG (own_grow ho (ab hC)) (o2 (aG (n:=60) O w' hC) t87)) O O ?_
    rw[show Sh.SHA (((X16 (B0 msg dst n) (Xk (B0 msg dst n) (D dst) k) k)++[BitVec.ofInt 8 ((k+1:Nat):Int)])++(D dst))=Xk (B0 msg dst n) (D dst) (k+1) by rw[Xk];rfl]
    refine az 14 hGF O O O sizeOf98 sm sm (bY _) O<|aa<|Xq<|Mv O<|bP (l:=0) (h':=32) O underlying98 sizeOf5 O O om om O O<|?_;refine cn (xs:=Ozz (B0 msg dst n) (D dst) k) (ys:=Xk (B0 msg dst n) (D dst) (k+1)) 50 hGF O (by rw[fA];rfl) underlying22 underlying22 ti5 (OwnSl.of hs O) (λw' h=>BytesAt.range (aG (n:=14) O w' h)) (by rw[gb,fA];omega) O O (λh0=> ?_) (λb91 c91 cap91 e91 l91 t91=> ?_)
    ·exact (xN (fA _ _ _) h0).elim
    subst e91;refine Asg O<|aa<|Xq<|Mv O<|Bnr (v:=I ((k+1+1:Nat):Int)) O O (λ_=>(aq _ _ _ oi).trans rr)<|Asg O<|aa<|?_
    repeat (first|refine aL ?_|refine ck ?_)
    exact aB<|⟨rfl,⟨k+1,some ⟨b91,0,none⟩,c91.length,[(50,b91,c91,5)],om,.inr ⟨b91,c91,rfl,rfl,rfl,l91,t91⟩,.inr ⟨_,rfl⟩⟩,_,by show ((n+31) / 32)-(k+1)<((n+31) / 32)-k;omega,rfl,trv,trv⟩
  ·have hge:n<=32*k:=by rw[gb]at hc;simp at hc;omega
   clear hc;obtain rfl:k=(n+31) / 32:=om;refine aU<|Xp<|Mv O<|Mv O<|f9 (l:=0) (h':=n) O underlying22 sizeOf5 O O om O O<|Asg O<|Asg O<|aa<|ak<|?_
   repeat (first|refine bJ ?_|refine bI ?_|refine eY ?_)
   rcases hs with ⟨rfl,e0,rfl⟩|⟨b,c,rfl,hl,hc,hle,ht⟩
   ·have hn0:n=0:=by have:=congrArg List.length e0;rw[gb,List.length_nil]at this;omega
    subst hn0;exact cg O O O (λw hw=>⟨_,rfl,ab hw,.inl ⟨rfl,rfl⟩⟩)
   ·have e1:(if cap=0 then (some ⟨b,0,none⟩:Option Addr)else (some ⟨b,0,none⟩:Option Addr).map (·.add (0*1)))=some ⟨b,0,none⟩:=by split<;>rfl
    rcases hown with rfl|⟨z,rfl⟩
    ·cases hl
    ·have hz:z=(b,c,5):=Option.some.inj hl
     subst hz;exact cg O O O (λw hw=>⟨_,rfl,ab hw,.inr ⟨b,c,_,by rw[e1,ki];rfl,(hw.own 50 b _ _ O).2.elim id False.elim,(hw.own 50 b _ _ O).1,hc,by rw[ki];omega,by rw[ki];exact wo ht (by rw[gb];omega)⟩⟩)
end Xm
end
section
open Go.RowKit
theorem ent205:ai prog 205:=λ_ _=>kr
theorem ent171:ai prog 171:=λ_ _=>kr
namespace Xm
attribute [local simp] Sh.gH kJ qQ kc fA gb Sh.ca kj
def Bad(msg dst:L8)(z:Int):Prop:=z<0\/8160<z\/255<dst.length\/65536<msg.length
structure RT(msg dst:L8)(z:Int)(w:World)(v:Value):Prop where
 bad:Bad msg dst z->v=.tuple #[.slice none 0 0,I 130]
 ok: ¬Bad msg dst z->∃a cap,v=.tuple #[.slice a (E msg dst z.toNat).length cap,I 0]/\BytesAt w a (E msg dst z.toNat)/\(E msg dst z.toNat).length<=cap
theorem Ri{w w':World}{bs:L8}{sv:Value}(h:Sh.Cln w w' bs sv): ∃a cap,sv=.slice a bs.length cap/\BytesAt w' a bs/\bs.length<=cap:=by
 rcases h with ⟨rfl,rfl⟩|⟨b,c,cap,rfl,_,ho,_,hle,ht⟩
 ·exact ⟨none,0,rfl,λj v hv=>by simp at hv,Nat.le_refl _⟩
 ·exact ⟨_,_,rfl,o2 ho.range ht,hle⟩
theorem AM(bm:Nat)(a1:Option Addr)(cap1:Nat)(msg:L8)(a2:Option Addr)(cap2:Nat)(dst:L8)(z:Int)(w:World)(hw:Gt w)(ho:OwnB w bm (Sh.MK.map U32) 94)(hb1:BytesAt w a1 msg)(hb2:BytesAt w a2 dst):CLS 83 [pnt bm,.slice a1 msg.length cap1,.slice a2 dst.length cap2,I z].toArray w (λe w'=> ∃v,e=.returned v/\Grow w w'/\RT msg dst z w' v):=by
 have err:Bad msg dst z->∀{e:Ending} {w':World},e=.returned (.tuple #[.slice none 0 0,I 130])/\Grow w w'->∃v,e=.returned v/\Grow w w'/\RT msg dst z w' v:=λhb _ _ h=>⟨_,h.1,h.2,λ_=>rfl,λhn=>absurd hb hn⟩;by_cases h0:z<0
 ·exact (WA bm a1 cap1 msg a2 cap2 dst z h0 w hw).mono λ_ _ h=>err (.inl h0) h
 by_cases h1:8160<z
 ·exact (Wd bm a1 cap1 msg a2 cap2 dst z h1 w hw).mono λ_ _ h=>err (.inr (.inl h1)) h
 by_cases h2:255<dst.length
 ·exact (Wy bm a1 cap1 msg a2 cap2 dst z h0 h1 h2 w hw).mono λ_ _ h=>err (.inr (.inr (.inl h2))) h
 by_cases h3:65536<msg.length
 ·exact (S8 bm a1 cap1 msg a2 cap2 dst z h0 h1 h2 h3 w hw).mono λ_ _ h=>err (.inr (.inr (.inr h3))) h
 obtain ⟨n,rfl⟩: ∃n:Nat,z=(n:Int):=⟨z.toNat,om⟩;refine (OR bm a1 cap1 msg a2 cap2 dst n om om om w hw ho hb1 hb2).mono λe w' ⟨sv,he,hg,hc⟩=>⟨_,he,hg,λhb=>absurd hb ?_,λ_=> ?_⟩
 ·rintro (h|h|h|h)<;>omega
 ·obtain ⟨a,cap,rfl,hby,hle⟩:=Ri hc
  exact ⟨a,cap,rfl,hby,hle⟩
def PXC:Prop:= ∀(a1:Option Addr) (cap1:Nat) (msg:L8) (a2:Option Addr) (cap2:Nat) (dst:L8) (z:Int) (w:World),msg.length<=100000->msg.length<=cap1->dst.length<=100000->dst.length<=cap2->Gt w->BytesAt w a1 msg->BytesAt w a2 dst->CLS 205 [.slice a1 msg.length cap1,.slice a2 dst.length cap2,I z].toArray w (λe w'=> ∃v,e=.returned v/\Grow w w'/\RT msg dst z w' v)
end Xm
end
/-! ### Products of what has no root -/
theorem Ar{a b:Zp}(ha:IsQ a)(hb:IsQ b):IsQ (a*b):=pF (s:=SQr a*SQr b) (by
 have ha:SQr a*SQr a=a:=ha;have hb:SQr b*SQr b=b:=hb;generalize SQr a=s at*;generalize SQr b=t at*;subst ha hb;grind)
theorem KG{a b:Zp}(ha: ¬IsQ a)(hb: ¬IsQ b):IsQ (a*b):=by
 have h:=Ar ((ti a).resolve_left ha) ((ti b).resolve_left hb);rw[show-a* -b=a*b by grind]at h
 exact h
def S5:Zp:=zp 0x186417302d5a65347a88b0f999ab2b504614aa5e2eebdeb1a014c40bceb7d2306c12a6d436befcf94d39c9db7b263cd4
theorem VO:S5*S5= -(zp 5):=by decide+kernel
theorem Tn: ¬IsQ (zp 5):=by
 rcases kF (a:=zp 5) (b:= -(zp 5)) (c:=zp 5) (by generalize zp 5=a;grind) (by decide+kernel)with h|h
 ·exact absurd (pF VO) h.2
 ·exact h.1
/-! ### The other curve -/
def OA:W2:=(0,zp 240)
def OB:W2:=(zp 1012,zp 1012)
def OZ:W2:=ng2 (zp 2,zp 1)
def gO(x:W2):W2:=ad2 (ad2 (ml2 (ml2 x x) x) (ml2 OA x)) OB
def zu2(u:W2):W2:=ml2 (ml2 OZ u) u
def tu2(u:W2):W2:=ad2 (ml2 (zu2 u) (zu2 u)) (zu2 u)
def X1c:W2:=(zp 0x1a59d4b6bbf912a32d63b43028e2deeebe8d5d97ca64b6d66f64ac7a265a9305e1a40da5edb81b4e3ac4f5c28f5bd27,zp 0x15103a07f641331bb298f5ed3ba1230aa0bcc9f87d923077324df24a0f7ffa93045d3d6f94c17ae10efa11eb851e7336)
def R1c:W2:=(zp 0x28a5c165c0f2b6f84373bd5beb9a30d9ffef84fe5dc9a01a5e6825ee681d72252e4afbaf882c28f1c2935d806d2f71b,zp 0x17407d2938baedf8f3a537708747853994282b0535a8c4d8ffd7c0ebe3e31b581e4adea8190ec4a4a8ecaae9fd615d8a)
theorem Km:ml2 X1c (ml2 OZ OA)=OB:=by decide+kernel
theorem OE:ml2 R1c R1c=gO X1c:=by decide+kernel
theorem T4:ml2 OZ OA≠ze2:=by decide+kernel
theorem Ad:OA≠ze2:=by decide+kernel
theorem BM(a b c:W2):ml2 (ml2 a b) c=ml2 a (ml2 b c):=R2.mul_assoc a b c
theorem RY:ml2 OB (iv2 (ml2 OZ OA))=X1c:=by
 rw[<-Km,BM,dD T4];exact R2.mul_one X1c
def x1O(u:W2):W2:=if tu2 u=ze2 then ml2 OB (iv2 (ml2 OZ OA))else ml2 (ml2 (ng2 OB) (iv2 OA)) (ad2 on2 (iv2 (tu2 u)))
theorem Nh{u:W2}(h:tu2 u≠ze2):ml2 (ml2 OA (x1O u)) (tu2 u)=ml2 (ng2 OB) (ad2 (tu2 u) on2):=by
 have e1:=dD Ad;have e2:=dD h;rw[show x1O u=ml2 (ml2 (ng2 OB) (iv2 OA)) (ad2 on2 (iv2 (tu2 u)))from if_neg h];generalize tu2 u=t at*;generalize iv2 t=s at*;generalize iv2 OA=a' at*;generalize OA=a at*;generalize ng2 OB=b at*;exact zl R2 [a,a',b,t,s] 0x556558742a9 0x45558942a2582 0x58492 0x45558942a5675859a (lca (lcm e1) (lcm e2))
theorem g_x2{u:W2}(h:tu2 u≠ze2):gO (ml2 (zu2 u) (x1O u))=ml2 (ml2 (ml2 (zu2 u) (zu2 u)) (zu2 u)) (gO (x1O u)):=by
 have k:=Nh h;unfold tu2 at k;unfold gO;generalize zu2 u=z at*;generalize x1O u=x at*;generalize OA=a at*;generalize OB=b at*;exact zk R2 [a,b,z,x] 0x4455589589589565897 0x55588844559995697 0x4238 0x5374458882 0x556945888 k
theorem Wm(u:W2):nm2 (zu2 u)=zp 5*(nm2 u*nm2 u):=by
 rw[zu2,iZ,iZ,show nm2 OZ=zp 5 by decide+kernel]
 generalize zp 5=a;generalize nm2 u=n;grind
theorem ID{u:W2}(h: ¬IsQ (nm2 (gO (x1O u)))):IsQ (nm2 (gO (ml2 (zu2 u) (x1O u)))):=by
 by_cases ht:tu2 u=ze2
 ·refine absurd ((kw _).1 ⟨R1c, ?_⟩) h
  rw[OE,show x1O u=ml2 OB (iv2 (ml2 OZ OA))from if_pos ht,RY]
 ·rw[g_x2 ht,iZ,iZ,iZ,Wm]
  have k:=Ar (KG Tn h) (nN (zp 5*(nm2 u*nm2 u)*(nm2 u)));generalize nm2 (gO (x1O u))=g at*;generalize nm2 u=n at*;generalize zp 5=a at*;rw[show a*(n*n)*(a*(n*n))*(a*(n*n))*g=a*g*(a*(n*n)*n*(a*(n*n)*n)) by grind]
  exact k
/-! ### The map to the second curve -/
def iXN:List W2:=[(zp 0x5c759507e8e333ebb5b7a9a47d7ed8532c52d39fd3a042a88b58423c50ae15d5c2638e343d9c71c6238aaaaaaaa97d6,zp 0x5c759507e8e333ebb5b7a9a47d7ed8532c52d39fd3a042a88b58423c50ae15d5c2638e343d9c71c6238aaaaaaaa97d6),(0,zp 0x11560bf17baa99bc32126fced787c88f984f87adf7ae0c7f9a208c6b4f20a4181472aaa9cb8d555526a9ffffffffc71a),(zp 0x11560bf17baa99bc32126fced787c88f984f87adf7ae0c7f9a208c6b4f20a4181472aaa9cb8d555526a9ffffffffc71e,zp 0x8ab05f8bdd54cde190937e76bc3e447cc27c3d6fbd7063fcd104635a790520c0a395554e5c6aaaa9354ffffffffe38d),(zp 0x171d6541fa38ccfaed6dea691f5fb614cb14b4e7f4e810aa22d6108f142b85757098e38d0f671c7188e2aaaaaaaa5ed1,0)]
def iXD:List W2:=[(0,-zp 72),(zp 0xc,-zp 12),(zp 0x1,0)]
def iYN:List W2:=[(zp 0x1530477c7ab4113b59a4c18b076d11930f7da5d4a07f649bf54439d87d27e500fc8c25ebf8c92f6812cfc71c71c6d706,zp 0x1530477c7ab4113b59a4c18b076d11930f7da5d4a07f649bf54439d87d27e500fc8c25ebf8c92f6812cfc71c71c6d706),(0,zp 0x5c759507e8e333ebb5b7a9a47d7ed8532c52d39fd3a042a88b58423c50ae15d5c2638e343d9c71c6238aaaaaaaa97be),(zp 0x11560bf17baa99bc32126fced787c88f984f87adf7ae0c7f9a208c6b4f20a4181472aaa9cb8d555526a9ffffffffc71c,zp 0x8ab05f8bdd54cde190937e76bc3e447cc27c3d6fbd7063fcd104635a790520c0a395554e5c6aaaa9354ffffffffe38f),(zp 0x124c9ad43b6cf79bfbf7043de3811ad0761b0f37a1e26286b0e977c69aa274524e79097a56dc4bd9e1b371c71c718b10,0)]
def iYD:List W2:=[(-zp 432,-zp 432),(0,-zp 216),(zp 0x12,-zp 18),(zp 0x1,0)]
theorem Gn:R2.pp (R2.pp iYN iYN) (R2.pp [OB,OA,ze2,on2] (R2.pp iXD (R2.pp iXD iXD)))=R2.pp (R2.pp iYD iYD) (R2.pa (R2.pp iXN (R2.pp iXN iXN)) (R2.pk (zp 4,zp 4) (R2.pp iXD (R2.pp iXD iXD)))):=by decide+kernel
theorem Ox(x:W2):R2.pev [OB,OA,ze2,on2] x=gO x:=by
 show ad2 OB (ml2 x (ad2 OA (ml2 x (ad2 ze2 (ml2 x (ad2 on2 (ml2 x ze2)))))))=ad2 (ad2 (ml2 (ml2 x x) x) (ml2 OA x)) OB;generalize OA=a;generalize OB=b;exact zx R2 [a,b,x] 0x47584658415842581 0x44558885687
theorem Nz(x:W2):ml2 (ml2 (R2.pev iYN x) (R2.pev iYN x)) (ml2 (gO x) (ml2 (R2.pev iXD x) (ml2 (R2.pev iXD x) (R2.pev iXD x))))=ml2 (ml2 (R2.pev iYD x) (R2.pev iYD x)) (ad2 (ml2 (R2.pev iXN x) (ml2 (R2.pev iXN x) (R2.pev iXN x))) (ml2 (zp 4,zp 4) (ml2 (R2.pev iXD x) (ml2 (R2.pev iXD x) (R2.pev iXD x))))):=by
 have h:=congrArg (λl=>R2.pev l x) Gn;simp only[R2.pev_pp,R2.pev_pa,R2.pev_pk,Ox]at h;exact h
theorem Q9{x y:W2}(h:ml2 y y=gO x)(hx:R2.pev iXD x≠ze2)(hy:R2.pev iYD x≠ze2):E2w.on (ml2 (R2.pev iXN x) (iv2 (R2.pev iXD x)),ml2 (ml2 y (R2.pev iYN x)) (iv2 (R2.pev iYD x))):=by
 have e:=Nz x;rw[<-h]at e;have e1:=dD hx;have e2:=dD hy;show ml2 (ml2 (ml2 y (R2.pev iYN x)) (iv2 (R2.pev iYD x))) (ml2 (ml2 y (R2.pev iYN x)) (iv2 (R2.pev iYD x)))=ad2 (ml2 (ml2 (R2.pev iXN x) (iv2 (R2.pev iXD x))) (ml2 (ml2 (R2.pev iXN x) (iv2 (R2.pev iXD x))) (ml2 (R2.pev iXN x) (iv2 (R2.pev iXD x))))) (zp 4,zp 4);generalize R2.pev iXN x=xn at*;generalize R2.pev iXD x=xd at*;generalize R2.pev iYN x=yn at*;generalize R2.pev iYD x=yd at*;generalize iv2 xd=s at*;generalize iv2 yd=t at*;generalize ((zp 4,zp 4):W2)=b at*;exact zl R2 [y,xn,xd,yn,yd,s,t,b] 0x55569c5569c 0x445555bbb5cc55aa4575775d585885543555665995ccd44558b58b58b2255455757755bbb5d5558b58b58b45ac22 0x4557b557b57bd 0x445555bbb5cc55995566585885543555665995ccd44558b58b58b258b55455757755bbb5d5558b58b58b45ac25ac (lca (lca (lcm e) (lcm e1)) (lcm e2))
theorem Dc{a b:W2}(ha:a≠ze2)(hb:b≠ze2):iv2 (ml2 a b)=ml2 (iv2 a) (iv2 b):=by
 have e0:=dD (x:=ml2 a b) (λh=>(g9 h).elim ha hb);have e1:=dD ha;have e2:=dD hb;generalize iv2 (ml2 a b)=w at*;generalize iv2 a=s at*;generalize iv2 b=t at*;exact zl R2 [a,b,s,t,w] 0xa 0x4455892535a579253a2 0x589 0x4455895567a535a57956853a579 (lca (lca (lcm e0) (lcm e1)) (lcm e2))
theorem Of{x:W2}(h:x≠ze2):ng2 x≠ze2:=λe=>h (by
 have:=congrArg ng2 e;rw[Fj]at this;exact (R2.neg_neg x).symm.trans this)
/-! ### The first x -/
theorem Lj(x:W2):ad2 (ml2 (ad2 (ml2 x x) OA) x) OB=gO x:=by
 unfold gO;generalize OA=a;generalize OB=b;exact zx R2 [x,a,b] 0x454566768 0x44556665768
theorem WP(u:W2):ml2 (ml2 u u) OZ=zu2 u:=by
 unfold zu2;generalize OZ=z;exact zx R2 [u,z] 0x55667 0x55766
theorem Is{u:W2}(h:tu2 u=ze2):ml2 (ml2 OB (ad2 (tu2 u) on2)) (iv2 (ml2 OZ OA))=x1O u:=by
 rw[show x1O u=ml2 OB (iv2 (ml2 OZ OA))from if_pos h,h,show ad2 ze2 on2=on2 from R2.zero_add on2,show ml2 OB on2=OB from R2.mul_one OB]
theorem IB{u:W2}(h: ¬tu2 u=ze2):ml2 (ml2 OB (ad2 (tu2 u) on2)) (iv2 (ml2 (ng2 (tu2 u)) OA))=x1O u:=by
 rw[show x1O u=ml2 (ml2 (ng2 OB) (iv2 OA)) (ad2 on2 (iv2 (tu2 u)))from if_neg h];have e0:=dD (x:=ml2 (ng2 (tu2 u)) OA) (λk=>(g9 k).elim (Of h) Ad);have e1:=dD Ad;have e2:=dD h;generalize iv2 (ml2 (ng2 (tu2 u)) OA)=w at*;generalize tu2 u=t at*;generalize iv2 t=s at*;generalize iv2 OA=a' at*;generalize OA=a at*;generalize OB=b at*;exact zl R2 [a,a',b,t,s,w] 0x558492b 0x4455385742a253585b5942a25358b2 0x5538742a 0x4455385742a55396b53585b5942a5675358b59a (lca (lca (lcm e0) (lcm e1)) (lcm e2))
/-! ### Signs -/
def sgS(r u:W2):W2:=if SG2 r=SG2 u then r else ng2 r
theorem QH(r u:W2):ml2 (sgS r u) (sgS r u)=ml2 r r:=by
 unfold sgS;split
 ·rfl
 ·exact C4 r
structure SwR(u x r:W2):Prop where
 sq:ml2 r r=gO x
 lg:LG2 r=false
 at1:x=x1O u\/(¬IsQ (nm2 (gO (x1O u)))/\x=ml2 (zu2 u) (x1O u))
theorem Nr(u:W2): ∃x r,SwR u x r:=by
 by_cases h:IsQ (nm2 (gO (x1O u)))
 ·obtain ⟨r,hr⟩:=(kw _).2 h
  exact ⟨_,NL r,(zy r).trans hr,mv r,.inl O⟩
 ·obtain ⟨r,hr⟩:=(kw _).2 (ID h)
  exact ⟨_,NL r,(zy r).trans hr,mv r,.inr ⟨h,rfl⟩⟩
theorem SwR.on{u x r:W2}(h:SwR u x r):ml2 (sgS r u) (sgS r u)=gO x:=(QH r u).trans h.sq
/-! ### The map to the second curve -/
def C6:W2:=(zp 6,-zp 6)
theorem Uq:iXD=[ml2 C6 C6,ad2 C6 C6,on2]:=by decide+kernel
theorem UP:iYD=[ml2 C6 (ml2 C6 C6),ad2 (ml2 C6 C6) (ad2 (ml2 C6 C6) (ml2 C6 C6)),ad2 C6 (ad2 C6 C6),on2]:=by decide+kernel
theorem Vl(x:W2):R2.pev iXD x=ml2 (ad2 x C6) (ad2 x C6):=by
 rw[Uq];generalize C6=c;exact zx R2 [x,c] 0x45775644775642561 0x5467467
theorem W9(x:W2):R2.pev iYD x=ml2 (ad2 x C6) (ml2 (ad2 x C6) (ad2 x C6)):=by
 rw[UP];generalize C6=c;exact zx R2 [x,c] 0x45757756445774577577564474775642561 0x54675467467
def R32:Zp:=zp 0x1764c4d4cfa3326ab57cbfed7f4a64378dc56542f8ff574f159cb76173021e735e4c97e34b82fa6cc8627df6f1f0af2
theorem QV:R32*R32= -(zp 32):=by decide+kernel
theorem On: ¬IsQ (zp 32):=by
 rcases kF (a:=zp 32) (b:= -(zp 32)) (c:=zp 32) (by generalize zp 32=a;grind) (by decide+kernel)with h|h
 ·exact absurd (pF QV) h.2
 ·exact h.1
theorem Ra:nm2 (gO (ng2 C6))=zp 32:=by decide+kernel
theorem mU{x y:W2}(h:ml2 y y=gO x):ad2 x C6≠ze2:=λk=>by
 have e:x=ng2 C6:=by
  have h:=k;generalize C6=c at*;exact zk R2 [x,c] 0x6 0x37 0x2 0x1 0x467 h
 have q:=fM h;rw[e,Ra]at q;exact On q
theorem vp{x y:W2}(h:ml2 y y=gO x):R2.pev iXD x≠ze2:=λe=>(g9 ((Vl x).symm.trans e)).elim (mU h) (mU h)
theorem v7{x y:W2}(h:ml2 y y=gO x):R2.pev iYD x≠ze2:=λe=>(g9 ((W9 x).symm.trans e)).elim (mU h) (λe=>(g9 e).elim (mU h) (mU h))
def XIs(x:W2):W2:=ml2 (R2.pev iXN x) (iv2 (R2.pev iXD x))
def YIs(x y:W2):W2:=ml2 (ml2 y (R2.pev iYN x)) (iv2 (R2.pev iYD x))
theorem Tu{n d e:W2}(hd:d≠ze2)(he:e≠ze2):ml2 (ml2 n e) (iv2 (ml2 d e))=ml2 n (iv2 d):=by
 rw[Dc hd he];have e2:=dD he;generalize iv2 d=s at*;generalize iv2 e=t at*;exact zk R2 [n,d,e,s,t] 0x556859a 0x569 0x569 0x2 0x58a e2
theorem UO{n d e:W2}(hd:d≠ze2)(he:e≠ze2):ml2 (ml2 n d) (iv2 (ml2 d e))=ml2 n (iv2 e):=by
 rw[Dc hd he];have e1:=dD hd;generalize iv2 d=s at*;generalize iv2 e=t at*;exact zk R2 [n,d,e,s,t] 0x556759a 0x56a 0x56a 0x2 0x579 e1
theorem xV{x y:W2}(h:ml2 y y=gO x):E2w.on (XIs x,YIs x y):=Q9 h (vp h) (v7 h)
/-! ### Coefficients, the highest first -/
def HK(f:Nat->W2)(x:W2):Nat->W2
 |0=>ze2
 |k+1=>ad2 (ml2 (HK f x k) x) (f k)
theorem Co(f:Nat->W2)(x:W2):HK f x 4=R2.pev [f 3,f 2,f 1,f 0] x:=by
 show ad2 (ml2 (ad2 (ml2 (ad2 (ml2 (ad2 (ml2 ze2 x) (f 0)) x) (f 1)) x) (f 2)) x) (f 3)=R2.pev [f 3,f 2,f 1,f 0] x;generalize f 0=a3;generalize f 1=a2;generalize f 2=a1;generalize f 3=a0;exact zx R2 [a0,a1,a2,a3,x] 0x454545451a9a8a7a6 0x465a475a485a495a1
theorem HK_z(f:Nat->W2)(x:W2)(h:f 0=ze2):HK f x 4=R2.pev [f 3,f 2,f 1] x:=by
 show ad2 (ml2 (ad2 (ml2 (ad2 (ml2 (ad2 (ml2 ze2 x) (f 0)) x) (f 1)) x) (f 2)) x) (f 3)=R2.pev [f 3,f 2,f 1] x;rw[h];generalize f 1=a2;generalize f 2=a1;generalize f 3=a0;exact zx R2 [a0,a1,a2,x] 0x45454545191989796 0x4659475948591
theorem HK_3(f:Nat->W2)(x:W2):HK f x 3=R2.pev [f 2,f 1,f 0] x:=by
 show ad2 (ml2 (ad2 (ml2 (ad2 (ml2 ze2 x) (f 0)) x) (f 1)) x) (f 2)=R2.pev [f 2,f 1,f 0] x;generalize f 0=a2;generalize f 1=a1;generalize f 2=a0;exact zx R2 [a0,a1,a2,x] 0x4545451989796 0x4659475948591
/-! ### What the laws ask besides -/
section
open J2
open Go.RowKit
attribute [local simp] a6 bv aH aA aQ aY aR aK aM PLl cJ cH N1l cI cL cK bf bB a7 bu bx
theorem ent270:ai prog 270:=λ_ _=>kr
theorem ent269:ai prog 269:=λ_ _=>kr
theorem ent247:ai prog 247:=λ_ _=>kr
theorem ent249:ai prog 249:=λ_ _=>kr
theorem ent248:ai prog 248:=λ_ _=>kr
theorem ent244:ai prog 244:=λ_ _=>kr
theorem ent245:ai prog 245:=λ_ _=>kr
theorem ent267:ai prog 267:=λ_ _=>kr
theorem ent243:ai prog 243:=λ_ _=>kr
theorem ent144:ai prog 144:=λ_ _=>kr
theorem ent143:ai prog 143:=λ_ _=>kr
theorem ent142:ai prog 142:=λ_ _=>kr
theorem ent138:ai prog 138:=λ_ _=>kr
theorem pA  :PUR 270 [] (EV2 OA):=pE TO68 func270 [] (.inl (.inl [OA.1,OA.2])) (let t0:=zp (240#64).toNat;(.inl (.inl [0,t0]),[])) [] kr aD O
def TO69:Tb prog Gt:=TO68.add (nO (g:=OA) ent270 pA)
theorem pB  :PUR 269 [] (EV2 OB):=pE TO69 func269 [] (.inl (.inl [OB.1,OB.2])) (let t0:=zp (1012#64).toNat;let t1:=zp (1012#64).toNat;(.inl (.inl [t0,t1]),[])) [] kr aD O
def TO70:Tb prog Gt:=TO69.add (nO (g:=OB) ent269 pB)
theorem pZ  :PUR 247 [] (EV2 OZ):=pE TO70 func247 [] (.inl (.inl [OZ.1,OZ.2])) (let t0:=zp (2#64).toNat;let t1:=ng2 (t0,1);(.inl (.inl [t1.1,t1.2]),[])) [] kr aD O
def TO71:Tb prog Gt:=TO70.add (nO (g:=OZ) ent247 pZ)
theorem psq(x:W2):PUR 249 [EV2 x] (EV2 (gO x)):=pE TO71 func249 [.inl [x.1,x.2]] (.inl (.inl [(gO x).1,(gO x).2])) (let t0:=ml2 x x;let t1:=OA;let t2:=ad2 (t0.1,t0.2) (t1.1,t1.2);let t3:=ml2 (t2.1,t2.2) x;let t4:=OB;let t5:=ad2 (t3.1,t3.2) (t4.1,t4.2);(.inl (.inl [t5.1,t5.2]),[])) [] kr aD (el2 (congrArg Prod.fst (Lj x)) (congrArg Prod.snd (Lj x)))
def TO72:Tb prog Gt:=TO71.add (dU (g:=gO) ent249 psq)
def FXs(s:W2):W2:=if (ad2 (ml2 s s) s)=ze2 then ml2 (ml2 OB (ad2 (ad2 (ml2 s s) s) on2)) (iv2 (ml2 OZ OA))else ml2 (ml2 OB (ad2 (ad2 (ml2 s s) s) on2)) (iv2 (ml2 (ng2 (ad2 (ml2 s s) s)) OA))
theorem ON(u:W2):FXs (zu2 u)=x1O u:=by
 by_cases h:tu2 u=ze2
 ·exact (if_pos h).trans (Is h)
 ·exact (if_neg h).trans (IB h)
theorem H7(s:W2):PUR 248 [EV2 s] (EV2 (FXs s)):=by
 by_cases h:(ad2 (ml2 s s) s)=ze2
 ·exact pE TO72 func248 [.inl [s.1,s.2]] (.inl (.inl [(FXs s).1,(FXs s).2])) (let t0:=ml2 s s;let t1:=ad2 (t0.1,t0.2) s;let t3:=OZ;let t4:=OB;let t5:=on2;let t6:=ad2 (t1.1,t1.2) (t5.1,t5.2);let t7:=ml2 (t4.1,t4.2) (t6.1,t6.2);let t8:=OA;let t9:=ml2 (t3.1,t3.2) (t8.1,t8.2);let t10:=iv2 (t9.1,t9.2);let t11:=ml2 (t7.1,t7.2) (t10.1,t10.2);(.inl (.inl [t11.1,t11.2]),[(decide ((t1.1,t1.2)=ze2),true)])) [some true] kr (ao (decide_eq_true h) aD) (by rw[show FXs s=_ from if_pos h]<;>exact rfl)
 ·exact pE TO72 func248 [.inl [s.1,s.2]] (.inl (.inl [(FXs s).1,(FXs s).2])) (let t0:=ml2 s s;let t1:=ad2 (t0.1,t0.2) s;let t2:=ng2 (t1.1,t1.2);let t3:=OB;let t4:=on2;let t5:=ad2 (t1.1,t1.2) (t4.1,t4.2);let t6:=ml2 (t3.1,t3.2) (t5.1,t5.2);let t7:=OA;let t8:=ml2 (t2.1,t2.2) (t7.1,t7.2);let t9:=iv2 (t8.1,t8.2);let t10:=ml2 (t6.1,t6.2) (t9.1,t9.2);(.inl (.inl [t10.1,t10.2]),[(decide ((t1.1,t1.2)=ze2),false)])) [some false] kr (ao (decide_eq_false h) aD) (by rw[show FXs s=_ from if_neg h]<;>exact rfl)
def TO73:Tb prog Gt:=TO72.add (dU (g:=FXs) ent248 H7)
theorem sg_t{r u:W2}(h:SG2 r=SG2 u):(SG2 r !=SG2 u)=false:=by rw[h];exact bne_self_eq_false _
theorem sg_f{r u:W2}(h: ¬SG2 r=SG2 u):(SG2 r !=SG2 u)=true:=bne_iff_ne.2 h
theorem BR(r u:W2)(h:SG2 r=SG2 u):PUR 250 [EV2 r,I (SG2 u)] (EV2 r):=by
 intro w hw;refine Hf func250 O hw<|λhGF=>Xp<|Bx 2 hGF O<|λb2=>Al 4 hGF zv78<|λb4=>aa<|ae<|Xp<|La 2 O O aW<|Ca O (wD _)<|Mv O<|Bnb false O O (λ_=>bz _ _ _) (sg_t h)<|aa<|aC O<|ap<|Xp<|La 2 O O aW<|Sa 4 hGF O O O aW<|aa<|ak<|Rr<|?_;exact au 4 O O O isAgg78 sizeOf78 sm (λw hw=>⟨rfl,ab hw⟩)
theorem BS(r u:W2)(h: ¬SG2 r=SG2 u):PUR 250 [EV2 r,I (SG2 u)] (EV2 (ng2 r)):=by
 intro w hw;refine Hf func250 O hw<|λhGF=>Xp<|Bx 2 hGF O<|λb2=>Al 4 hGF zv78<|λb4=>aa<|ae<|Xp<|La 2 O O aW<|Ca O (wD _)<|Mv O<|Bnb true O O (λ_=>bz _ _ _) (sg_f h)<|aa<|aP O<|Xp<|La 2 O O aW<|Ca O (FT _)<|Sa 4 hGF O O O aW<|aa<|ak<|Rr<|?_;exact au 4 O O O isAgg78 sizeOf78 sm (λw hw=>⟨rfl,ab hw⟩)
theorem zL(r u:W2):PUR 250 [EV2 r,I (SG2 u)] (EV2 (sgS r u)):=by
 by_cases h:SG2 r=SG2 u
 ·rw[show sgS r u=r from if_pos h];exact BR r u h
 ·rw[show sgS r u=ng2 r from if_neg h];exact BS r u h
theorem GR(u:W2):PUR 130 [EV2 (ml2 u u),EV2 OZ] (EV2 (zu2 u)):=by
 have h:=dG (ml2 u u) OZ;rw[WP]at h;exact h
theorem zC(u:W2):PUR 248 [EV2 (zu2 u)] (EV2 (x1O u)):=by
 have h:=H7 (zu2 u);rw[ON]at h;exact h
theorem NI(u r:W2)(hr:ml2 r r=gO (x1O u))(hl:LG2 r=false):PUR 209 [EV2 u] (.tuple #[EV2 (x1O u),EV2 (sgS r u)]):=by
 intro w hw;refine Hf func209 O hw<|λhGF=>Xp<|Bx 1 hGF O<|λb1=>Al 2 hGF zv78<|λb2=>Al 3 hGF zv78<|λb3=>aa<|Xp<|La 1 O O aW<|Ca O (iO _)<|Ca O (pZ)<|Ca O (GR u)<|Al 4 hGF zv78<|λb4=>Sa 4 hGF O O O aW<|aa<|Xp<|La 4 O O aW<|Ca O (zC u)<|Al 5 hGF zv78<|λb5=>Sa 5 hGF O O O aW<|aa<|Xp<|La 5 O O aW<|Ca O (psq _)<|Ca O (ov _ r hr hl)<|Mv O<|Ext O O<|Ext O O<|Al 6 hGF zv78<|λb6=>Sa 6 hGF O O O aW<|Asg O<|aa<|ae<|Xp<|Mv O<|bi O (λ_=>a5 _) O O<|aa<|aC O<|ap<|Xd []<|La 5 O O aW<|?_;refine La 6 O O aW<|La 1 O O aW<|Ca O (wD _)<|Ca O (zL r u)<|Sa 2 hGF O O O aW<|Sa 3 hGF O O O aW<|aa<|ak<|Rr<|?_;exact im 2 3 O O O O O isAgg78 sizeOf78 sm sm (λw hw=>⟨rfl,ab hw⟩)
theorem P2(u r:W2)(hq: ¬IsQ (nm2 (gO (x1O u))))(hr:ml2 r r=gO (ml2 (zu2 u) (x1O u)))(hl:LG2 r=false):PUR 209 [EV2 u] (.tuple #[EV2 (ml2 (zu2 u) (x1O u)),EV2 (sgS r u)]):=by
 intro w hw;refine Hf func209 O hw<|λhGF=>Xp<|Bx 1 hGF O<|λb1=>Al 2 hGF zv78<|λb2=>Al 3 hGF zv78<|λb3=>aa<|Xp<|La 1 O O aW<|Ca O (iO _)<|Ca O (pZ)<|Ca O (GR u)<|Al 4 hGF zv78<|λb4=>Sa 4 hGF O O O aW<|aa<|Xp<|La 4 O O aW<|Ca O (zC u)<|Al 5 hGF zv78<|λb5=>Sa 5 hGF O O O aW<|aa<|Xp<|La 5 O O aW<|Ca O (psq _)<|Ca O (tP _ hq)<|Mv O<|Ext O O<|Ext O O<|Al 6 hGF zv78<|λb6=>Sa 6 hGF O O O aW<|Asg O<|aa<|ae<|Xp<|Mv O<|bi O (λ_=>a5 _) O O<|aa<|aP O<|Xp<|La 4 O O aW<|La 5 O O aW<|?_;refine Ca O (dG (zu2 u) (x1O u))<|Sa 5 hGF O O O aW<|aa<|Xq<|La 5 O O aW<|Ca O (psq _)<|Ca O (ov _ r hr hl)<|Mv O<|Ext O O<|Ext O O<|Sa 6 hGF O O O aW<|aa<|Xd []<|La 5 O O aW<|La 6 O O aW<|La 1 O O aW<|Ca O (wD _)<|Ca O (zL r u)<|Sa 2 hGF O O O aW<|Sa 3 hGF O O O aW<|aa<|ak<|Rr<|?_;exact im 2 3 O O O O O isAgg78 sizeOf78 sm sm (λw hw=>⟨rfl,ab hw⟩)
theorem pswu{u x r:W2}(h:SwR u x r):PUR 209 [EV2 u] (.tuple #[EV2 x,EV2 (sgS r u)]):=by
 obtain ⟨hr,hl,rfl|⟨hq,rfl⟩⟩:=h
 ·exact NI u r hr hl
 ·exact P2 u r hq hr hl
end
section
open J2
open Go.RowKit
attribute [local simp] a6 bv aH aA aQ aY aR aK aM PLl cJ cH N1l cI cL cK bf bB a7 bu bx
theorem ra  :PUR 144 [] (EV2 OA):=pE TO73 func144 [] (.inl (.inl [OA.1,OA.2])) (let t0:=sm2 (0#64) (240#64);(.inl (.inl [t0.1,t0.2]),[])) [] kr aD O
def TO74:Tb prog Gt:=TO73.add (nO (g:=OA) ent144 ra)
theorem Ej  :PUR 143 [] (EV2 OB):=pE TO74 func143 [] (.inl (.inl [OB.1,OB.2])) (let t0:=sm2 (1012#64) (1012#64);(.inl (.inl [t0.1,t0.2]),[])) [] kr aD O
def TO75:Tb prog Gt:=TO74.add (nO (g:=OB) ent143 Ej)
theorem rz  :PUR 142 [] (EV2 OZ):=pE TO75 func142 [] (.inl (.inl [OZ.1,OZ.2])) (let t0:=sm2 (2#64) (1#64);let t1:=ng2 (t0.1,t0.2);(.inl (.inl [t1.1,t1.2]),[])) [] kr aD O
def TO76:Tb prog Gt:=TO75.add (nO (g:=OZ) ent142 rz)
theorem rG(x:W2):PUR 145 [EV2 x] (EV2 (gO x)):=pE TO76 func145 [.inl [x.1,x.2]] (.inl (.inl [(gO x).1,(gO x).2])) (let t0:=ml2 x x;let t1:=ml2 (t0.1,t0.2) x;let t2:=OA;let t3:=ml2 (t2.1,t2.2) x;let t4:=ad2 (t1.1,t1.2) (t3.1,t3.2);let t5:=OB;let t6:=ad2 (t4.1,t4.2) (t5.1,t5.2);(.inl (.inl [t6.1,t6.2]),[])) [] kr aD O
theorem Qz(u r:W2)(hr:ml2 r r=gO (x1O u))(hl:LG2 r=false):PUR 88 [EV2 u] (.tuple #[EV2 (x1O u),EV2 (sgS r u)]):=by
 intro w hw;refine Hf func88 O hw<|λhGF=>Xp<|Bx 1 hGF O<|λb1=>Al 2 hGF zv41<|λb2=>Al 3 hGF zv41<|λb3=>aa<|Xa [0,1,2,3,4] ⟨5,4,41,(fe 0++fe 0).map U64⟩ [6] (bD O zv41 O)<|Ca O (rz)<|La 1 O O bH<|Ca O (eE _ _)<|La 1 O O bH<|Ca O (show PUR 89 [EV2 (ml2 OZ u),EV2 u] (EV2 (zu2 u))from eE (ml2 OZ u) u)<|aa<|?_;refine ⟨_,_,rfl,hGF,by intro x hx;simp only[List.mem_cons,List.not_mem_nil,or_false]at hx;subst hx;rfl,by intro x hx;simp only[List.mem_cons,List.not_mem_nil,or_false]at hx;subst hx;rfl,λadr1=> ?_⟩
 refine Sa 4 hGF O O O bH<|aa<|Xa [0,1,2,3,4] ⟨5,5,41,(fe 0++fe 0).map U64⟩ [6] (bD O zv41 O)<|La 4 O O bH<|La 4 O O bH<|Ca O (eE _ _)<|La 4 O O bH<|Ca O (show PUR 101 [EV2 (ml2 (zu2 u) (zu2 u)),EV2 (zu2 u)] (EV2 (tu2 u))from sr _ _)<|aa<|?_;refine ⟨_,_,rfl,hGF,by intro x hx;simp only[List.mem_cons,List.not_mem_nil,or_false]at hx;subst hx;rfl,by intro x hx;simp only[List.mem_cons,List.not_mem_nil,or_false]at hx;subst hx;rfl,λadr2=> ?_⟩
 refine Sa 5 hGF O O O bH<|aa<|Xp<|Al 6 hGF zv41<|λb6=>aa<|?_;refine i3 (ι:=Unit) (λ_=>[(1,pnt b1),(2,pnt b2),(3,pnt b3),(4,.pointer (some ⟨(adr1 4),0,none⟩)),(6,pnt b6)]) (λ_=>[(1,b1,(fe (u).1++fe (u).2).map U64,41),(2,b2,(fe 0++fe 0).map U64,41),(3,b3,(fe 0++fe 0).map U64,41),(4,adr1 4,(fe (zu2 u).1++fe (zu2 u).2).map U64,41),(6,b6,(fe (x1O u).1++fe (x1O u).2).map U64,41)]) hGF ?_ ?_
 ·refine Xp<|La 5 O O bH<|Ca O (kX _)<|aa<|?_
  refine bC O (λhc=> ?_) (λhc=> ?_)
  ·have ht:tu2 u=ze2:=of_decide_eq_true hc
   refine Xq<|Ca O (Ej)<|Ca O (rz)<|Ca O (ra)<|Ca O (eE _ _)<|Ca O (lv _)<|Ca O (eE _ _)<|Sa 6 hGF O O O bH<|aa<|aB<|?_;exact ⟨rfl,(),_,rfl,trv,⟨rfl,rfl,rfl,rfl,by rw[show x1O u=_ from if_pos ht]<;>rfl,trivial⟩⟩
  ·have ht: ¬tu2 u=ze2:=of_decide_eq_false hc
   refine Xe []<|Ca O (Ej)<|Ca O (rR _)<|Ca O (ra)<|Ca O (lv _)<|Ca O (eE _ _)<|Ca O (nS)<|La 5 O O bH<|Ca O (lv _)<|Ca O (sr _ _)<|Ca O (eE _ _)<|Sa 6 hGF O O O bH<|aa<|aB<|?_;exact ⟨rfl,(),_,rfl,trv,⟨rfl,rfl,rfl,rfl,by rw[show x1O u=_ from if_neg ht]<;>rfl,trivial⟩⟩
 ·intro _
  refine Xp<|La 6 O O bH<|Ca O (rG _)<|Ca O (Bh _ r hr hl)<|Mv O<|Ext O O<|Ext O O<|Al 7 hGF zv41<|λb7=>Sa 7 hGF O O O bH<|Asg O<|aa<|ae<|Xp<|Mv O<|bi O (λ_=>a5 _) O O<|aa<|aC O<|ap<|ae<|Xd []<|La 7 O O bH<|Ca O (u4 _)<|La 1 O O bH<|Ca O (u4 _)<|Bnr O O (λ_=>bz _ _ _)<|aa<|?_;refine bC O (λhc=> ?_) (λhc=> ?_)
  ·have hs: ¬SG2 r=SG2 u:=bne_iff_ne.1 hc
   refine Xq<|La 7 O O bH<|Ca O (rR _)<|Sa 7 hGF O O O bH<|aa<|gg (E:=EE []) (λX=>X=Hp (pl w) [(7,b7,(fe (ng2 r).1++fe (ng2 r).2).map U64,41)]) (mkB [2]) (rkB [62]) [0,1,2,3] cY O kr kr kr<|dE O O<|La 6 O O bH<|aa<|kh (X:=Hp (pl w) [(7,b7,(fe (ng2 r).1++fe (ng2 r).2).map U64,41)]) O (cP am trv) (λ_=>rfl)<|La 7 O O bH<|aa<|fE O<|Sa 2 hGF O O O bH<|aa<|?_;refine ⟨λ_ X hX _=>by subst hX;exact cP am trv, ?_⟩
   refine fE O<|Sa 3 hGF O O O bH<|aa<|?_;refine ⟨λh=>(by cases h), ?_⟩
   refine fI<|ak<|Rr<|?_;exact im 2 3 O O O O O isAgg41 sizeOf41 sm sm (λw hw=>⟨by rw[show sgS r u=_ from if_neg hs],ab hw⟩)
  ·have hs:SG2 r=SG2 u:=Decidable.byContradiction λe=>(by rw[bne_iff_ne.2 e]at hc;cases hc)
   refine ap<|gg (E:=EE []) (λX=>X=Hp (pl w) [(7,b7,(fe (r).1++fe (r).2).map U64,41)]) (mkB [2]) (rkB [62]) [0,1,2,3] cY O kr kr kr<|dE O O<|La 6 O O bH<|aa<|kh (X:=Hp (pl w) [(7,b7,(fe (r).1++fe (r).2).map U64,41)]) O (cP am trv) (λ_=>rfl)<|La 7 O O bH<|aa<|fE O<|Sa 2 hGF O O O bH<|aa<|?_;refine ⟨λ_ X hX _=>by subst hX;exact cP am trv, ?_⟩
   refine fE O<|Sa 3 hGF O O O bH<|aa<|?_;refine ⟨λh=>(by cases h), ?_⟩
   refine fI<|ak<|Rr<|?_;exact im 2 3 O O O O O isAgg41 sizeOf41 sm sm (λw hw=>⟨by rw[show sgS r u=_ from if_pos hs],ab hw⟩)
theorem OP(u r:W2)(hq: ¬IsQ (nm2 (gO (x1O u))))(hr:ml2 r r=gO (ml2 (zu2 u) (x1O u)))(hl:LG2 r=false):PUR 88 [EV2 u] (.tuple #[EV2 (ml2 (zu2 u) (x1O u)),EV2 (sgS r u)]):=by
 intro w hw;refine Hf func88 O hw<|λhGF=>Xp<|Bx 1 hGF O<|λb1=>Al 2 hGF zv41<|λb2=>Al 3 hGF zv41<|λb3=>aa<|Xa [0,1,2,3,4] ⟨5,4,41,(fe 0++fe 0).map U64⟩ [6] (bD O zv41 O)<|Ca O (rz)<|La 1 O O bH<|Ca O (eE _ _)<|La 1 O O bH<|Ca O (show PUR 89 [EV2 (ml2 OZ u),EV2 u] (EV2 (zu2 u))from eE (ml2 OZ u) u)<|aa<|?_;refine ⟨_,_,rfl,hGF,by intro x hx;simp only[List.mem_cons,List.not_mem_nil,or_false]at hx;subst hx;rfl,by intro x hx;simp only[List.mem_cons,List.not_mem_nil,or_false]at hx;subst hx;rfl,λadr1=> ?_⟩
 refine Sa 4 hGF O O O bH<|aa<|Xa [0,1,2,3,4] ⟨5,5,41,(fe 0++fe 0).map U64⟩ [6] (bD O zv41 O)<|La 4 O O bH<|La 4 O O bH<|Ca O (eE _ _)<|La 4 O O bH<|Ca O (show PUR 101 [EV2 (ml2 (zu2 u) (zu2 u)),EV2 (zu2 u)] (EV2 (tu2 u))from sr _ _)<|aa<|?_;refine ⟨_,_,rfl,hGF,by intro x hx;simp only[List.mem_cons,List.not_mem_nil,or_false]at hx;subst hx;rfl,by intro x hx;simp only[List.mem_cons,List.not_mem_nil,or_false]at hx;subst hx;rfl,λadr2=> ?_⟩
 refine Sa 5 hGF O O O bH<|aa<|Xp<|Al 6 hGF zv41<|λb6=>aa<|?_;refine i3 (ι:=Unit) (λ_=>[(1,pnt b1),(2,pnt b2),(3,pnt b3),(4,.pointer (some ⟨(adr1 4),0,none⟩)),(6,pnt b6)]) (λ_=>[(1,b1,(fe (u).1++fe (u).2).map U64,41),(2,b2,(fe 0++fe 0).map U64,41),(3,b3,(fe 0++fe 0).map U64,41),(4,adr1 4,(fe (zu2 u).1++fe (zu2 u).2).map U64,41),(6,b6,(fe (x1O u).1++fe (x1O u).2).map U64,41)]) hGF ?_ ?_
 ·refine Xp<|La 5 O O bH<|Ca O (kX _)<|aa<|?_
  refine bC O (λhc=> ?_) (λhc=> ?_)
  ·have ht:tu2 u=ze2:=of_decide_eq_true hc
   refine Xq<|Ca O (Ej)<|Ca O (rz)<|Ca O (ra)<|Ca O (eE _ _)<|Ca O (lv _)<|Ca O (eE _ _)<|Sa 6 hGF O O O bH<|aa<|aB<|?_;exact ⟨rfl,(),_,rfl,trv,⟨rfl,rfl,rfl,rfl,by rw[show x1O u=_ from if_pos ht]<;>rfl,trivial⟩⟩
  ·have ht: ¬tu2 u=ze2:=of_decide_eq_false hc
   refine Xe []<|Ca O (Ej)<|Ca O (rR _)<|Ca O (ra)<|Ca O (lv _)<|Ca O (eE _ _)<|Ca O (nS)<|La 5 O O bH<|Ca O (lv _)<|Ca O (sr _ _)<|Ca O (eE _ _)<|Sa 6 hGF O O O bH<|aa<|aB<|?_;exact ⟨rfl,(),_,rfl,trv,⟨rfl,rfl,rfl,rfl,by rw[show x1O u=_ from if_neg ht]<;>rfl,trivial⟩⟩
 ·intro _
  refine Xp<|La 6 O O bH<|Ca O (rG _)<|Ca O (Jf _ hq)<|Mv O<|Ext O O<|Ext O O<|Al 7 hGF zv41<|λb7=>Sa 7 hGF O O O bH<|Asg O<|aa<|ae<|Xp<|Mv O<|bi O (λ_=>a5 _) O O<|aa<|aP O<|Xp<|La 4 O O bH<|La 6 O O bH<|Ca O (eE _ _)<|Sa 6 hGF O O O bH<|aa<|Xq<|La 6 O O bH<|Ca O (rG _)<|Ca O (Bh _ r hr hl)<|Mv O<|Ext O O<|Ext O O<|Sa 7 hGF O O O bH<|aa<|ae<|Xd []<|La 7 O O bH<|Ca O (u4 _)<|La 1 O O bH<|Ca O (u4 _)<|Bnr O O (λ_=>bz _ _ _)<|aa<|?_;refine bC O (λhc=> ?_) (λhc=> ?_)
  ·have hs: ¬SG2 r=SG2 u:=bne_iff_ne.1 hc
   refine Xq<|La 7 O O bH<|Ca O (rR _)<|Sa 7 hGF O O O bH<|aa<|gg (E:=EE []) (λX=>X=Hp (pl w) [(7,b7,(fe (ng2 r).1++fe (ng2 r).2).map U64,41)]) (mkB [2]) (rkB [62]) [0,1,2,3] cY O kr kr kr<|dE O O<|La 6 O O bH<|aa<|kh (X:=Hp (pl w) [(7,b7,(fe (ng2 r).1++fe (ng2 r).2).map U64,41)]) O (cP am trv) (λ_=>rfl)<|La 7 O O bH<|aa<|fE O<|Sa 2 hGF O O O bH<|aa<|?_;refine ⟨λ_ X hX _=>by subst hX;exact cP am trv, ?_⟩
   refine fE O<|Sa 3 hGF O O O bH<|aa<|?_;refine ⟨λh=>(by cases h), ?_⟩
   refine fI<|ak<|Rr<|?_;exact im 2 3 O O O O O isAgg41 sizeOf41 sm sm (λw hw=>⟨by rw[show sgS r u=_ from if_neg hs],ab hw⟩)
  ·have hs:SG2 r=SG2 u:=Decidable.byContradiction λe=>(by rw[bne_iff_ne.2 e]at hc;cases hc)
   refine ap<|gg (E:=EE []) (λX=>X=Hp (pl w) [(7,b7,(fe (r).1++fe (r).2).map U64,41)]) (mkB [2]) (rkB [62]) [0,1,2,3] cY O kr kr kr<|dE O O<|La 6 O O bH<|aa<|kh (X:=Hp (pl w) [(7,b7,(fe (r).1++fe (r).2).map U64,41)]) O (cP am trv) (λ_=>rfl)<|La 7 O O bH<|aa<|fE O<|Sa 2 hGF O O O bH<|aa<|?_;refine ⟨λ_ X hX _=>by subst hX;exact cP am trv, ?_⟩
   refine fE O<|Sa 3 hGF O O O bH<|aa<|?_;refine ⟨λh=>(by cases h), ?_⟩
   refine fI<|ak<|Rr<|?_;exact im 2 3 O O O O O isAgg41 sizeOf41 sm sm (λw hw=>⟨by rw[show sgS r u=_ from if_pos hs],ab hw⟩)
theorem rswu{u x r:W2}(h:SwR u x r):PUR 88 [EV2 u] (.tuple #[EV2 x,EV2 (sgS r u)]):=by
 obtain ⟨hr,hl,rfl|⟨hq,rfl⟩⟩:=h
 ·exact Qz u r hr hl
 ·exact OP u r hq hr hl
end
section
open J2
open Go.RowKit
attribute [local simp] a6 bv aH aA aQ aY aR aK aM PLl cJ cH N1l cI cL cK bf bB a7 bu bx cQ
theorem Pd(a b:Zp):PUR 84 [NV (nm a),NV (nm b)] (EV2 (a,b)):=by
 intro w hw;refine Hf func84 O hw<|λhGF=>Xp<|Bx 2 hGF O<|λb2=>Bx 3 hGF O<|λb3=>Al 4 hGF zv41<|λb4=>aa<|Xd []<|La 2 O O ce<|Ca O (IH _)<|La 3 O O ce<|Ca O (IH _)<|co rU O O sm sm O O<|Sa 4 hGF O O O bH<|aa<|ak<|Rr<|?_;exact au 4 O O O isAgg41 sizeOf41 sm (λw hw=>⟨rfl,ab hw⟩)
theorem kL(a b:Zp):PUR 139 [NV (nm a),NV (nm b)] (EV2 (a,b)):=by
 intro w hw;refine Hf func139 O hw<|λhGF=>Xp<|Bx 2 hGF O<|λb2=>Bx 3 hGF O<|λb3=>Al 4 hGF zv41<|λb4=>aa<|Xp<|La 2 O O ce<|La 3 O O ce<|Ca O (Pd _ _)<|Sa 4 hGF O O O bH<|aa<|ak<|Rr<|?_;exact au 4 O O O isAgg41 sizeOf41 sm (λw hw=>⟨rfl,ab hw⟩)
theorem pz(a b:BitVec 64):PUR 140 [U64 a,U64 b] (EV2 (ng2 (sm2 a b))):=by
 intro w hw;refine Hf func140 O hw<|λhGF=>Xp<|Al 4 hGF zv41<|λb4=>aa<|Xp<|Mv O<|Mv O<|Ca O (zB _ _)<|Ca O (rR _)<|Sa 4 hGF O O O bH<|aa<|ak<|Rr<|?_;exact au 4 O O O isAgg41 sizeOf41 sm (λw hw=>⟨rfl,ab hw⟩)
def cXN:Nat->W2
 |0=>(zp 0x5c759507e8e333ebb5b7a9a47d7ed8532c52d39fd3a042a88b58423c50ae15d5c2638e343d9c71c6238aaaaaaaa97d6,zp 0x5c759507e8e333ebb5b7a9a47d7ed8532c52d39fd3a042a88b58423c50ae15d5c2638e343d9c71c6238aaaaaaaa97d6)
 |1=>(0,zp 0x11560bf17baa99bc32126fced787c88f984f87adf7ae0c7f9a208c6b4f20a4181472aaa9cb8d555526a9ffffffffc71a)
 |2=>(zp 0x11560bf17baa99bc32126fced787c88f984f87adf7ae0c7f9a208c6b4f20a4181472aaa9cb8d555526a9ffffffffc71e,zp 0x8ab05f8bdd54cde190937e76bc3e447cc27c3d6fbd7063fcd104635a790520c0a395554e5c6aaaa9354ffffffffe38d)
 |_=>(zp 0x171d6541fa38ccfaed6dea691f5fb614cb14b4e7f4e810aa22d6108f142b85757098e38d0f671c7188e2aaaaaaaa5ed1,0)
theorem TT:iXN=[cXN 0,cXN 1,cXN 2,cXN 3]:=rfl
theorem UX:nm (zp 0x5c759507e8e333ebb5b7a9a47d7ed8532c52d39fd3a042a88b58423c50ae15d5c2638e343d9c71c6238aaaaaaaa97d6)=[7077594464397203414#64,6640057249351452444#64,9850925049107374429#64,3658379999393219626#64,13500519111022079365#64,416399692810564414#64]:=by decide+kernel
theorem GI:PUR 139 [NV [7077594464397203414#64,6640057249351452444#64,9850925049107374429#64,3658379999393219626#64,13500519111022079365#64,416399692810564414#64],NV [7077594464397203414#64,6640057249351452444#64,9850925049107374429#64,3658379999393219626#64,13500519111022079365#64,416399692810564414#64]] (EV2 (cXN 0)):=by
 have h:=kL (zp 0x5c759507e8e333ebb5b7a9a47d7ed8532c52d39fd3a042a88b58423c50ae15d5c2638e343d9c71c6238aaaaaaaa97d6) (zp 0x5c759507e8e333ebb5b7a9a47d7ed8532c52d39fd3a042a88b58423c50ae15d5c2638e343d9c71c6238aaaaaaaa97d6);rw[UX]at h;exact h
theorem z5:nm (0)=[0#64,0#64,0#64,0#64,0#64,0#64]:=by decide+kernel
theorem Wi:nm (zp 0x11560bf17baa99bc32126fced787c88f984f87adf7ae0c7f9a208c6b4f20a4181472aaa9cb8d555526a9ffffffffc71a)=[2786039319482058522#64,1473427674344805717#64,11106031073612571672#64,10975139998179658879#64,3608069185647134863#64,1249199078431693244#64]:=by decide+kernel
theorem Ey:PUR 139 [NV [0#64,0#64,0#64,0#64,0#64,0#64],NV [2786039319482058522#64,1473427674344805717#64,11106031073612571672#64,10975139998179658879#64,3608069185647134863#64,1249199078431693244#64]] (EV2 (cXN 1)):=by
 have h:=kL (0) (zp 0x11560bf17baa99bc32126fced787c88f984f87adf7ae0c7f9a208c6b4f20a4181472aaa9cb8d555526a9ffffffffc71a);rw[z5,Wi]at h;exact h
theorem TQ:nm (zp 0x11560bf17baa99bc32126fced787c88f984f87adf7ae0c7f9a208c6b4f20a4181472aaa9cb8d555526a9ffffffffc71e)=[2786039319482058526#64,1473427674344805717#64,11106031073612571672#64,10975139998179658879#64,3608069185647134863#64,1249199078431693244#64]:=by decide+kernel
theorem Ui:nm (zp 0x8ab05f8bdd54cde190937e76bc3e447cc27c3d6fbd7063fcd104635a790520c0a395554e5c6aaaa9354ffffffffe38d)=[10616391696595805069#64,736713837172402858#64,14776387573661061644#64,14710942035944605247#64,1804034592823567431#64,624599539215846622#64]:=by decide+kernel
theorem FZ:PUR 139 [NV [2786039319482058526#64,1473427674344805717#64,11106031073612571672#64,10975139998179658879#64,3608069185647134863#64,1249199078431693244#64],NV [10616391696595805069#64,736713837172402858#64,14776387573661061644#64,14710942035944605247#64,1804034592823567431#64,624599539215846622#64]] (EV2 (cXN 2)):=by
 have h:=kL (zp 0x11560bf17baa99bc32126fced787c88f984f87adf7ae0c7f9a208c6b4f20a4181472aaa9cb8d555526a9ffffffffc71e) (zp 0x8ab05f8bdd54cde190937e76bc3e447cc27c3d6fbd7063fcd104635a790520c0a395554e5c6aaaa9354ffffffffe38d);rw[TQ,Ui]at h;exact h
theorem UZ:nm (zp 0x171d6541fa38ccfaed6dea691f5fb614cb14b4e7f4e810aa22d6108f142b85757098e38d0f671c7188e2aaaaaaaa5ed1)=[9863633783879261905#64,8113484923696258161#64,2510212049010394485#64,14633519997572878506#64,17108588296669214228#64,1665598771242257658#64]:=by decide+kernel
theorem D5:PUR 139 [NV [9863633783879261905#64,8113484923696258161#64,2510212049010394485#64,14633519997572878506#64,17108588296669214228#64,1665598771242257658#64],NV [0#64,0#64,0#64,0#64,0#64,0#64]] (EV2 (cXN 3)):=by
 have h:=kL (zp 0x171d6541fa38ccfaed6dea691f5fb614cb14b4e7f4e810aa22d6108f142b85757098e38d0f671c7188e2aaaaaaaa5ed1) (0);rw[UZ,z5]at h;exact h
def cYN:Nat->W2
 |0=>(zp 0x1530477c7ab4113b59a4c18b076d11930f7da5d4a07f649bf54439d87d27e500fc8c25ebf8c92f6812cfc71c71c6d706,zp 0x1530477c7ab4113b59a4c18b076d11930f7da5d4a07f649bf54439d87d27e500fc8c25ebf8c92f6812cfc71c71c6d706)
 |1=>(0,zp 0x5c759507e8e333ebb5b7a9a47d7ed8532c52d39fd3a042a88b58423c50ae15d5c2638e343d9c71c6238aaaaaaaa97be)
 |2=>(zp 0x11560bf17baa99bc32126fced787c88f984f87adf7ae0c7f9a208c6b4f20a4181472aaa9cb8d555526a9ffffffffc71c,zp 0x8ab05f8bdd54cde190937e76bc3e447cc27c3d6fbd7063fcd104635a790520c0a395554e5c6aaaa9354ffffffffe38f)
 |_=>(zp 0x124c9ad43b6cf79bfbf7043de3811ad0761b0f37a1e26286b0e977c69aa274524e79097a56dc4bd9e1b371c71c718b10,0)
theorem VY:iYN=[cYN 0,cYN 1,cYN 2,cYN 3]:=rfl
theorem Ut:nm (zp 0x1530477c7ab4113b59a4c18b076d11930f7da5d4a07f649bf54439d87d27e500fc8c25ebf8c92f6812cfc71c71c6d706)=[1355520937843676934#64,18197961889718808424#64,17673314439684154624#64,1116230615302104219#64,6459500568425337235#64,1526798873638736187#64]:=by decide+kernel
theorem Fq:PUR 139 [NV [1355520937843676934#64,18197961889718808424#64,17673314439684154624#64,1116230615302104219#64,6459500568425337235#64,1526798873638736187#64],NV [1355520937843676934#64,18197961889718808424#64,17673314439684154624#64,1116230615302104219#64,6459500568425337235#64,1526798873638736187#64]] (EV2 (cYN 0)):=by
 have h:=kL (zp 0x1530477c7ab4113b59a4c18b076d11930f7da5d4a07f649bf54439d87d27e500fc8c25ebf8c92f6812cfc71c71c6d706) (zp 0x1530477c7ab4113b59a4c18b076d11930f7da5d4a07f649bf54439d87d27e500fc8c25ebf8c92f6812cfc71c71c6d706);rw[Ut]at h;exact h
theorem WW:nm (zp 0x5c759507e8e333ebb5b7a9a47d7ed8532c52d39fd3a042a88b58423c50ae15d5c2638e343d9c71c6238aaaaaaaa97be)=[7077594464397203390#64,6640057249351452444#64,9850925049107374429#64,3658379999393219626#64,13500519111022079365#64,416399692810564414#64]:=by decide+kernel
theorem D6:PUR 139 [NV [0#64,0#64,0#64,0#64,0#64,0#64],NV [7077594464397203390#64,6640057249351452444#64,9850925049107374429#64,3658379999393219626#64,13500519111022079365#64,416399692810564414#64]] (EV2 (cYN 1)):=by
 have h:=kL (0) (zp 0x5c759507e8e333ebb5b7a9a47d7ed8532c52d39fd3a042a88b58423c50ae15d5c2638e343d9c71c6238aaaaaaaa97be);rw[z5,WW]at h;exact h
theorem Wr:nm (zp 0x11560bf17baa99bc32126fced787c88f984f87adf7ae0c7f9a208c6b4f20a4181472aaa9cb8d555526a9ffffffffc71c)=[2786039319482058524#64,1473427674344805717#64,11106031073612571672#64,10975139998179658879#64,3608069185647134863#64,1249199078431693244#64]:=by decide+kernel
theorem Ua:nm (zp 0x8ab05f8bdd54cde190937e76bc3e447cc27c3d6fbd7063fcd104635a790520c0a395554e5c6aaaa9354ffffffffe38f)=[10616391696595805071#64,736713837172402858#64,14776387573661061644#64,14710942035944605247#64,1804034592823567431#64,624599539215846622#64]:=by decide+kernel
theorem DQ:PUR 139 [NV [2786039319482058524#64,1473427674344805717#64,11106031073612571672#64,10975139998179658879#64,3608069185647134863#64,1249199078431693244#64],NV [10616391696595805071#64,736713837172402858#64,14776387573661061644#64,14710942035944605247#64,1804034592823567431#64,624599539215846622#64]] (EV2 (cYN 2)):=by
 have h:=kL (zp 0x11560bf17baa99bc32126fced787c88f984f87adf7ae0c7f9a208c6b4f20a4181472aaa9cb8d555526a9ffffffffc71c) (zp 0x8ab05f8bdd54cde190937e76bc3e447cc27c3d6fbd7063fcd104635a790520c0a395554e5c6aaaa9354ffffffffe38f);rw[Wr,Ua]at h;exact h
theorem PN:nm (zp 0x124c9ad43b6cf79bfbf7043de3811ad0761b0f37a1e26286b0e977c69aa274524e79097a56dc4bd9e1b371c71c718b10)=[16263467779354626832#64,5654561228188306393#64,12747851915130467410#64,8510412652460270214#64,18155985086623849168#64,1318599027233453979#64]:=by decide+kernel
theorem Ge:PUR 139 [NV [16263467779354626832#64,5654561228188306393#64,12747851915130467410#64,8510412652460270214#64,18155985086623849168#64,1318599027233453979#64],NV [0#64,0#64,0#64,0#64,0#64,0#64]] (EV2 (cYN 3)):=by
 have h:=kL (zp 0x124c9ad43b6cf79bfbf7043de3811ad0761b0f37a1e26286b0e977c69aa274524e79097a56dc4bd9e1b371c71c718b10) (0);rw[PN,z5]at h;exact h
def cXD:Nat->W2
 |0=>ng2 (sm2 0#64 72#64)
 |1=>(zp 12,-zp 12)
 |_=>on2
def cYD:Nat->W2
 |0=>ng2 (sm2 432#64 432#64)
 |1=>ng2 (sm2 0#64 216#64)
 |2=>(zp 18,-zp 18)
 |_=>on2
theorem TN:iXD=[cXD 0,cXD 1,cXD 2]:=by decide+kernel
theorem XG:iYD=[cYD 0,cYD 1,cYD 2,cYD 3]:=by decide+kernel
def RPr(f:Nat->W2)(i:Nat):L6:=fe (f i).1++fe (f i).2
theorem dC(f:Nat->W2)(i:Nat):(RPr f i).length=12:=by simp[RPr]
attribute [local simp] dC
theorem oM(n:Nat)(f:Nat->W2)(x:W2)(b cap:Nat)(hn:n<=1000)(w:World)(hw:Gt w)(h:w.rangeAt b 0 ((RW 12 (RPr f) n).map U64)):
 CLS 138 [.slice (spt b) n cap,EV2 x].toArray w (λr w'=>r=.returned (EV2 (HK (λk=>f (n-1-k)) x n))/\Grow w w'):=by
 refine Hf func138 O hw<|λhGF=>Xp<|Bx 3 hGF O<|λb3=>Al 4 hGF zv41<|λb4=>aa<|Xp<|Al 5 hGF zv41<|λb5=>aa<|ae<|Xp<|Mv O<|bc O (λ_=>aF underlying85 _ _ _ _) O O<|Bnr (v:=I ((n:Int)-1-((0:Nat):Int))) O O (λ_=>(aV _ _ _ oi).trans (by rw[show (n:Int)-1-((0:Nat):Int)=(n:Int)-1 by omega]))<|Asg O<|aa<|ah<|bG (ι:={i:Nat // i<=n}) (λy=>[(0,.slice (spt b) n cap),(3,pnt b3),(4,pnt b4),(5,pnt b5),(6,I ((n:Int)-1-(y.1:Int)))]) (λy=>[(3,b3,(fe (x).1++fe (x).2).map U64,41),(4,b4,(fe 0++fe 0).map U64,41),(5,b5,(fe (HK (λk=>f (n-1-k)) x y.1).1++fe (HK (λk=>f (n-1-k)) x y.1).2).map U64,41)]) (λy=>n-y.1) ⟨0,Nat.zero_le _⟩ hGF trv trv<|?_
 rintro ⟨j,hj⟩;dsimp only;refine ae<|Xp<|Mv O<|cr (v:=.bool (decide ((0:Int)<=((n:Int)-1-(j:Int))))) O O (λ_=>rfl) (λ_=>dh _ _ _) O O<|aa<|?_;refine bC O (λhc=> ?_) (λhc=> ?_)
 ·have hj2:j<n:=by have:=of_decide_eq_true hc;omega
  refine ap<|ae<|ah<|Xe []<|La 5 O O bH<|La 3 O O bH<|Ca O (eE _ _)<|Mv O<|Mv O<|iG (s:=12) (n-1-j) O O underlying85 sizeOf41 om om O O<|de (cs:=(RPr f (n-1-j)).map U64) O isAgg41 sizeOf41 sm (λw' h'=>gD (eO h (λh=>h) w' h') om (dC _ _)) O O<|Ca O (sr _ (f (n-1-j)))<|Sa 5 hGF O O O bH<|aa<|Xq<|Mv O<|Bnr (v:=I ((n:Int)-1-((j+1:Nat):Int))) O O (λ_=>(aV _ _ _ oi).trans (by rw[show (n:Int)-1-((j+1:Nat):Int)=(n:Int)-1-(j:Int)-1 by omega]))<|Asg O<|aa<|?_
  repeat (refine aL ?_)
  exact aB<|⟨rfl,⟨j+1,om⟩,_,by show n-(j+1)<n-j;omega,rfl,trv,trv⟩
 ·obtain rfl:j=n:=by have:=of_decide_eq_false hc;omega
  refine aU<|Xp<|La 5 O O bH<|Sa 4 hGF O O O bH<|aa<|ak<|Rr<|?_;exact au 4 O O O isAgg41 sizeOf41 sm (λw hw=>⟨rfl,ab hw⟩)
theorem Bd(x:W2)(b:Nat)(w:World)(hw:Gt w)(h:w.rangeAt b 0 ((RW 12 (RPr cXN) 4).map U64)):CLS 138 [.slice (spt b) 4 4,EV2 x].toArray w (λr w'=>r=.returned (EV2 (R2.pev iXN x))/\Grow w w'):=by
 have e:=oM 4 cXN x b 4 dc w hw h;rw[show HK (λk=>cXN (4-1-k)) x 4=R2.pev iXN x from (Co _ x).trans (by rw[TT])]at e
 exact e
theorem Ai(x:W2)(b:Nat)(w:World)(hw:Gt w)(h:w.rangeAt b 0 ((RW 12 (RPr cXD) 3).map U64)):CLS 138 [.slice (spt b) 3 3,EV2 x].toArray w (λr w'=>r=.returned (EV2 (R2.pev iXD x))/\Grow w w'):=by
 have e:=oM 3 cXD x b 3 dc w hw h;rw[show HK (λk=>cXD (3-1-k)) x 3=R2.pev iXD x from (HK_3 _ x).trans (by rw[TN])]at e
 exact e
theorem Au(x:W2)(b:Nat)(w:World)(hw:Gt w)(h:w.rangeAt b 0 ((RW 12 (RPr cYN) 4).map U64)):CLS 138 [.slice (spt b) 4 4,EV2 x].toArray w (λr w'=>r=.returned (EV2 (R2.pev iYN x))/\Grow w w'):=by
 have e:=oM 4 cYN x b 4 dc w hw h;rw[show HK (λk=>cYN (4-1-k)) x 4=R2.pev iYN x from (Co _ x).trans (by rw[VY])]at e
 exact e
theorem Am(x:W2)(b:Nat)(w:World)(hw:Gt w)(h:w.rangeAt b 0 ((RW 12 (RPr cYD) 4).map U64)):CLS 138 [.slice (spt b) 4 4,EV2 x].toArray w (λr w'=>r=.returned (EV2 (R2.pev iYD x))/\Grow w w'):=by
 have e:=oM 4 cYD x b 4 dc w hw h;rw[show HK (λk=>cYD (4-1-k)) x 4=R2.pev iYD x from (Co _ x).trans (by rw[XG])]at e
 exact e
end
section
open J2
open Go.RowKit
attribute [local simp] a6 bv aH aA aQ aY aR aK aM PLl cJ cH N1l cI cL cK bf bB a7 bu bx cQ dC
theorem riso(x y:W2)(h:ml2 y y=gO x):PUR 87 [EV2 x,EV2 y] (EV6 (XIs x,YIs x y,on2)):=by
 intro w hw;refine Hf func87 O hw<|λhGF=>Xp<|Bx 2 hGF O<|λb2=>Bx 3 hGF O<|λb3=>Al 4 hGF zv43<|λb4=>aa<|?_;refine i3 (ι:=Nat) (λz=>[(2,pnt b2),(3,pnt b3),(4,pnt b4),(5,pnt z)]) (λz=>[(2,b2,(fe (x).1++fe (x).2).map U64,41),(3,b3,(fe (y).1++fe (y).2).map U64,41),(4,b4,((fe 0++fe 0)++((fe 0++fe 0)++(fe 0++fe 0))).map U64,43),(5,z,(fe (R2.pev iXN x).1++fe (R2.pev iXN x).2).map U64,41)]) hGF ?_ ?_
 ·refine lF (EE [2999998,2999999]) cY kr kr<|aO (m:=4) [0,1,2,3,4,5,6,7,8,9,10,11,13] kr<|bR (n:=6) O O underlying37 sizeOf24 zeroValue37 O O O O<|bR (n:=6) O O underlying37 sizeOf24 zeroValue37 O O O O<|Ca O (GI)<|bR (n:=6) O O underlying37 sizeOf24 zeroValue37 O O O O<|bR (n:=6) O O underlying37 sizeOf24 zeroValue37 O O O O<|Ca O (Ey)<|bR (n:=6) O O underlying37 sizeOf24 zeroValue37 O O O O<|bR (n:=6) O O underlying37 sizeOf24 zeroValue37 O O O O<|Ca O (FZ)<|bR (n:=6) O O underlying37 sizeOf24 zeroValue37 O O O O<|bR (n:=6) O O underlying37 sizeOf24 zeroValue37 O O O O<|Ca O (D5)<|La 2 O O bH<|aa<|ew (m:=3) [12,15] kr kr dc<|?_
  intro i hi;simp only[List.mem_cons,List.not_mem_nil,or_false]at hi;rcases hi with rfl|rfl
  ·exact eX (s:=12) 21 (RPr cXN) (fe 0++fe 0) hGF O O O (λi _=>dC _ _) dc dc underlying85 sizeOf41 sm zv41 O O<|λb21=>aa<|aO (m:=2) [14] kr<|Cc O ent138 (λw' hC hG=>Bd x _ w' hG (aG (n:=21) O w' hC))<|aa<|aO (m:=1) [15] kr<|bE 5 hGF zv41 O O O<|λb5=>aa<|aO (m:=0) [16] kr<|Sa 5 hGF O O O bH<|aa<|cF kr<|aB<|⟨rfl,b5,_,rfl,trv,trv⟩
  ·exact bE 5 hGF zv41 O O O<|λb5=>aa<|aO (m:=2) [12] kr<|eX (s:=12) 21 (RPr cXN) (fe 0++fe 0) hGF O O O (λi _=>dC _ _) dc dc underlying85 sizeOf41 sm zv41 O O<|λb21=>aa<|aO (m:=1) [14] kr<|Cc O ent138 (λw' hC hG=>Bd x _ w' hG (aG (n:=21) O w' hC))<|aa<|aO (m:=0) [16] kr<|Sa 5 hGF O O O bH<|aa<|cF kr<|aB<|⟨rfl,b5,_,rfl,trv,trv⟩
 ·intro b5
  refine i3 (ι:=Nat) (λz=>[(2,pnt b2),(3,pnt b3),(4,pnt b4),(5,pnt b5),(6,pnt z)]) (λz=>[(2,b2,(fe (x).1++fe (x).2).map U64,41),(3,b3,(fe (y).1++fe (y).2).map U64,41),(4,b4,((fe 0++fe 0)++((fe 0++fe 0)++(fe 0++fe 0))).map U64,43),(5,b5,(fe (R2.pev iXN x).1++fe (R2.pev iXN x).2).map U64,41),(6,z,(fe (R2.pev iXD x).1++fe (R2.pev iXD x).2).map U64,41)]) hGF ?_ ?_
  ·refine lF (EE [2999998,2999999]) cY kr kr<|aO (m:=4) [0,1,2,3,4,5,7] kr<|Ca O (pz 0#64 72#64)<|Ca O (iq _)<|Ca O (iq _)<|Ca O (v4 _)<|co rU O O sm sm O O<|Ca O (nS)<|La 2 O O bH<|aa<|ew (m:=3) [6,9] kr kr dc<|?_
   intro i hi;simp only[List.mem_cons,List.not_mem_nil,or_false]at hi;rcases hi with rfl|rfl
   ·exact eX (s:=12) 30 (RPr cXD) (fe 0++fe 0) hGF O O O (λi _=>dC _ _) dc dc underlying85 sizeOf41 sm zv41 O O<|λb30=>aa<|aO (m:=2) [8] kr<|Cc O ent138 (λw' hC hG=>Ai x _ w' hG (aG (n:=30) O w' hC))<|aa<|aO (m:=1) [9] kr<|bE 6 hGF zv41 O O O<|λb6=>aa<|aO (m:=0) [10] kr<|Sa 6 hGF O O O bH<|aa<|cF kr<|aB<|⟨rfl,b6,_,rfl,trv,trv⟩
   ·exact bE 6 hGF zv41 O O O<|λb6=>aa<|aO (m:=2) [6] kr<|eX (s:=12) 30 (RPr cXD) (fe 0++fe 0) hGF O O O (λi _=>dC _ _) dc dc underlying85 sizeOf41 sm zv41 O O<|λb30=>aa<|aO (m:=1) [8] kr<|Cc O ent138 (λw' hC hG=>Ai x _ w' hG (aG (n:=30) O w' hC))<|aa<|aO (m:=0) [10] kr<|Sa 6 hGF O O O bH<|aa<|cF kr<|aB<|⟨rfl,b6,_,rfl,trv,trv⟩
  ·intro b6
   refine i3 (ι:=Nat) (λz=>[(2,pnt b2),(3,pnt b3),(4,pnt b4),(5,pnt b5),(6,pnt b6),(7,pnt z)]) (λz=>[(2,b2,(fe (x).1++fe (x).2).map U64,41),(3,b3,(fe (y).1++fe (y).2).map U64,41),(4,b4,((fe 0++fe 0)++((fe 0++fe 0)++(fe 0++fe 0))).map U64,43),(5,b5,(fe (R2.pev iXN x).1++fe (R2.pev iXN x).2).map U64,41),(6,b6,(fe (R2.pev iXD x).1++fe (R2.pev iXD x).2).map U64,41),(7,z,(fe (R2.pev iYN x).1++fe (R2.pev iYN x).2).map U64,41)]) hGF ?_ ?_
   ·refine lF (EE [2999998,2999999]) cY kr kr<|aO (m:=4) [0,1,2,3,4,5,6,7,8,9,10,11,13] kr<|bR (n:=6) O O underlying37 sizeOf24 zeroValue37 O O O O<|bR (n:=6) O O underlying37 sizeOf24 zeroValue37 O O O O<|Ca O (Fq)<|bR (n:=6) O O underlying37 sizeOf24 zeroValue37 O O O O<|bR (n:=6) O O underlying37 sizeOf24 zeroValue37 O O O O<|Ca O (D6)<|bR (n:=6) O O underlying37 sizeOf24 zeroValue37 O O O O<|bR (n:=6) O O underlying37 sizeOf24 zeroValue37 O O O O<|Ca O (DQ)<|bR (n:=6) O O underlying37 sizeOf24 zeroValue37 O O O O<|bR (n:=6) O O underlying37 sizeOf24 zeroValue37 O O O O<|Ca O (Ge)<|La 2 O O bH<|aa<|ew (m:=3) [12,15] kr kr dc<|?_
    intro i hi;simp only[List.mem_cons,List.not_mem_nil,or_false]at hi;rcases hi with rfl|rfl
    ·exact eX (s:=12) 45 (RPr cYN) (fe 0++fe 0) hGF O O O (λi _=>dC _ _) dc dc underlying85 sizeOf41 sm zv41 O O<|λb45=>aa<|aO (m:=2) [14] kr<|Cc O ent138 (λw' hC hG=>Au x _ w' hG (aG (n:=45) O w' hC))<|aa<|aO (m:=1) [15] kr<|bE 7 hGF zv41 O O O<|λb7=>aa<|aO (m:=0) [16] kr<|Sa 7 hGF O O O bH<|aa<|cF kr<|aB<|⟨rfl,b7,_,rfl,trv,trv⟩
    ·exact bE 7 hGF zv41 O O O<|λb7=>aa<|aO (m:=2) [12] kr<|eX (s:=12) 45 (RPr cYN) (fe 0++fe 0) hGF O O O (λi _=>dC _ _) dc dc underlying85 sizeOf41 sm zv41 O O<|λb45=>aa<|aO (m:=1) [14] kr<|Cc O ent138 (λw' hC hG=>Au x _ w' hG (aG (n:=45) O w' hC))<|aa<|aO (m:=0) [16] kr<|Sa 7 hGF O O O bH<|aa<|cF kr<|aB<|⟨rfl,b7,_,rfl,trv,trv⟩
   ·intro b7
    refine i3 (ι:=Nat) (λz=>[(2,pnt b2),(3,pnt b3),(4,pnt b4),(5,pnt b5),(6,pnt b6),(7,pnt b7),(8,pnt z)]) (λz=>[(2,b2,(fe (x).1++fe (x).2).map U64,41),(3,b3,(fe (y).1++fe (y).2).map U64,41),(4,b4,((fe 0++fe 0)++((fe 0++fe 0)++(fe 0++fe 0))).map U64,43),(5,b5,(fe (R2.pev iXN x).1++fe (R2.pev iXN x).2).map U64,41),(6,b6,(fe (R2.pev iXD x).1++fe (R2.pev iXD x).2).map U64,41),(7,b7,(fe (R2.pev iYN x).1++fe (R2.pev iYN x).2).map U64,41),(8,z,(fe (R2.pev iYD x).1++fe (R2.pev iYD x).2).map U64,41)]) hGF ?_ ?_
    ·refine lF (EE [2999998,2999999]) cY kr kr<|aO (m:=4) [0,1,2,3,4,5,6,8] kr<|Ca O (pz 432#64 432#64)<|Ca O (pz 0#64 216#64)<|Ca O (iq _)<|Ca O (iq _)<|Ca O (v4 _)<|co rU O O sm sm O O<|Ca O (nS)<|La 2 O O bH<|aa<|ew (m:=3) [7,10] kr kr dc<|?_
     intro i hi;simp only[List.mem_cons,List.not_mem_nil,or_false]at hi;rcases hi with rfl|rfl
     ·exact eX (s:=12) 55 (RPr cYD) (fe 0++fe 0) hGF O O O (λi _=>dC _ _) dc dc underlying85 sizeOf41 sm zv41 O O<|λb55=>aa<|aO (m:=2) [9] kr<|Cc O ent138 (λw' hC hG=>Am x _ w' hG (aG (n:=55) O w' hC))<|aa<|aO (m:=1) [10] kr<|bE 8 hGF zv41 O O O<|λb8=>aa<|aO (m:=0) [11] kr<|Sa 8 hGF O O O bH<|aa<|cF kr<|aB<|⟨rfl,b8,_,rfl,trv,trv⟩
     ·exact bE 8 hGF zv41 O O O<|λb8=>aa<|aO (m:=2) [7] kr<|eX (s:=12) 55 (RPr cYD) (fe 0++fe 0) hGF O O O (λi _=>dC _ _) dc dc underlying85 sizeOf41 sm zv41 O O<|λb55=>aa<|aO (m:=1) [9] kr<|Cc O ent138 (λw' hC hG=>Am x _ w' hG (aG (n:=55) O w' hC))<|aa<|aO (m:=0) [11] kr<|Sa 8 hGF O O O bH<|aa<|cF kr<|aB<|⟨rfl,b8,_,rfl,trv,trv⟩
    ·intro b8
     refine ae<|Xp<|La 6 O O bH<|Cbl false O ent57 (kX _) (decide_eq_false (vp h))<|Mv O<|La 8 O O bH<|Cbl false O ent57 (kX _) (decide_eq_false (v7 h))<|Pk O O O<|aa<|aC O<|ap<|Xd []<|La 5 O O bH<|La 6 O O bH<|Ca O (lv _)<|Ca O (eE _ _)<|La 3 O O bH<|La 7 O O bH<|Ca O (eE _ _)<|La 8 O O bH<|Ca O (lv _)<|Ca O (eE _ _)<|Ca O (Ur _ _)<|Sa 4 hGF O O O jL<|aa<|ak<|Rr<|?_;exact au 4 O O O isAgg43 sizeOf43 sm (λw hw=>⟨rfl,ab hw⟩)
theorem rmap{u x r:W2}(h:SwR u x r):PUR 39 [EV2 u] (EV6 (XIs x,YIs x (sgS r u),on2)):=by
 intro w hw;refine Hf func39 O hw<|λhGF=>Xp<|Bx 1 hGF O<|λb1=>Al 2 hGF zv43<|λb2=>aa<|Xp<|La 1 O O bH<|Ca O (rswu h)<|Ext O O<|Ext O O<|Ca O (riso _ _ h.on)<|Sa 2 hGF O O O jL<|aa<|ak<|Rr<|?_;exact au 2 O O O isAgg43 sizeOf43 sm (λw hw=>⟨rfl,ab hw⟩)
end
section
open J2
open Go.RowKit
attribute [local simp] a6 bv aH aA aQ aY aR aK aM PLl cJ cH N1l cI cL cK bf bB a7 bu bx cQ dC
theorem ent280:ai prog 280:=λ_ _=>kr
theorem lz(s0:ByteArray)(xs:L8)(h0:s0.data.toList=xs.map (λx=>UInt8.ofBitVec x)):PUR 268 [.string s0] (EV (FV xs)):=by
 intro w hw;refine Hf func268 O hw<|λhGF=>ac (E:=EE [1000022])<|Al 2 hGF zv52<|λb2=>aa<|ac (E:=EE [1000022])<|Mv O<|?_;refine yQ 7 (xs:=xs) O hGF O underlying9 underlying22 underlying5 h0 O O (λb7 c7 k7 e7 l7 t7=> ?_);refine Cc O ent74 (λw' hC hG=>ec _ _ xs w' hG (cB (aG (n:=7) O w' hC) t7))<|Mv O<|Ext O O<|Ext O O<|Al 3 hGF zv52<|λb3=>Sa 3 hGF O O O bM<|Asg O<|aa<|ac (E:=EE [1000022])<|La 3 O O bM<|Sa 2 hGF O O O bM<|aa<|ak<|Rr<|?_;exact au 2 O O O isAgg52 sizeOf52 sm (λw hw=>⟨rfl,ab hw⟩)
def R24(f g:Nat->W2)(i:Nat):L6:=(fe (f i).1++fe (f i).2)++(fe (g i).1++fe (g i).2)
theorem jQ(f g:Nat->W2)(i:Nat):(R24 f g i).length=24:=by simp[R24]
attribute [local simp] jQ
def z4:Nat->W2:=λ_=>ze2
abbrev Pj(f g:Nat->W2):Value:=aJ (RW 24 (R24 f g) 4)
theorem zv297(w:World):(zeroValue 297).run prog w=.ok (aJ ((fe 0++fe 0)++(fe 0++fe 0))) w:=by rw[i2];exact (zeroValue297 w).trans rr
theorem kI:Two prog 297 ⟨ "over",78,0,false, "", "pharos/swu",0⟩ ⟨ "under",78,12,false, "", "pharos/swu",96⟩ 12 12 (fe 0++fe 0) (fe 0++fe 0):=⟨underlying297,rfl,rfl,sizeOf78,sizeOf78,zv297,sm,sm⟩
theorem Qt:RW 24 (R24 z4 z4) 4=List.replicate 96 0#64:=by
 have e: ∀i,R24 z4 z4 i=List.replicate 24 0#64:=λi=>by
  show (fe 0++fe 0)++(fe 0++fe 0)=List.replicate 24 0#64;rw[i2];rfl
 simp only[RW,e];rfl
theorem zv298(w:World):(zeroValue 298).run prog w=.ok (Pj z4 z4) w:=by
 show _=Result.ok (Value.agg ((RW 24 (R24 z4 z4) 4).map U64).toArray) w;rw[Qt];exact (zeroValue298 w).trans rr
theorem A2(f z:Nat->L6): ∀i,i<4->yc f [0,1,2,3] z i=f i:=λi hi=>oN _ _ _ _ (.inl (by
 match i,hi with
 |0,_=>decide
 |1,_=>decide
 |2,_=>decide
 |3,_=>decide))
theorem qt(f g:Nat->W2)(w:World)(hw:Gt w):CLS 267 [Pj f g].toArray w (λe w'=> ∃b1,e=.returned (.func (.func 280) #[] #[pnt b1])/\Grow w w'/\w.heap.size<=b1/\OwnB w' b1 ((RW 24 (R24 f g) 4).map U64) 298):=by
 refine Hf func267 O hw<|λhGF=>Xp<|Bx 1 hGF O<|λb1=>Asg O<|aa<|Xp<|gj O O O O<|Asg O<|aa<|ak<|Rr<|?_;exact aE O O (λw hw=>⟨b1,rfl,ab hw,(hw.own 1 b1 _ _ O).2.elim id False.elim,(hw.own 1 b1 _ _ O).1⟩)
def PS4(f g:Nat->W2):List (List Value):=(List.range 4).map λ(k:Nat)=>[EV2 (f k),EV2 (g k)]
theorem tS(f g:Nat->W2):(PS4 f g).length=4:=by rw[PS4,List.length_map,List.length_range]
theorem zm(f g:Nat->W2)(k:Nat)(h:k<4):(PS4 f g)[k]? =some [EV2 (f k),EV2 (g k)]:=by
 rw[PS4,List.getElem?_map,List.getElem?_range h];rfl
theorem Pm(f g:Nat->W2)(k:Nat)(v:List Value)(h:(PS4 f g)[k]? =some v):k<4/\v=[EV2 (f k),EV2 (g k)]:=by
 have hk:k<4:=by
  rcases Nat.lt_or_ge k 4 with hk|hk
  ·exact hk
  ·rw[List.getElem?_eq_none (by rw[tS];exact hk)]at h;cases h
 exact ⟨hk,(Option.some.inj ((zm f g k hk).symm.trans h)).symm⟩
def NG(bb:Nat)(f g:Nat->W2):Cls:=λw=>w.rangeAt bb 0 ((RW 24 (R24 f g) 4).map U64)
theorem El(bb:Nat)(f g:Nat->W2):fD prog Gt 280 [pnt bb] (PS4 f g) (NG bb f g):=by
 intro l J Jx hJ hJx hRd hGx hY w hj;have okJ: ∀k,BOk Gt (Bi w (λY=>J Y k)):=λk=>⟨λ_ _ _ h=>(hRd _ _ _ h.rid).1,hJ k⟩;have okX: ∀k,BOk Gt (Bi w (λY=>Jx Y k)):=λk=>⟨λ_ _ _ h=>hGx _ _ _ h.rid,hJx k⟩;have c1: ∀k L w',Hp (Bi w (λY=>J Y k)) L w'->NG bb f g w':=λk L w' h=>(hRd _ _ _ h.rid).2;refine cu (G:=Gt) func280 O O (Hp (Bi w (λY=>J Y 0)) []) (ci (Bi w _) hj (hJ 0)) (ay (okJ 0))<|Xp<|de O isAgg298 sizeOf298 sm (λw h=>c1 _ _ w h) O O<|Mv O<|aa<|ah<|gy (ι:={i:Nat // i<=4}) (λy=>[(0,.func (.yield l) #[] #[]),(1,pnt bb),(5,Pj f g),(6,I (y.1:Int))]) (λy=>Bi w (λY=>J Y y.1)) (λy=>[]) (λy=>4-y.1) ⟨0,Nat.zero_le _⟩ (λ_=>okJ _) O trv trivial<|?_;rintro ⟨i,hi⟩;dsimp only;refine Xp<|Bnr O O (λ_=>av _ _ _)<|aa<|ae<|?_;refine bC O (λhc=> ?_) (λhc=> ?_)
 ·have hi2:i<4:=by simp at hc;omega
  refine ap<|ae<|ah<|Xp<|IN (s:=24) (R24 f g) i O O underlying298 sizeOf297 isAgg297 O om (jQ _ _ _) O O<|Al 4 (okJ _) zv297<|λb4=>Sa 4 (okJ _) O O O W7<|aa<|Xp<|Mv O<|Fa 0 O underlying297 O sizeOf78<|aw 4 _ O O isAgg78 sizeOf78 sm ej O O<|Fa 12 O underlying297 O sizeOf78<|aw 4 _ O O isAgg78 sizeOf78 sm (jf sm) O O<|?_;refine dw (hY.b (k:=i) (zm f g i om) w) (okJ _) (okX _) O O O O O ?_ ?_
  ·refine bi O (λ_=>a5 _) O O<|aa<|aC O<|ap<|Xq<|Bnr O O (λ_=>aq _ _ _ oi)<|Mv O<|aa<|?_
   repeat (refine aL ?_)
   exact aB<|⟨rfl,⟨i+1,om⟩,_,by show 4-(i+1)<4-i;omega,rfl,trv,trivial⟩
  ·refine bi O (λ_=>a5 _) O O<|aa<|aP O<|ak<|Rr<|?_
   repeat (first|refine du ?_|refine ck ?_|refine dK O ?_|refine bJ ?_|refine bI ?_)
   exact dr O (λw hw=>⟨⟨_,rfl⟩,.inr ⟨_,bZ (hJx _) hw.rid⟩⟩)
 ·obtain rfl:i=4:=by simp at hc;omega
  refine aU ?_
  repeat (first|refine du ?_|refine ck ?_|refine dK O ?_|refine bJ ?_|refine bI ?_)
  refine cS O (λw hw=>⟨⟨_,rfl⟩,.inl ?_⟩);have:=bZ (hJ _) hw.rid;rw[tS];exact this
end
end Go.Proofs.YtjookodjbjabbaaGreatDoor
