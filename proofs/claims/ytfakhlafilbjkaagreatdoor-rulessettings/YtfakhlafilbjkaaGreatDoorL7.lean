/- L7 -/
import Derived.Test.YtfakhlafilbjkaaGreatDoorL6
set_option maxRecDepth 100000
set_option maxHeartbeats 1000000
namespace Go.Proofs.YtfakhlafilbjkaaGreatDoor
open Go.Proofs.Tryz
section
open Go.RowKit
theorem ent383:aJ prog 383:=λ_ _=>kr
namespace J1
attribute [local simp] dO fH bN bq dr cx cy bX dV PLl mr mD N1l lO lT mA eI f7 iV jb jH
attribute [local simp] rD
def pb(bs:L8)(m:Nat):Bool:=decide (fQ bs m=1#8)
abbrev oB(bs:L8)(m:Nat):List Nat:=oL (pb bs) (8*bs.length) m
def NLs(l:List Nat):List (List Value):=l.map λn:Nat=>[I (n:Int)]
theorem wH(l:List Nat):(NLs l).length=l.length:=by simp[NLs]
theorem Fp(bs:L8)(i j:Nat)(hj:j<8):bs.getD i 0>>>(7-j) &&& 1#8=fQ bs (8*i+j):=by
 rw[fQ,show (8*i+j) / 8=i by omega,show (8*i+j) % 8=j by omega]
theorem I6{bs:L8}{m:Nat}(h:fQ bs m=1#8):pb bs m=true:=decide_eq_true h
theorem pb_n{bs:L8}{m:Nat}(h: ¬fQ bs m=1#8): ¬pb bs m=true:=λe=>h (of_decide_eq_true e)
theorem IL{bs:L8}{m:Nat}(hm:m<8*bs.length)(h:fQ bs m=1#8):(NLs (oB bs (8*bs.length)))[(oB bs m).length]? =some [I ((8*bs.length-1-m:Nat):Int)]:=by
 rw[NLs,List.getElem?_map,Kj hm (I6 h)];rfl
theorem oB_y{bs:L8}{m:Nat}(h:fQ bs m=1#8):(oB bs (m+1)).length=(oB bs m).length+1:=J5 (I6 h)
theorem oB_n{bs:L8}{m:Nat}(h: ¬fQ bs m=1#8):(oB bs (m+1)).length=(oB bs m).length:=IZ (pb_n h)
theorem AT{bb:Nat}{e:Option Addr}{cap:Nat}{bs:L8}{w w':World}(h:RdD bb e cap bs w)(hg:Grow w w'):RdD bb e cap bs w':=⟨(hg.cell (block_lt_of_cell h.1)).trans h.1,h.2.grow hg⟩
theorem rG(sv:Value)(hs:sv.cells= #[sv])(w:World)(hw:Gt w):CLS 381 [sv].toArray w (λe w'=> ∃b1,e=.returned (.func (.func 383) #[] #[pnt b1])/\Grow w w'/\w.heap.size<=b1/\OwnB w' b1 [sv] 123):=by
 refine Hf func381 O hw<|λhGF=>Xp<|gp 1 hGF O O O<|λb1=>Asg O<|aa<|Xp<|dL O O O O<|Asg O<|aa<|ao<|Rr<|?_;exact au O O (λw hw=>⟨b1,rfl,ae hw,(hw.own 1 b1 _ _ O).2.elim id False.elim,(by have:=(hw.own 1 b1 _ _ O).1;rw[hs]at this;exact this)⟩)
theorem vi(bb:Nat)(e:Option Addr)(cap:Nat)(bs:L8)(hlen:bs.length<=1000000):ju prog Gt 383 [pnt bb] (NLs (oB bs (8*bs.length))) (RdD bb e cap bs):=by
 intro l J Jx hJ hJx hRd hGx hY w hj;have okJ: ∀k,BOk Gt (Bi w (λY=>J Y k)):=λk=>⟨λ_ _ _ h=>(hRd _ _ _ h.rid).1,hJ k⟩;have okX: ∀k,BOk Gt (Bi w (λY=>Jx Y k)):=λk=>⟨λ_ _ _ h=>hGx _ _ _ h.rid,hJx k⟩;have c1: ∀k L w',Hp (Bi w (λY=>J Y k)) L w'->RdD bb e cap bs w':=λk L w' h=>(hRd _ _ _ h.rid).2;have hby:=(hRd _ _ _ hj).2.2;refine ew (G:=Gt) func383 O O (Hp (Bi w (λY=>J Y 0)) []) (cI (Bi w _) hj (hJ 0)) (aT (okJ 0))<|Xp<|aQ O isAgg123 (λw h=>(c1 _ _ w h).1) O O<|bv O (λ_=>aM underlying123 _ _ _ _) O O<|Mv O<|aa<|ar<|jG (ι:={i:Nat // i<=bs.length}) (λx=>[(0,.func (.yield l) #[] #[]),(1,pnt bb),(6,.slice e bs.length cap),(7,I (bs.length:Int)),(8,I (x.1:Int))]) (λx=>Bi w (λY=>J Y (oB bs (8*x.1)).length)) (λx=>[]) (λx=>bs.length-x.1) ⟨0,Nat.zero_le _⟩ (λ_=>okJ _) O trv trivial<|?_;rintro ⟨i,hi⟩;dsimp only;refine Xp<|Bnr O O (λ_=>aI _ _ _)<|aa<|ah<|?_;refine cq O (λhc=> ?_) (λhc=> ?_)
 ·have hi2:i<bs.length:=by simp at hc;omega
  refine aw<|ah<|ar<|Xp<|Mv O<|?_;obtain ⟨ad,rfl,_⟩:=hby i _ (gm U8 bs 0 i om);refine g9 i O O underlying123 sizeOf5 O om O O<|aQ O isAgg5 (λw' h=>by obtain ⟨ad',e',hc'⟩:=(c1 _ _ w' h).2 i _ (gm U8 bs 0 i om);cases e';exact hc') O O<|Asg O<|Asg O<|aa<|Xp<|Asg O<|aa<|ar<|jG (ι:={j:Nat // j<=8}) (λx=>[(0,.func (.yield l) #[] #[]),(1,pnt bb),(6,.slice (some ad) bs.length cap),(7,I (bs.length:Int)),(8,I (i:Int)),(3,I (i:Int)),(4,U8 (bs.getD i 0)),(5,I (7-(x.1:Int)))]) (λx=>Bi w (λY=>J Y (oB bs (8*i+x.1)).length)) (λx=>[]) (λx=>8-x.1) ⟨0,Nat.zero_le _⟩ (λ_=>okJ _) O trv trivial<|?_
  rintro ⟨j,hj⟩;dsimp only;by_cases h1:fQ bs (8*i+j)=1#8
  ·refine ah<|Xp<|Mv O<|Bnr (v:=.bool (decide (j<8))) O O (λ_=>(cY _ _ _).trans (by rw[show decide ((7-(j:Int))>=0)=decide (j<8)from decide_eq_decide.2 om]))<|aa<|?_
   refine cq O (λhc=> ?_) (λhc=> ?_)
   ·have hj2:j<8:=by simpa using hc
    refine aw<|ah<|ar<|Xp<|Mv O<|Mv O<|Bnr (v:=U8 (bs.getD i 0>>>(7-j))) O O (λ_=>(ip _ _ _ om).trans (by rw[show (7-(j:Int)).toNat=7-j by omega]))<|Bnr (v:=U8 (fQ bs (8*i+j))) O O (λ_=>(eu _ _ 1#8).trans (by rw[Fp bs i j hj2]))<|Bnr (v:=.bool true) O O (λw=>(dB _ _ _).trans (congrArg (λb=>Result.ok (Value.bool b) w) (beq_iff_eq.2 h1)))<|Mv O<|Mv O<|aQ O isAgg123 (λw h=>(c1 _ _ w h).1) O O<|bv O (λ_=>aM underlying123 _ _ _ _) O O<|Bnr (v:=I ((bs.length:Int)-1)) O O (λ_=>bu _ _ _ aG)<|Mv O<|Bnr (v:=I ((bs.length-1-i:Nat):Int)) O O (λ_=>(bu _ _ _ aG).trans (by rw[show (bs.length:Int)-1-(i:Int)=((bs.length-1-i:Nat):Int) by omega]))<|Bnr (v:=I ((8*(bs.length-1-i):Nat):Int)) O O (λ_=>(bQ _ _ _ aG).trans (by rw[show (8:Int)*((bs.length-1-i:Nat):Int)=((8*(bs.length-1-i):Nat):Int) by omega]))<|Mv O<|Bnr (v:=I ((8*bs.length-1-(8*i+j):Nat):Int)) O O (λ_=>(ay _ _ _ aG).trans (by rw[show ((8*(bs.length-1-i):Nat):Int)+(7-(j:Int))=((8*bs.length-1-(8*i+j):Nat):Int) by omega]))<|?_
    refine eP (hY.b (k:=(oB bs (8*i+j)).length) (IL om h1) w) (okJ _) (okX _) O O O O O ?_ ?_
    ·refine bU O (λ_=>bM _) O O<|Pk O O O<|aa<|aH O<|aw<|Xq<|Mv O<|Bnr (v:=I (7-((j+1:Nat):Int))) O O (λ_=>(bu _ _ _ aG).trans (by rw[show 7-(j:Int)-1=7-((j+1:Nat):Int) by omega]))<|Asg O<|aa<|?_
     repeat (refine bh ?_)
     refine aV ?_;rw[<-oB_y h1];exact ⟨rfl,⟨j+1,om⟩,_,by show 8-(j+1)<8-j;omega,rfl,trv,trivial⟩
    ·refine bU O (λ_=>bM _) O O<|Pk O O O<|aa<|aP O<|ao<|Rr<|?_
     repeat (first|refine iG ?_|refine gX ?_|refine hH O ?_|refine cT ?_|refine cU ?_)
     exact ei O (λw hw=>⟨⟨_,rfl⟩,.inr ⟨_,cW (hJx _) hw.rid⟩⟩)
   ·obtain rfl:j=8:=by simp at hc;omega
    refine bj<|Xq<|Bnr O O (λ_=>ay _ _ _ aG)<|Mv O<|aa<|?_
    repeat (refine bh ?_)
    exact aV<|⟨rfl,⟨i+1,om⟩,_,by show bs.length-(i+1)<bs.length-i;omega,rfl,trv,trivial⟩
  ·refine ah<|am (E:=EE [3000000])<|Mv O<|Bnr (v:=.bool (decide (j<8))) O O (λ_=>(cY _ _ _).trans (by rw[show decide ((7-(j:Int))>=0)=decide (j<8)from decide_eq_decide.2 om]))<|aa<|?_
   refine cq O (λhc=> ?_) (λhc=> ?_)
   ·have hj2:j<8:=by simpa using hc
    refine aw<|ah<|ar<|am (E:=EE [3000000])<|Mv O<|Mv O<|Bnr (v:=U8 (bs.getD i 0>>>(7-j))) O O (λ_=>(ip _ _ _ om).trans (by rw[show (7-(j:Int)).toNat=7-j by omega]))<|Bnr (v:=U8 (fQ bs (8*i+j))) O O (λ_=>(eu _ _ 1#8).trans (by rw[Fp bs i j hj2]))<|Bnr (v:=.bool false) O O (λw=>(dB _ _ _).trans (congrArg (λb=>Result.ok (Value.bool b) w) (beq_eq_false_iff_ne.2 h1)))<|Mv O<|Sk<|Sk<|Sk<|Sk<|Sk<|Sk<|Sk<|Sk<|Sk<|Sk<|Sk<|Pk O O O<|aa<|aH O<|aw<|cm (E:=EE [3000000])<|Mv O<|Bnr (v:=I (7-((j+1:Nat):Int))) O O (λ_=>(bu _ _ _ aG).trans (by rw[show 7-(j:Int)-1=7-((j+1:Nat):Int) by omega]))<|Asg O<|aa<|?_
    repeat (refine bh ?_)
    refine aV ?_;rw[<-oB_n h1];exact ⟨rfl,⟨j+1,om⟩,_,by show 8-(j+1)<8-j;omega,rfl,trv,trivial⟩
   ·obtain rfl:j=8:=by simp at hc;omega
    refine bj<|cm (E:=EE [3000000])<|Bnr O O (λ_=>ay _ _ _ aG)<|Mv O<|aa<|?_
    repeat (refine bh ?_)
    exact aV<|⟨rfl,⟨i+1,om⟩,_,by show bs.length-(i+1)<bs.length-i;omega,rfl,trv,trivial⟩
 ·obtain rfl:i=bs.length:=by simp at hc;omega
  refine bj ?_
  repeat (first|refine iG ?_|refine gX ?_|refine hH O ?_|refine cT ?_|refine cU ?_)
  refine dU O (λw hw=>⟨⟨_,rfl⟩,.inl ?_⟩);have:=cW (hJ _) hw.rid;rw[wH];exact this
def dbN(x:Zp×Zp×Zp):Nat->Zp×Zp×Zp
 |0=>x
 |n+1=>dbF (dbN x n)
theorem tk(x:Zp×Zp×Zp)(n:Int)(hn:n<=1000000000):PUR 382 [JV x,I n] (JV (dbN x n.toNat)):=by
 intro w hw;refine Hf func382 O hw<|λhGF=>Xp<|Bx 2 hGF O<|λb2=>Al 4 hGF fJ<|λb4=>aa<|ah<|Xp<|Mv O<|Mv O<|aa<|ar<|bV (ι:={i:Nat // i<=n.toNat}) (λy=>[(2,pnt b2),(4,pnt b4),(5,I n),(6,I (y.1:Int))]) (λy=>[(2,b2,(fe ((dbN x y.1).1)++(fe ((dbN x y.1).2.1)++fe ((dbN x y.1).2.2))).map U64,191),(4,b4,(fe 0++(fe 0++fe 0)).map U64,191)]) (λy=>n.toNat-y.1) ⟨0,Nat.zero_le _⟩ hGF trv trv<|?_;rintro ⟨i,hi⟩;dsimp only;refine Xp<|Bnr (v:=.bool (decide ((i:Int)<n))) O O (λ_=>aI _ _ _)<|aa<|ah<|?_;refine cq O (λhc=> ?_) (λhc=> ?_)
 ·have hi2:i<n.toNat:=by simp at hc;omega
  refine aw<|ah<|ar<|Xq<|La 2 O O bF<|Ca O (Jl (dbN x i))<|Sa 2 hGF O O O bF<|aa<|Xq<|Bnr O O (λ_=>ay _ _ _ aG)<|Mv O<|aa<|?_
  repeat (refine bh ?_)
  exact aV<|⟨rfl,⟨i+1,om⟩,_,by show n.toNat-(i+1)<n.toNat-i;omega,rfl,trv,trv⟩
 ·obtain rfl:i=n.toNat:=by simp at hc;omega
  refine bj<|Xp<|La 2 O O bF<|Sa 4 hGF O O O bF<|aa<|ao<|Rr<|?_;exact aF 4 O O O isAgg191 sizeOf191 aB (λw hw=>⟨rfl,ae hw⟩)
theorem jdbN(x:Zp×Zp×Zp)(a:Nat)(ha:a<100000000):PUR 382 [JV x,I (a:Int)] (JV (dbN x a)):=by
 have h:=tk x (a:Int) om;rw[Int.toNat_natCast]at h;exact h
theorem jdbS(x:Zp×Zp×Zp)(a b:Nat)(ha:a<100000000):PUR 382 [JV x,I ((a:Int)-(b:Int))] (JV (dbN x (a-b))):=by
 have h:=tk x ((a:Int)-(b:Int)) om;rw[Int.toNat_sub]at h;exact h
def stp(x:Zp×Zp×Zp)(A:(Zp×Zp×Zp)×Nat)(b:Nat):(Zp×Zp×Zp)×Nat:=(adF (dbN A.1 (A.2-b)) x,b)
def stK(x:Zp×Zp×Zp)(L:List Nat)(k:Nat):(Zp×Zp×Zp)×Nat:=(L.take k).foldl (stp x) ((0,0,0),0)
theorem tP(x:Zp×Zp×Zp){L:List Nat}{k n:Nat}(h:L[k]? =some n):stK x L (k+1)=stp x (stK x L k) n:=by
 rw[stK,List.take_add_one,h,List.foldl_append];rfl
theorem JO(x:Zp×Zp×Zp){L:List Nat}{k n:Nat}(h:L[k]? =some n):(stK x L (k+1)).1=adF (dbN (stK x L k).1 ((stK x L k).2-n)) x:=by rw[tP x h];rfl
theorem Ff(x:Zp×Zp×Zp){L:List Nat}{k n:Nat}(h:L[k]? =some n):(stK x L (k+1)).2=n:=by rw[tP x h];rfl
theorem Ak(x:Zp×Zp×Zp){L:List Nat}{B:Nat}(h0:0<B)(hL: ∀b∈L,b<B): ∀k,k<=L.length->(stK x L k).2<B
 |0,_=>h0
 |k+1,hk=>by
  obtain ⟨n,hn⟩: ∃n,L[k]? =some n:=⟨L[k]'om,List.getElem?_eq_getElem om⟩;rw[Ff x hn];exact hL n (List.mem_of_getElem? hn)
def tmF(x:Zp×Zp×Zp)(L:List Nat):Zp×Zp×Zp:=dbN (stK x L L.length).1 (stK x L L.length).2
theorem CD{L:List Nat}{k:Nat}{v:List Value}(h:(NLs L)[k]? =some v): ∃n:Nat,L[k]? =some n/\[I (n:Int)]=v:=by
 rw[NLs,List.getElem?_map]at h
 cases e:L[k]? with
 |none=>rw[e]at h;cases h
 |some y=>rw[e]at h;exact ⟨y,rfl,Option.some.inj h⟩
theorem r7(x:Zp×Zp×Zp)(gf:Nat)(caps:List Value)(L:List Nat)(Rd:Cls)(he:aJ prog gf)(hseq:ju prog Gt gf caps (NLs L) Rd)(hL: ∀b∈L,b<100000000)(w:World)(hw:Gt w)(hRs: ∀w',Grow w w'->Rd w'):
 CLS 380 [JV x,.func (.func gf) #[] caps.toArray].toArray w (λr w'=>r=.returned (JV (tmF x L))/\Grow w w'):=by
 have hGF:BOk Gt (pl w):=gt_low.plain hw;refine eT (G:=Gt) func380 O O (Hp (pl w) []) (cI (pl w) trivial aL) (aT hGF)<|Xp<|Bx 2 hGF O<|λb2=>Al 4 hGF fJ<|λb4=>aa<|Xp<|Al 5 hGF fJ<|λb5=>aa<|Xp<|oX 6 hGF zeroValue3 O O<|λb6=>cL 6 hGF O O O sizeOf3 O (by first|decide|simp) O<|aa<|ah<|Xp<|Mv O<|aa<|ar<|?_
 refine jL (λ_=>pl w) (λ_ _=>pl w) (λ_=>hGF) (λ_ _=>hGF) (λ_=>rfl) (λ_ _=>rfl) O O he hseq (λx hx=>by obtain ⟨k,hk,rfl⟩:=List.mem_map.1 hx;rfl) O (λk=>[(2,b2,(fe ((x).1)++(fe ((x).2.1)++fe ((x).2.2))).map U64,191),(4,b4,(fe 0++(fe 0++fe 0)).map U64,191),(5,b5,(fe (((stK x L k).1).1)++(fe (((stK x L k).1).2.1)++fe (((stK x L k).1).2.2))).map U64,191),(6,b6,[I ((stK x L k).2:Int)],3)]) (λ_ _ _=>False) trv (λk _ w' h=>hRs w' (h.below (λ_ h=>h))) ?_ ?_ (λ_ _ _ _ _ h=>h.elim)
 ·intro k v hx R hR
  obtain ⟨n,hn,rfl⟩:=CD hx;have hk:k<L.length:=(List.getElem?_eq_some_iff.1 hn).1;have hb:=Ak x om hL k (Nat.le_of_lt hk);have hn2:=hL n (List.mem_of_getElem? hn);refine Xq<|Asg O<|aa<|?_;refine ⟨rfl,_,rfl, ?_⟩;refine ar<|Xd []<|La 5 O O bF<|aU 6 O O O isAgg3 O O<|Mv O<|Bnr (v:=I (((stK x L k).2:Int)-(n:Int))) O O (λ_=>bu _ _ _ aG)<|Ca O (jdbS (stK x L k).1 (stK x L k).2 n hb)<|La 2 O O bF<|Ca O (Mg _ _)<|ai 5 (hR (pl w) O hGF).2.1 O O O sizeOf191 aB aB (aZ _) O<|aa<|Xq<|Mv O<|cL 6 (hR (pl w) O hGF).2.1 O O O sizeOf3 O (by first|decide|simp) O<|aa<|?_
  repeat (refine bh ?_)
  exact ⟨_,rfl,⟨rfl,rfl,by rw[JO x hn];rfl,by rw[Ff x hn];rfl,trivial⟩⟩
 ·intro D hD
  have hb:=Ak x om hL L.length (Nat.le_refl _);rw[wH];refine Xp<|La 5 O O bF<|aU 6 O O O isAgg3 O O<|Ca O (jdbN (stK x L L.length).1 (stK x L L.length).2 hb)<|Sa 4 hD O O O bF<|aa<|ao<|Rr<|?_;exact ii (.inl O) aL (aF 4 O O O isAgg191 sizeOf191 aB (λw hw=>⟨rfl,ae hw⟩))
def mlB(x:Zp×Zp×Zp)(bs:L8):Zp×Zp×Zp:=tmF x (oB bs (8*bs.length))
theorem u9(x:Zp×Zp×Zp)(e:Option Addr)(cap:Nat)(bs:L8)(hlen:bs.length<=1000000)(w:World)(hw:Gt w)(hby:BytesAt w e bs):
 CLS 379 [JV x,.slice e bs.length cap].toArray w (λr w'=>r=.returned (JV (mlB x bs))/\Grow w w'):=by
 refine Hf func379 O hw<|λhGF=>am (E:=EE [381,2000381])<|Bx 2 hGF O<|λb2=>Al 4 hGF fJ<|λb4=>aa<|Xd [381,2000381]<|La 2 O O bF<|Mv O<|?_;refine ff O O ent381 O O (λw' hw'=>(rG _ O w' (hGF.g _ _ _ hw')).mono λe' w'' h=> ?_);obtain ⟨c1,rfl,hg,h1,ho⟩:=h;refine ⟨_,_,rfl,aT hGF,hw'.news aL hg [(33,c1,[.slice e bs.length cap],123)] ?_ de,ef aL O, ?_⟩
 ·intro n' b' c' t' hl
  rcases bx hl with ⟨_,e⟩|⟨_,hl⟩
  ·cases e;exact ⟨h1,ho⟩
  ·cases hl
 clear hw' hg h1 ho;refine Cc O ent380 (λw' hC hG=>r7 x 383 [pnt c1] (oB bs (8*bs.length)) (RdD c1 e cap bs) ent383 (vi c1 e cap bs om) (λb hb=>by have:=JL hb (Nat.le_refl _);omega) w' hG (λw'' hg=>AT ⟨dw (n:=33) O O w' hC,hby.grow (hC.below (λ_ h=>h))⟩ hg))<|Sa 4 hGF O O O bF<|aa<|ao<|Rr<|?_
 exact aF 4 O O O isAgg191 sizeOf191 aB (λw hw=>⟨rfl,ae hw⟩)
def TRB:L8:=[0#8,0#8,0#8,0#8,0#8,0#8,0#8,0#8,95#8,25#8,103#8,47#8,223#8,118#8,206#8,81#8,186#8,105#8,198#8,7#8,106#8,15#8,119#8,234#8,221#8,179#8,169#8,59#8,230#8,248#8,150#8,136#8,222#8,23#8,216#8,19#8,98#8,10#8,0#8,2#8,46#8,1#8,255#8,255#8,255#8,254#8,255#8,254#8]
theorem Mc:FV TRB=zp TRN:=by rw[FV,if_pos ⟨rfl,by decide+kernel⟩,show BN TRB 48=TRN by decide+kernel]
theorem zT{c:Zp}(hc:zp TRN=c)(e:Option Addr)(cap:Nat)(w:World)(hw:Gt w)(hby:BytesAt w e TRB):CLS 190 [.slice e TRB.length cap].toArray w (λr w'=>r=.returned (.tuple #[EV c,.bool (FO TRB)])/\Grow w w'):=by
 have h:=j9 e cap TRB w hw hby;rw[Mc,hc]at h;exact h
def UB8:L8:=[210#8,1#8,0#8,0#8,0#8,1#8,0#8,0#8]
theorem jU{f:Zp×Zp×Zp->Zp×Zp×Zp}(hf: ∀x,mlB x UB8=f x)(x:Zp×Zp×Zp)(b c:Nat)(w:World)(hw:Gt w)(h:w.rangeAt b 0 (UB8.map U8)):CLS 379 [JV x,.slice (spt b) UB8.length c].toArray w (λr w'=>r=.returned (JV (f x))/\Grow w w'):=by
 have k:=u9 x (spt b) c UB8 aC w hw (BytesAt.range h);rw[hf]at k;exact k
def tuJ(c:Zp)(x:Zp×Zp×Zp):Zp×Zp×Zp:=(x.1*c,x.2.1,x.2.2)
abbrev ngJ(x:Zp×Zp×Zp):Zp×Zp×Zp:=(x.1,-x.2.1,x.2.2)
theorem jing{f:Zp×Zp×Zp->Zp×Zp×Zp}(hf: ∀x,mlB x UB8=f x){c:Zp}(hc:zp TRN=c)(x:Zp×Zp×Zp)(hd:Decidable (eqJ (ngJ (f (f x))) (tuJ c x)))(b:Bool)(hb:b=decide (eqJ (ngJ (f (f x))) (tuJ c x))):PUR 377 [JV x] (.bool b):=by
 intro w hw;refine Hf func377 O hw<|λhGF=>am (E:=EE [1000123])<|Bx 1 hGF O<|λb1=>Asg O<|aa<|am (E:=EE [1000123])<|jj 7 TRB hGF O O O aC aC underlying123 sizeOf5 zeroValue5 O O<|λb7=>BI 7 O hGF O O underlying123 underlying5 O O<|Cc O ent190 (λw' hC hG=>zT hc _ _ w' hG (BytesAt.range (hC.own 7 b7 _ _ O).1.range))<|Mv O<|Exq O O<|Exq O O<|Al 3 hGF zv189<|λb3=>Sa 3 hGF O O O aR<|Asg O<|aa<|cJ (E:=EE [1000123,2999999]) [0,1,2,3,4,5,6,7,8] [⟨9,5,191,(fe 0++(fe 0++fe 0)).map U64⟩] [10] db O kr kr kr kr kr kr aC (by intro x hx;simp only[List.mem_cons,List.not_mem_nil,or_false]at hx;subst hx;exact bA O fJ O)<|Fa 0 O underlying191 O sizeOf189<|be 1 _ O O isAgg189 sizeOf189 aB jX O O<|La 3 O O aR<|Ca O (bz _ _)<|Fa 6 O underlying191 O sizeOf189<|be 1 _ O O isAgg189 sizeOf189 aB (kk aB) O O<|Fa 12 O underlying191 O sizeOf189<|be 1 _ O O isAgg189 sizeOf189 aB (dM (m:=6) (n:=6) aB aB O) O O<|ek fT O O O aB aB aB O O<|aa<|?_
 refine ⟨_,_,rfl,hGF,by intro x hx;simp only[List.mem_cons,List.not_mem_nil,or_false]at hx;subst hx;rfl,by intro x hx;simp only[List.mem_cons,List.not_mem_nil,or_false]at hx;subst hx;rfl,λadr=> ?_⟩
 refine Sa 5 hGF O O O bF<|aa<|sp (EE [2999998,2999996,1000123]) db kr kr<|bL (m:=9) [0,8] kr<|La 1 O O bF<|La 5 O O bF<|aa<|jl (m:=8) [1,4] kr kr aC<|?_;intro i hi;simp only[List.mem_cons,List.not_mem_nil,or_false]at hi;rcases hi with rfl|rfl
 ·refine kt 22 UB8 hGF O O O O aC aC underlying123 sizeOf5 zeroValue5 O O<|λb22=>aa<|jl (m:=7) [2,4] kr kr aC<|?_
  intro i hi;simp only[List.mem_cons,List.not_mem_nil,or_false]at hi;rcases hi with rfl|rfl
  ·refine fo 22 O hGF O O underlying123 underlying5 O O<|aa<|bL (m:=6) [3] kr<|Cc O ent379 (λw' hC hG=>jU hf _ _ _ w' hG (av (n:=22) O w' hC))<|aa<|bL (m:=5) [4] kr<|kt 25 UB8 hGF O O O O aC aC underlying123 sizeOf5 zeroValue5 O O<|λb25=>aa<|bL (m:=4) [5] kr<|fo 25 O hGF O O underlying123 underlying5 O O<|aa<|bL (m:=0) [6,7,9,10] kr<|Cc O ent379 (λw' hC hG=>jU hf _ _ _ w' hG (av (n:=25) O w' hC))<|Ca O (uH _)<|Ca O (lg _ _ hd b hb)<|Asg O<|aa<|fZ kr<|aV<|ao<|Rr<|?_
   exact au O O (λw hw=>⟨rfl,ae hw⟩)
  ·refine kt 25 UB8 hGF O O O O aC aC underlying123 sizeOf5 zeroValue5 O O<|λb25=>aa<|jl (m:=6) [2,5] kr kr aC<|?_
   intro i hi;simp only[List.mem_cons,List.not_mem_nil,or_false]at hi;rcases hi with rfl|rfl
   ·refine fo 22 O hGF O O underlying123 underlying5 O O<|aa<|bL (m:=5) [3] kr<|Cc O ent379 (λw' hC hG=>jU hf _ _ _ w' hG (av (n:=22) O w' hC))<|aa<|bL (m:=4) [5] kr<|fo 25 O hGF O O underlying123 underlying5 O O<|aa<|bL (m:=0) [6,7,9,10] kr<|Cc O ent379 (λw' hC hG=>jU hf _ _ _ w' hG (av (n:=25) O w' hC))<|Ca O (uH _)<|Ca O (lg _ _ hd b hb)<|Asg O<|aa<|fZ kr<|aV<|ao<|Rr<|?_
    exact au O O (λw hw=>⟨rfl,ae hw⟩)
   ·refine fo 25 O hGF O O underlying123 underlying5 O O<|aa<|bL (m:=5) [2] kr<|fo 22 O hGF O O underlying123 underlying5 O O<|aa<|bL (m:=0) [3,6,7,9,10] kr<|Cc O ent379 (λw' hC hG=>jU hf _ _ _ w' hG (av (n:=22) O w' hC))<|Cc O ent379 (λw' hC hG=>jU hf _ _ _ w' hG (av (n:=25) O w' hC))<|Ca O (uH _)<|Ca O (lg _ _ hd b hb)<|Asg O<|aa<|fZ kr<|aV<|ao<|Rr<|?_
    exact au O O (λw hw=>⟨rfl,ae hw⟩)
 ·refine kt 25 UB8 hGF O O O O aC aC underlying123 sizeOf5 zeroValue5 O O<|λb25=>aa<|jl (m:=7) [1,5] kr kr aC<|?_
  intro i hi;simp only[List.mem_cons,List.not_mem_nil,or_false]at hi;rcases hi with rfl|rfl
  ·refine kt 22 UB8 hGF O O O O aC aC underlying123 sizeOf5 zeroValue5 O O<|λb22=>aa<|jl (m:=6) [2,5] kr kr aC<|?_
   intro i hi;simp only[List.mem_cons,List.not_mem_nil,or_false]at hi;rcases hi with rfl|rfl
   ·refine fo 22 O hGF O O underlying123 underlying5 O O<|aa<|bL (m:=5) [3] kr<|Cc O ent379 (λw' hC hG=>jU hf _ _ _ w' hG (av (n:=22) O w' hC))<|aa<|bL (m:=4) [5] kr<|fo 25 O hGF O O underlying123 underlying5 O O<|aa<|bL (m:=0) [6,7,9,10] kr<|Cc O ent379 (λw' hC hG=>jU hf _ _ _ w' hG (av (n:=25) O w' hC))<|Ca O (uH _)<|Ca O (lg _ _ hd b hb)<|Asg O<|aa<|fZ kr<|aV<|ao<|Rr<|?_
    exact au O O (λw hw=>⟨rfl,ae hw⟩)
   ·refine fo 25 O hGF O O underlying123 underlying5 O O<|aa<|bL (m:=5) [2] kr<|fo 22 O hGF O O underlying123 underlying5 O O<|aa<|bL (m:=0) [3,6,7,9,10] kr<|Cc O ent379 (λw' hC hG=>jU hf _ _ _ w' hG (av (n:=22) O w' hC))<|Cc O ent379 (λw' hC hG=>jU hf _ _ _ w' hG (av (n:=25) O w' hC))<|Ca O (uH _)<|Ca O (lg _ _ hd b hb)<|Asg O<|aa<|fZ kr<|aV<|ao<|Rr<|?_
    exact au O O (λw hw=>⟨rfl,ae hw⟩)
  ·refine fo 25 O hGF O O underlying123 underlying5 O O<|aa<|bL (m:=6) [1] kr<|kt 22 UB8 hGF O O O O aC aC underlying123 sizeOf5 zeroValue5 O O<|λb22=>aa<|bL (m:=5) [2] kr<|fo 22 O hGF O O underlying123 underlying5 O O<|aa<|bL (m:=0) [3,6,7,9,10] kr<|Cc O ent379 (λw' hC hG=>jU hf _ _ _ w' hG (av (n:=22) O w' hC))<|Cc O ent379 (λw' hC hG=>jU hf _ _ _ w' hG (av (n:=25) O w' hC))<|Ca O (uH _)<|Ca O (lg _ _ hd b hb)<|Asg O<|aa<|fZ kr<|aV<|ao<|Rr<|?_
   exact au O O (λw hw=>⟨rfl,ae hw⟩)
def gl:GP:=⟨(0,0,0),none,True.intro,rfl⟩
def Mu(p q:GP):GP:=⟨adF p.J q.J,E1.ad p.P q.P,E1.ad_on p.on q.on,Gi p.on q.on p.jr q.jr⟩
def Dy(p:GP):GP:=⟨(p.J.1,-p.J.2.1,p.J.2.2),E1.ne p.P,E1.ne_on p.on,E1.jr_n p.jr⟩
theorem I1(x y:Zp):E1.jr (x,y,1) (some (x,y)):=E1.jr_at (x,y) DA
def EP(x:Zp)(l:Bool)(h:LQ x):GP:=⟨(x,LY x l,1),some (x,LY x l),K0 h l,I1 x (LY x l)⟩
theorem zv191(w:World):(zeroValue 191).run prog w=.ok (PtV gl) w:=fJ w
theorem sJ  :PUR 160 [] (PtV gl):=jinf
theorem vp(p:GP):PUR 161 [PtV p] (.bool (decide (p.P=none))):=by
 have h:=dC p.J;rw[show decide (p.J.2.2=0)=decide (p.P=none)from decide_eq_decide.2 (E1.jr_z p.jr)]at h;exact h
theorem DX(p q:GP):PUR 376 [PtV p,PtV q] (.bool (decide (p.P=q.P))):= 
 have hd:Decidable (eqJ p.J q.J):=decidable_of_iff _ (xd p.jr q.jr).symm
 lg p.J q.J hd _ (decide_eq_decide.2 (xd p.jr q.jr).symm)
theorem JN(p q:GP):PUR 375 [PtV p,PtV q] (PtV (Mu p q)):=Mg p.J q.J
theorem Mf(p:GP):PUR 166 [PtV p] (PtV (Dy p)):=uH p.J
theorem Et{a:Zp}(h:LQ a):PUR 214 [EV (RS4 a)] (.tuple #[EV (SQ (RS4 a)),.bool true]):=decide_eq_true h▸oF (RS4 a)
theorem wo{x y:Zp}{l:Bool}(h:LQ x)(e:LY x l=y)(k:PUR 192 [EV x,.bool l] (.tuple #[JV (x,y,1),.bool true])):PUR 192 [EV x,.bool l] (.tuple #[PtV (EP x l h),.bool true]):=by
 subst e;exact k
theorem Fj{a:Zp}(h: ¬LQ a):PUR 214 [EV (RS4 a)] (.tuple #[EV (SQ (RS4 a)),.bool false]):=decide_eq_false h▸oF (RS4 a)
theorem Ha(x:Zp)(l:Bool)(h:LQ x):PUR 192 [EV x,.bool l] (.tuple #[PtV (EP x l h),.bool true]):=by
 cases l with
 |true=>exact wo h (LY_t h) (AC x _ (Et h))
 |false=>exact wo h (LY_f h) (zw x _ (Et h))
theorem Il(x:Zp)(l:Bool)(h: ¬LQ x):PUR 192 [EV x,.bool l] (.tuple #[PtV gl,.bool false]):=by
 cases l with
 |true=>exact Az x _ (Fj h)
 |false=>exact yM x _ (Fj h)
end J1
end
section
open Go.RowKit
attribute [local simp] dO fH bN bq dr cx cy bX dV PLl mr mD N1l lO lT mA eI f7 iV jb jH J1.rD
theorem ti5k:TI prog 5 (.int .u8 0) 1 1:=l8 kr
def FG(bs:L8):BitVec 8:=bs.getD 0 0 &&& 224#8
def MK(bs:L8):L8:=bs.set 0 (bs.getD 0 0 &&& 31#8)
theorem f8(bs:L8):(MK bs).length=bs.length:=by simp[MK]
attribute [local simp] f8
theorem mJ{w:World}{b:Nat}{c:List Value}{xs:L8}(h:w.rangeAt b 0 c)(ht:c.take xs.length=xs.map U8):BytesAt w (spt b) xs:=λj v hv=>by
 have hj:j<xs.length:=by have:=(List.getElem?_eq_some_iff.1 hv).1;simpa using this
 refine ⟨_,rfl, ?_⟩;have h2:c[j]? =some v:=by rw[<-hv,<-ht,List.getElem?_take,if_pos hj]
 rw[Addr.add_mid];exact h j v h2
theorem ent191:aJ prog 191:=λ_ _=>kr
theorem ent209:aJ prog 209:=λ_ _=>kr
theorem ent189:aJ prog 189:=λ_ _=>kr
theorem ent159:aJ prog 159:=λ_ _=>kr
theorem ent195:aJ prog 195:=λ_ _=>kr
theorem Ev{bs:L8}(h:0<bs.length):[bs.getD 0 0 &&& 31#8]++bs.drop 1=MK bs:=by
 cases bs with
 |nil=>cases h
 |cons a r=>rfl
theorem BytesAt.tail{w:World}{a:Option Addr}{rs:L8}(h:BytesAt w a rs):BytesAt w (if rs.length=1 then a else a.map (·.add (1*1))) (rs.drop 1):=by
 have e:=h.cut (cap:=rs.length) 1 rs.length (Nat.le_refl _);rw[List.take_of_length_le (by rw[List.length_drop];omega)]at e
 exact e
theorem BG(e:Option Addr)(cap:Nat)(bs:L8)(h0:0<bs.length)(hl:bs.length<=1000)(hcap:bs.length<=cap)(w:World)(hw:Gt w)(hby:BytesAt w e bs):CLS 191 [.slice e bs.length cap].toArray w (λr w'=> ∃b7 c7 k7,r=.returned (.slice (spt b7) bs.length k7)/\Grow w w'/\w.heap.size<=b7/\OwnB w' b7 c7 5/\c7.take bs.length=(MK bs).map U8/\bs.length<=k7):=by
 refine Hf func191 O hw<|λhGF=>Xp<|Asg O<|aa<|oW (E:=EE []) [0,1,2,3,5,6,7,8,9,10,4,11,12] db O kr kr kr<|Mv O<|?_;obtain ⟨ad,rfl,_⟩:=hby 0 _ (gm U8 bs 0 0 om);refine g9 0 O O underlying123 sizeOf5 O om O O<|aQ O isAgg5 (λw' h=>by obtain ⟨ad',e,hc⟩:=(hby.grow (ae h)) 0 _ (gm U8 bs 0 0 om);cases e;exact hc) O O<|Bnr (v:=U8 (bs.getD 0 0 &&& 31#8)) O O (λ_=>qc _ _ 224#8)<|Mv O<|Mv O<|bv O (λ_=>aM underlying123 _ _ _ _) O O<|Mv O<|bv O (λ_=>aM underlying123 _ _ _ _) O O<|oC (l:=1) (h':=bs.length) (m:=bs.length) O underlying123 sizeOf5 O O O ⟨om,Nat.le_refl _,hcap⟩ O O<|jj 7 [bs.getD 0 0 &&& 31#8] hGF O O O aC aC underlying123 sizeOf5 zeroValue5 O O<|?_
 intro b7;refine d6 (xs:=[bs.getD 0 0 &&& 31#8]) (ys:=bs.drop 1) 7 hGF O (by rw[List.length_drop];rfl) underlying123 underlying123 ti5k (.inr ⟨b7,_,rfl,rfl,rfl,Nat.le_refl _,rfl⟩) (λw' h=>(hby.grow (ae h)).tail) (by simp;omega) O O (λh0=>absurd h0 (List.cons_ne_nil _ _)) (λb8 c8 k8 q1 q2 q3=> ?_)
 rw[Ev h0]at q2 q3;rw[f8]at q2 q3;refine Asg O<|aa<|ao<|Rr<|?_;exact au O O (λw hw=>⟨b8,c8,k8,by rw[Ev h0,f8],ae hw,(hw.own 7 b8 _ _ O).2.elim id False.elim,(hw.own 7 b8 _ _ O).1,q3,q2⟩)
def NQ(bs:L8):Bool:=decide (∀j,j<bs.length->bs.getD j 0=0#8)
theorem LM{bs:L8}(h: ∀j,j<bs.length->bs.getD j 0=0#8):NQ bs=true:=decide_eq_true h
theorem NQ_f{bs:L8}{i:Nat}(hi:i<bs.length)(h: ¬bs.getD i 0=0#8):NQ bs=false:=decide_eq_false (λk=>h (k i hi))
theorem AN(e:Option Addr)(cap:Nat)(bs:L8)(hL:bs.length<=1000)(w:World)(hw:Gt w)(hby:BytesAt w e bs):CLS 209 [.slice e bs.length cap].toArray w (λr w'=>r=.returned (.bool (NQ bs))/\Grow w w'):=by
 refine Hf func209 O hw<|λhGF=>Xp<|Asg O<|aa<|ah<|Xp<|Mv O<|bv O (λ_=>aM underlying123 _ _ _ _) O O<|Mv O<|aa<|ar<|bV (ι:={i:Nat // i<=bs.length/\∀j,j<i->bs.getD j 0=0#8}) (λy=>[(5,.slice e bs.length cap),(6,I (bs.length:Int)),(7,I (y.1:Int))]) (λy=>[]) (λy=>bs.length-y.1) ⟨0,Nat.zero_le _,λ_ h=>absurd h (Nat.not_lt_zero _)⟩ hGF trv trivial<|?_;rintro ⟨i,hi,hall⟩;dsimp only;by_cases hz:bs.getD i 0=0#8
 ·refine Xp<|Bnr O O (λ_=>aI _ _ _)<|aa<|ah<|?_
  refine cq O (λhc=> ?_) (λhc=> ?_)
  ·have hi2:i<bs.length:=by simp at hc;omega
   refine aw<|ah<|ar<|Xp<|?_;obtain ⟨ad,rfl,_⟩:=hby i _ (gm U8 bs 0 i om);refine g9 i O O underlying123 sizeOf5 O om O O<|aQ (v:=U8 (bs.getD i 0)) O isAgg5 (λw' h=>by obtain ⟨ad',e,hc⟩:=(hby.grow (ae h)) i _ (gm U8 bs 0 i om);cases e;exact hc) O O<|Asg O<|aa<|Xp<|Mv O<|Bnb false O O (λ_=>fw _ _ 0#8) (bne_eq_false_iff_eq.2 hz)<|aa<|aH O<|aw<|Xq<|Bnr O O (λ_=>ay _ _ _ aG)<|Mv O<|aa<|?_
   repeat (refine bh ?_)
   refine aV ?_;have hall': ∀j,j<i+1->bs.getD j 0=0#8:=λj hj=>by
    rcases Nat.lt_or_ge j i with h|h
    ·exact hall j h
    ·obtain rfl:j=i:=om
     exact hz
   exact ⟨rfl,⟨i+1,om,hall'⟩,_,by show bs.length-(i+1)<bs.length-i;omega,rfl,trv,trivial⟩
  ·obtain rfl:i=bs.length:=by simp at hc;omega
   refine bj<|Xp<|Asg O<|aa<|ao<|Rr<|?_;exact au O O (λw hw=>⟨by rw[LM hall];rfl,ae hw⟩)
 ·refine Xp<|Bnr O O (λ_=>aI _ _ _)<|aa<|ah<|?_
  refine cq O (λhc=> ?_) (λhc=> ?_)
  ·have hi2:i<bs.length:=by simp at hc;omega
   refine aw<|ah<|ar<|Xp<|?_;obtain ⟨ad,rfl,_⟩:=hby i _ (gm U8 bs 0 i om);refine g9 i O O underlying123 sizeOf5 O om O O<|aQ (v:=U8 (bs.getD i 0)) O isAgg5 (λw' h=>by obtain ⟨ad',e,hc⟩:=(hby.grow (ae h)) i _ (gm U8 bs 0 i om);cases e;exact hc) O O<|Asg O<|aa<|Xp<|Mv O<|Bnb true O O (λ_=>fw _ _ 0#8) (bne_iff_ne.2 hz)<|aa<|aP O<|Xp<|Asg O<|aa<|ao<|Rr<|?_
   exact au O O (λw hw=>⟨by rw[NQ_f hi2 hz];rfl,ae hw⟩)
  ·obtain rfl:i=bs.length:=by simp at hc;omega
   refine bj<|Xp<|Asg O<|aa<|ao<|Rr<|?_;exact au O O (λw hw=>⟨by rw[LM hall];rfl,ae hw⟩)
theorem ta(b k len:Nat)(c:List Value)(bs:L8)(hn:bs.length=len)(hL:len<=1000)(q:Bool)(hq:NQ bs=q)(w:World)(hw:Gt w)(h:w.rangeAt b 0 c)(ht:c.take bs.length=bs.map U8):CLS 209 [.slice (spt b) len k].toArray w (λr w'=>r=.returned (.bool q)/\Grow w w'):=by
 subst hn;subst hq;exact AN _ k bs hL w hw (mJ h ht)
def RdV(bs:L8)(N:Nat)(f:BitVec 8)(c:Int):Prop:=(¬bs.length=N/\f=0#8/\c=100)\/(bs.length=N/\((FG bs=128#8/\f=FG bs/\c=0)\/(¬FG bs=128#8/\((FG bs=160#8/\f=FG bs/\c=0)\/(¬FG bs=160#8/\((FG bs=192#8/\((NQ (MK bs)=true/\f=FG bs/\c=0)\/(NQ (MK bs)=false/\f=0#8/\c=101)))\/(¬FG bs=192#8/\f=0#8/\c=101)))))))
theorem sC(e:Option Addr)(cap N:Nat)(bs:L8)(h0:0<N)(hL:N<=1000)(hcap:bs.length<=cap)(f:BitVec 8)(c:Int)(h:RdV bs N f c)(w:World)(hw:Gt w)(hby:BytesAt w e bs):
 CLS 189 [.slice e bs.length cap,I (N:Int)].toArray w (λr w'=>r=.returned (.tuple #[U8 f,I c])/\Grow w w'):=by
 refine Hf func189 O hw<|λhGF=>am (E:=EE [191,2000191])<|Asg O<|Asg O<|aa<|ah<|am (E:=EE [191,2000191])<|Mv O<|bv O (λ_=>aM underlying123 _ _ _ _) O O<|Mv O<|?_;rcases h with ⟨hN,rfl,rfl⟩|⟨hN,h⟩
 ·refine Bnb true O O (λ_=>cC _ _ _) (bne_iff_ne.2 om)<|aa<|aP O<|am (E:=EE [191,2000191])<|Asg O<|Asg O<|aa<|ao<|Rr<|?_
  exact i5 O O O (λw hw=>⟨rfl,ae hw⟩)
 ·refine Bnb false O O (λ_=>cC _ _ _) (bne_eq_false_iff_eq.2 om)<|aa<|aH O<|aw<|ah<|am (E:=EE [191,2000191])<|Mv O<|?_
  obtain ⟨ad,he,_⟩:=hby 0 _ (gm U8 bs 0 0 om);refine g9 (ad:=ad) 0 (by rw[<-he];rfl) O underlying123 sizeOf5 O om O O<|aQ (v:=U8 (bs.getD 0 0)) O isAgg5 (λw' h=>by obtain ⟨ad',e',hc⟩:=(hby.grow (ae h)) 0 _ (gm U8 bs 0 0 om);rw[he]at e';cases e';exact hc) O O<|Bnr (v:=U8 (FG bs)) O O (λ_=>eu _ _ 224#8)<|Asg O<|aa<|am (E:=EE [191,2000191])<|Mv O<|aa<|ar<|ah<|am (E:=EE [191,2000191])<|?_
  rcases h with ⟨hf,rfl,rfl⟩|⟨hf,h⟩
  ·refine Bnb true O O (λ_=>dB _ _ 128#8) (beq_iff_eq.2 hf)<|Asg O<|aa<|aP O<|aw<|aP O<|am (E:=EE [191,2000191])<|Mv O<|Asg O<|Asg O<|aa<|ao<|Rr<|?_
   exact i5 O O O (λw hw=>⟨rfl,ae hw⟩)
  ·refine Bnb false O O (λ_=>dB _ _ 128#8) (beq_eq_false_iff_ne.2 hf)<|Asg O<|aa<|aH O<|cm (E:=EE [191,2000191])<|?_
   rcases h with ⟨hf,rfl,rfl⟩|⟨hf,h⟩
   ·refine Bnb true O O (λ_=>dB _ _ 160#8) (beq_iff_eq.2 hf)<|Asg O<|aa<|aP O<|am (E:=EE [191,2000191])<|Mv O<|Asg O<|Asg O<|aa<|ao<|Rr<|?_
    exact i5 O O O (λw hw=>⟨rfl,ae hw⟩)
   ·refine Bnb false O O (λ_=>dB _ _ 160#8) (beq_eq_false_iff_ne.2 hf)<|Asg O<|aa<|aH O<|am (E:=EE [191,2000191])<|?_
    rcases h with ⟨hf,h⟩|⟨hf,rfl,rfl⟩
    ·refine Bnb true O O (λ_=>dB _ _ 192#8) (beq_iff_eq.2 hf)<|Asg O<|aa<|aP O<|am (E:=EE [191,2000191])<|Mv O<|?_
     refine ff O O ent191 O O (λw' hw'=>(BG e cap bs om om hcap w' (hGF.g _ _ _ hw') (hby.grow (ae hw'))).mono λe' w'' h=> ?_);obtain ⟨b7,c7,k7,rfl,hg,hb7,hob,q3,q2⟩:=h;refine ⟨_,_,rfl,aT hGF,hw'.news aL hg [(33,b7,c7,5)] ?_ de,ef aL O, ?_⟩
     ·intro n' b' c' t' hl
      rcases bx hl with ⟨_,e⟩|⟨_,hl⟩
      ·cases e;exact ⟨hb7,hob⟩
      ·cases hl
     clear hw' hg hb7 hob;rcases h with ⟨hq,rfl,rfl⟩|⟨hq,rfl,rfl⟩
     ·refine Cc O ent209 (λw' hC hG=>ta b7 k7 bs.length c7 (MK bs) (f8 bs) om true hq w' hG (av (n:=33) O w' hC) (by rw[f8];exact q3))<|aa<|aP O<|am (E:=EE [191,2000191])<|Mv O<|Asg O<|Asg O<|aa<|ao<|Rr<|?_
      exact i5 O O O (λw hw=>⟨rfl,ae hw⟩)
     ·refine Cc O ent209 (λw' hC hG=>ta b7 k7 bs.length c7 (MK bs) (f8 bs) om false hq w' hG (av (n:=33) O w' hC) (by rw[f8];exact q3))<|aa<|aH O<|aw<|am (E:=EE [191,2000191])<|Asg O<|Asg O<|aa<|ao<|Rr<|?_
      exact i5 O O O (λw hw=>⟨rfl,ae hw⟩)
    ·refine Bnb false O O (λ_=>dB _ _ 192#8) (beq_eq_false_iff_ne.2 hf)<|Asg O<|aa<|aH O<|aw<|am (E:=EE [191,2000191])<|Asg O<|Asg O<|aa<|ao<|Rr<|?_
     exact i5 O O O (λw hw=>⟨rfl,ae hw⟩)
theorem uT:qf prog 191 "Neg" 166:=λ_ _=>kr
theorem lA:qf prog 191 "Equal" 376:=λ_ _=>kr
theorem fX:qf prog 191 "InGroup" 377:=λ_ _=>kr
theorem u7(p t:J1.GP)(f:BitVec 8)(c:Int)(bE bG:Bool)(hE:PUR 376 [J1.PtV p,J1.PtV (J1.Dy p)] (.bool bE))(hG:PUR 377 [J1.PtV p] (.bool bG))(h:(¬f &&& 32#8=0#8/\((bE=true/\t=J1.gl/\c=103)\/(bE=false/\((bG=false/\t=J1.gl/\c=104)\/(bG=true/\p=t/\c=0)))))\/(f &&& 32#8=0#8/\((bG=false/\t=J1.gl/\c=104)\/(bG=true/\p=t/\c=0)))):PUR 193 [J1.PtV p,.bool true,U8 f] (.tuple #[J1.PtV t,I c]):=by
 intro w hw;refine Hf func193 O hw<|λhGF=>Xp<|Bx 3 hGF O<|λb3=>Al 6 hGF J1.zv191<|λb6=>Asg O<|aa<|Xp<|Al 8 hGF J1.zv191<|λb8=>aa<|ah<|ar<|Xp<|Mv O<|bU O (λ_=>bM _) O O<|Asg O<|aa<|aH O<|Xd []<|Mv O<|Bnr (v:=U8 (f &&& 32#8)) O O (λ_=>eu _ _ 32#8)<|?_;rcases h with ⟨hf,h⟩|⟨hf,h⟩
 ·refine Bnb true O O (λ_=>fw _ _ 0#8) (bne_iff_ne.2 hf)<|Mv O<|La 3 O O bF<|ly O underlying191 O O<|La 3 O O bF<|ly O underlying191 O O<|ud O O uT O ent166 (J1.Mf p) O O<|?_
  rcases h with ⟨rfl,rfl,rfl⟩|⟨rfl,h⟩
  ·refine kJ true O O lA O ent376 hE O O O<|Pk O O O<|Asg O<|aa<|aP O<|Xp<|La 8 O O bF<|Sa 6 hGF O O O bF<|Asg O<|aa<|ao<|Rr<|?_
   exact cg 6 O O O O isAgg191 sizeOf191 aB (λw hw=>⟨rfl,ae hw⟩)
  ·refine kJ false O O lA O ent376 hE O O O<|Pk O O O<|Asg O<|aa<|aH O<|Xp<|La 3 O O bF<|ly O underlying191 O O<|?_
   rcases h with ⟨rfl,rfl,rfl⟩|⟨rfl,rfl,rfl⟩
   ·refine kJ false O O fX O ent377 hG O O O<|bU O (λ_=>bM _) O O<|Asg O<|aa<|aP O<|Xp<|La 8 O O bF<|Sa 6 hGF O O O bF<|Asg O<|aa<|ao<|Rr<|?_
    exact cg 6 O O O O isAgg191 sizeOf191 aB (λw hw=>⟨rfl,ae hw⟩)
   ·refine kJ true O O fX O ent377 hG O O O<|bU O (λ_=>bM _) O O<|Asg O<|aa<|aH O<|aw<|Xp<|La 3 O O bF<|Sa 6 hGF O O O bF<|Asg O<|aa<|ao<|Rr<|?_
    exact cg 6 O O O O isAgg191 sizeOf191 aB (λw hw=>⟨rfl,ae hw⟩)
 ·refine Bnb false O O (λ_=>fw _ _ 0#8) (bne_eq_false_iff_eq.2 hf)<|Mv O<|Sk<|Sk<|Sk<|Sk<|Sk<|Sk<|Pk O O O<|Asg O<|aa<|aH O<|Xp<|La 3 O O bF<|ly O underlying191 O O<|?_
  rcases h with ⟨rfl,rfl,rfl⟩|⟨rfl,rfl,rfl⟩
  ·refine kJ false O O fX O ent377 hG O O O<|bU O (λ_=>bM _) O O<|Asg O<|aa<|aP O<|Xp<|La 8 O O bF<|Sa 6 hGF O O O bF<|Asg O<|aa<|ao<|Rr<|?_
   exact cg 6 O O O O isAgg191 sizeOf191 aB (λw hw=>⟨rfl,ae hw⟩)
  ·refine kJ true O O fX O ent377 hG O O O<|bU O (λ_=>bM _) O O<|Asg O<|aa<|aH O<|aw<|Xp<|La 3 O O bF<|Sa 6 hGF O O O bF<|Asg O<|aa<|ao<|Rr<|?_
   exact cg 6 O O O O isAgg191 sizeOf191 aB (λw hw=>⟨rfl,ae hw⟩)
theorem He(p:J1.GP)(f:BitVec 8):PUR 193 [J1.PtV p,.bool false,U8 f] (.tuple #[J1.PtV J1.gl,I 103]):=by
 intro w hw;refine Hf func193 O hw<|λhGF=>Xp<|Bx 3 hGF O<|λb3=>Al 6 hGF J1.zv191<|λb6=>Asg O<|aa<|Xp<|Al 8 hGF J1.zv191<|λb8=>aa<|ah<|ar<|Xp<|Mv O<|bU O (λ_=>bM _) O O<|Asg O<|aa<|aP O<|Xp<|La 8 O O bF<|Sa 6 hGF O O O bF<|Asg O<|aa<|ao<|Rr<|?_;exact cg 6 O O O O isAgg191 sizeOf191 aB (λw hw=>⟨rfl,ae hw⟩)
theorem FY(p:J1.GP)(f:BitVec 8): ∃t c,PUR 193 [J1.PtV p,.bool true,U8 f] (.tuple #[J1.PtV t,I c]):=by
 obtain ⟨bE,hE⟩: ∃b,PUR 376 [J1.PtV p,J1.PtV (J1.Dy p)] (.bool b):=⟨_,J1.DX p (J1.Dy p)⟩;obtain ⟨bG,hG⟩: ∃b,PUR 377 [J1.PtV p] (.bool b):=⟨_,J1.jing (λ_=>rfl) O p.J (Classical.propDecidable _) _ O⟩;have grp: ∃(t:J1.GP) (c:Int),((bG=false/\t=J1.gl/\c=104)\/(bG=true/\p=t/\c=0)):=by
  cases bG with
  |false=>exact ⟨_,_,.inl ⟨rfl,rfl,rfl⟩⟩
  |true=>exact ⟨_,_,.inr ⟨rfl,rfl,rfl⟩⟩
 by_cases hf:f &&& 32#8=0#8
 ·obtain ⟨t,c,k⟩:=grp
  exact ⟨t,c,u7 p t f c bE bG hE hG (.inr ⟨hf,k⟩)⟩
 ·cases bE with
  |true=>exact ⟨J1.gl,103,u7 p _ f _ true bG hE hG (.inl ⟨hf,.inl ⟨rfl,rfl,rfl⟩⟩)⟩
  |false=>
   obtain ⟨t,c,k⟩:=grp;exact ⟨t,c,u7 p t f c false bG hE hG (.inl ⟨hf,.inr ⟨rfl,k⟩⟩)⟩
theorem Fw(a:Option Addr)(len k:Nat)(xs:L8)(h48:xs.length=48)(hn:len=48)(hl:BN xs 48<PP)(x:Zp)(hx:zp (BN xs 48)=x)(w:World)(hw:Gt w)(hby:BytesAt w a xs):CLS 190 [.slice a len k].toArray w (λr w'=>r=.returned (.tuple #[EV x,.bool true])/\Grow w w'):=by
 have h:=j9 a k xs w hw hby;rw[h48,show FV xs=x from (if_pos ⟨h48,hl⟩).trans hx,show FO xs=true from decide_eq_true ⟨h48,hl⟩]at h;subst hn;exact h
theorem HY(a:Option Addr)(len k:Nat)(xs:L8)(h48:xs.length=48)(hn:len=48)(hl: ¬BN xs 48<PP)(w:World)(hw:Gt w)(hby:BytesAt w a xs):CLS 190 [.slice a len k].toArray w (λr w'=>r=.returned (.tuple #[EV 0,.bool false])/\Grow w w'):=by
 have h:=j9 a k xs w hw hby;rw[h48,show FV xs=0 from if_neg (λe=>hl e.2),show FO xs=false from decide_eq_false (λe=>hl e.2)]at h;subst hn;exact h
def DW(bs:L8)(t:J1.GP)(c:Int):Prop:= ∃f k,RdV bs 48 f k/\((¬k=0/\t=J1.gl/\c=k)\/(k=0/\((¬f &&& 64#8=0#8/\t=J1.gl/\c=0)\/(f &&& 64#8=0#8/\bs.length=48/\
 ((¬BN (MK bs) 48<PP/\t=J1.gl/\c=102)\/(BN (MK bs) 48<PP/\∃p ok,PUR 192 [EV (zp (BN (MK bs) 48)),.bool (f &&& 32#8 !=0#8)] (.tuple #[J1.PtV p,.bool ok])/\PUR 193 [J1.PtV p,.bool ok,U8 f] (.tuple #[J1.PtV t,I c])))))))
theorem FQ(x:Zp)(l:Bool): ∃p ok,PUR 192 [EV x,.bool l] (.tuple #[J1.PtV p,.bool ok]):=by
 by_cases h:J1.LQ x
 ·exact ⟨_,_,J1.Ha x l h⟩
 ·exact ⟨_,_,J1.Il x l h⟩
theorem GO(bs:L8)(N:Nat): ∃f k,RdV bs N f k/\(k=0->bs.length=N):=by
 by_cases hN:bs.length=N
 ·by_cases h1:FG bs=128#8
  ·exact ⟨_,_,.inr ⟨hN,.inl ⟨h1,rfl,rfl⟩⟩,λ_=>hN⟩
  ·by_cases h2:FG bs=160#8
   ·exact ⟨_,_,.inr ⟨hN,.inr ⟨h1,.inl ⟨h2,rfl,rfl⟩⟩⟩,λ_=>hN⟩
   ·by_cases h3:FG bs=192#8
    ·cases q:NQ (MK bs)with
     |true=>exact ⟨_,_,.inr ⟨hN,.inr ⟨h1,.inr ⟨h2,.inl ⟨h3,.inl ⟨q,rfl,rfl⟩⟩⟩⟩⟩,λ_=>hN⟩
     |false=>exact ⟨_,_,.inr ⟨hN,.inr ⟨h1,.inr ⟨h2,.inl ⟨h3,.inr ⟨q,rfl,rfl⟩⟩⟩⟩⟩,λ_=>hN⟩
    ·exact ⟨_,_,.inr ⟨hN,.inr ⟨h1,.inr ⟨h2,.inr ⟨h3,rfl,rfl⟩⟩⟩⟩,λ_=>hN⟩
 ·exact ⟨0#8,100,.inl ⟨hN,rfl,rfl⟩,λh=>by cases h⟩
theorem dw_e(bs:L8): ∃t c,DW bs t c:=by
 obtain ⟨f,k,hr,hk⟩:=GO bs 48;by_cases h0:k=0
 ·by_cases h6:f &&& 64#8=0#8
  ·by_cases hp:BN (MK bs) 48<PP
   ·obtain ⟨p,ok,hl⟩:=FQ (zp (BN (MK bs) 48)) (f &&& 32#8 !=0#8)
    cases ok with
    |true=>
     obtain ⟨t,c,hs⟩:=FY p f;exact ⟨t,c,f,k,hr,.inr ⟨h0,.inr ⟨h6,hk h0,.inr ⟨hp,p,true,hl,hs⟩⟩⟩⟩
    |false=>exact ⟨_,_,f,k,hr,.inr ⟨h0,.inr ⟨h6,hk h0,.inr ⟨hp,p,false,hl,He p f⟩⟩⟩⟩
   ·exact ⟨_,_,f,k,hr,.inr ⟨h0,.inr ⟨h6,hk h0,.inl ⟨hp,rfl,rfl⟩⟩⟩⟩
  ·exact ⟨_,_,f,k,hr,.inr ⟨h0,.inl ⟨h6,rfl,rfl⟩⟩⟩
 ·exact ⟨_,_,f,k,hr,.inl ⟨h0,rfl,rfl⟩⟩
theorem GX(e:Option Addr)(cap:Nat)(bs:L8)(t:J1.GP)(c:Int)(h:DW bs t c)(hc:bs.length<=cap)(w:World)(hw:Gt w)(hby:BytesAt w e bs):CLS 159 [.slice e bs.length cap].toArray w (λr w'=>r=.returned (.tuple #[J1.PtV t,I c])/\Grow w w'):=by
 have hGF:BOk Gt (pl w):=gt_low.plain hw;obtain ⟨f,k,hR,h⟩:=h;refine Hqd func159 O hGF<|am (E:=EE [191,2000191])<|Al 2 hGF J1.zv191<|λb2=>Asg O<|aa<|am (E:=EE [191,2000191])<|Mv O<|?_;rcases h with ⟨h0,rfl,rfl⟩|⟨rfl,⟨h6,rfl,rfl⟩|⟨h6,h48,h⟩⟩
 ·refine Cc O ent189 (λw' hC hG=>sC e cap 48 bs aC aC hc _ _ hR w' hG (hby.grow (ae hC)))<|Mv O<|Exq O O<|Exq O O<|Asg O<|Asg O<|aa<|ah<|am (E:=EE [191,2000191])<|Mv O<|Bnb true O O (λ_=>cC _ _ _) (bne_iff_ne.2 h0)<|Mv O<|Sk<|Sk<|Sk<|Pk O O O<|aa<|aP O<|am (E:=EE [191,2000191])<|Ca O (J1.sJ)<|Mv O<|Sa 2 hGF O O O bF<|Asg O<|aa<|ao<|Rr<|?_
  exact cg 2 O O O O isAgg191 sizeOf191 aB (λw hw=>⟨rfl,ae hw⟩)
 ·refine Cc O ent189 (λw' hC hG=>sC e cap 48 bs aC aC hc _ _ hR w' hG (hby.grow (ae hC)))<|Mv O<|Exq O O<|Exq O O<|Asg O<|Asg O<|aa<|ah<|am (E:=EE [191,2000191])<|Mv O<|Bnb false O O (λ_=>cC _ _ _) (rfl)<|Mv O<|Mv O<|Bnr (v:=U8 (f &&& 64#8)) O O (λ_=>eu _ _ 64#8)<|Bnb true O O (λ_=>fw _ _ 0#8) (bne_iff_ne.2 h6)<|Pk O O O<|aa<|aP O<|am (E:=EE [191,2000191])<|Ca O (J1.sJ)<|Mv O<|Sa 2 hGF O O O bF<|Asg O<|aa<|ao<|Rr<|?_
  exact cg 2 O O O O isAgg191 sizeOf191 aB (λw hw=>⟨rfl,ae hw⟩)
 ·refine Cc O ent189 (λw' hC hG=>sC e cap 48 bs aC aC hc _ _ hR w' hG (hby.grow (ae hC)))<|Mv O<|Exq O O<|Exq O O<|Asg O<|Asg O<|aa<|ah<|am (E:=EE [191,2000191])<|Mv O<|Bnb false O O (λ_=>cC _ _ _) (rfl)<|Mv O<|Mv O<|Bnr (v:=U8 (f &&& 64#8)) O O (λ_=>eu _ _ 64#8)<|Bnb false O O (λ_=>fw _ _ 0#8) (bne_eq_false_iff_eq.2 h6)<|Pk O O O<|aa<|aH O<|aw<|am (E:=EE [191,2000191])<|Mv O<|?_
  refine ff O O ent191 O O (λw' hw'=>(BG e cap bs om om hc w' (hGF.g _ _ _ hw') (hby.grow (ae hw'))).mono λe' w'' h=> ?_);obtain ⟨b7,c7,k7,rfl,hg,hb7,hob,q3,q2⟩:=h;refine ⟨_,_,rfl,aT hGF,hw'.news aL hg [(33,b7,c7,5)] ?_ de,ef aL O, ?_⟩
  ·intro n' b' c' t' hl
   rcases bx hl with ⟨_,e⟩|⟨_,hl⟩
   ·cases e;exact ⟨hb7,hob⟩
   ·cases hl
  clear hw' hg hb7 hob;rcases h with ⟨hp,rfl,rfl⟩|⟨hp,p,ok,hl,hs⟩
  ·refine Cc O ent190 (λw' hC hG=>HY _ _ _ (MK bs) (by rw[f8];exact h48) h48 hp w' hG (mJ (av (n:=33) O w' hC) (by rw[f8];exact q3)))<|Mv O<|Exq O O<|Exq O O<|Al 6 hGF zv189<|λb6=>Sa 6 hGF O O O aR<|Asg O<|aa<|ah<|am (E:=EE [191,2000191])<|Mv O<|bU O (λ_=>bM _) O O<|aa<|aP O<|am (E:=EE [191,2000191])<|Ca O (J1.sJ)<|Sa 2 hGF O O O bF<|Asg O<|aa<|ao<|Rr<|?_
   exact cg 2 O O O O isAgg191 sizeOf191 aB (λw hw=>⟨rfl,ae hw⟩)
  ·refine Cc O ent190 (λw' hC hG=>Fw _ _ _ (MK bs) (by rw[f8];exact h48) h48 hp _ O w' hG (mJ (av (n:=33) O w' hC) (by rw[f8];exact q3)))<|Mv O<|Exq O O<|Exq O O<|Al 6 hGF zv189<|λb6=>Sa 6 hGF O O O aR<|Asg O<|aa<|ah<|am (E:=EE [191,2000191])<|Mv O<|bU O (λ_=>bM _) O O<|aa<|aH O<|aw<|am (E:=EE [191,2000191])<|La 6 O O aR<|Mv O<|Bnr (v:=U8 (f &&& 32#8)) O O (λ_=>eu _ _ 32#8)<|Bnr (v:=.bool (f &&& 32#8 !=0#8)) O O (λ_=>fw _ _ 0#8)<|Ca O (hl)<|Mv O<|Exq O O<|Exq O O<|Al 8 hGF J1.zv191<|λb8=>Sa 8 hGF O O O bF<|Asg O<|aa<|am (E:=EE [191,2000191])<|La 8 O O bF<|Mv O<|Mv O<|Ca O (hs)<|Exq O O<|Exq O O<|Sa 2 hGF O O O bF<|Asg O<|aa<|ao<|Rr<|?_
   exact cg 2 O O O O isAgg191 sizeOf191 aB (λw hw=>⟨rfl,ae hw⟩)
theorem ent131:aJ prog 131:=λ_ _=>kr
theorem ent95:aJ prog 95:=λ_ _=>kr
theorem zv33(w:World):(zeroValue 33).run prog w=.ok (.agg ((List.replicate 48 (0#8)).map U8).toArray) w:=(zeroValue33 w).trans aE
theorem uC(e:Option Addr)(cap len:Nat)(bs:L8)(hn:bs.length=len)(t:J1.GP)(c:Int)(h:DW bs t c)(hc:len<=cap)(w:World)(hw:Gt w)(hby:BytesAt w e bs):CLS 159 [.slice e len cap].toArray w (λr w'=>r=.returned (.tuple #[J1.PtV t,I c])/\Grow w w'):=by
 subst hn;exact GX e cap bs t c h hc w hw hby
theorem DM(bs:L8)(hn:bs.length=48)(c:Int)(h0: ¬c=0)(t:J1.GP)(hD:DW bs t c):PUR 131 [.agg ((bs).map U8).toArray] (.tuple #[J1.PtV J1.gl,I c]):=by
 intro w hw;refine Hf func131 O hw<|λhGF=>Xp<|Bx 1 hGF O<|λb1=>Al 2 hGF J1.zv191<|λb2=>Asg O<|aa<|Xp<|ci (l:=0) (h':=48) O underlying33 sizeOf5 O O aC aC O O<|Cc O ent159 (λw' hC hG=>uC _ 48 48 bs hn t _ hD aC w' hG (BytesAt.range (av (n:=1) O w' hC)))<|Mv O<|Exq O O<|Exq O O<|Al 4 hGF J1.zv191<|λb4=>Sa 4 hGF O O O bF<|Asg O<|aa<|ah<|ar<|Xp<|Mv O<|Bnb true O O (λ_=>cC _ _ _) (bne_iff_ne.2 h0)<|Asg O<|aa<|aP O<|Xp<|Ca O (J1.sJ)<|Mv O<|Sa 2 hGF O O O bF<|Asg O<|aa<|ao<|Rr<|?_;exact cg 2 O O O O isAgg191 sizeOf191 aB (λw hw=>⟨rfl,ae hw⟩)
theorem C9(bs:L8)(hn:bs.length=48)(t:J1.GP)(h0:t.P=none)(hD:DW bs t 0):PUR 131 [.agg ((bs).map U8).toArray] (.tuple #[J1.PtV J1.gl,I 160]):=by
 intro w hw;refine Hf func131 O hw<|λhGF=>Xp<|Bx 1 hGF O<|λb1=>Al 2 hGF J1.zv191<|λb2=>Asg O<|aa<|Xp<|ci (l:=0) (h':=48) O underlying33 sizeOf5 O O aC aC O O<|Cc O ent159 (λw' hC hG=>uC _ 48 48 bs hn t _ hD aC w' hG (BytesAt.range (av (n:=1) O w' hC)))<|Mv O<|Exq O O<|Exq O O<|Al 4 hGF J1.zv191<|λb4=>Sa 4 hGF O O O bF<|Asg O<|aa<|ah<|ar<|Xp<|Mv O<|Bnb false O O (λ_=>cC _ _ _) (rfl)<|Asg O<|aa<|aH O<|Xp<|La 4 O O bF<|Cbl true O ent161 (J1.vp _) (decide_eq_true h0)<|Asg O<|aa<|aP O<|Xp<|Ca O (J1.sJ)<|Sa 2 hGF O O O bF<|Asg O<|aa<|ao<|Rr<|?_;exact cg 2 O O O O isAgg191 sizeOf191 aB (λw hw=>⟨rfl,ae hw⟩)
theorem FE(bs:L8)(hn:bs.length=48)(t:J1.GP)(h0: ¬t.P=none)(hD:DW bs t 0):PUR 131 [.agg ((bs).map U8).toArray] (.tuple #[J1.PtV t,I 0]):=by
 intro w hw;refine Hf func131 O hw<|λhGF=>Xp<|Bx 1 hGF O<|λb1=>Al 2 hGF J1.zv191<|λb2=>Asg O<|aa<|Xp<|ci (l:=0) (h':=48) O underlying33 sizeOf5 O O aC aC O O<|Cc O ent159 (λw' hC hG=>uC _ 48 48 bs hn t _ hD aC w' hG (BytesAt.range (av (n:=1) O w' hC)))<|Mv O<|Exq O O<|Exq O O<|Al 4 hGF J1.zv191<|λb4=>Sa 4 hGF O O O bF<|Asg O<|aa<|ah<|ar<|Xp<|Mv O<|Bnb false O O (λ_=>cC _ _ _) (rfl)<|Asg O<|aa<|aH O<|Xp<|La 4 O O bF<|Cbl false O ent161 (J1.vp _) (decide_eq_false h0)<|Asg O<|aa<|aH O<|aw<|Xp<|La 4 O O bF<|Sa 2 hGF O O O bF<|Asg O<|aa<|ao<|Rr<|?_;exact cg 2 O O O O isAgg191 sizeOf191 aB (λw hw=>⟨rfl,ae hw⟩)
theorem JJ(bs:L8)(hn:bs.length=48): ∃t c,PUR 131 [.agg ((bs).map U8).toArray] (.tuple #[J1.PtV t,I c]):=by
 obtain ⟨t,c,h⟩:=dw_e bs;by_cases h0:c=0
 ·subst h0
  by_cases hp:t.P=none
  ·exact ⟨_,_,C9 bs hn t hp h⟩
  ·exact ⟨_,_,FE bs hn t hp h⟩
 ·exact ⟨_,_,DM bs hn c h0 t h⟩
end
section
open Go.RowKit
attribute [local simp] dO fH bN bq dr cx cy bX dV PLl mr mD N1l lO lT mA eI f7 iV jb jH J1.rD f8
theorem ent130:aJ prog 130:=λ_ _=>kr
theorem ent158:aJ prog 158:=λ_ _=>kr
theorem ent188:aJ prog 188:=λ_ _=>kr
theorem Dk{w w':World}{b o:Nat}{c:List Value}(h:w.rangeAt b o c)(hg:Grow w w'):w'.rangeAt b o c:=λj v hv=>(hg.cell (block_lt_of_cell (h j v hv))).trans (h j v hv)
theorem n5{n m x y:Nat}{c d:List Value}{s t:TypeId}(hx:x≠y): ∀n' m' b c1 t1 c2 t2,lkB [(n,x,c,s),(m,y,d,t)] n'=some (b,c1,t1)->lkB [(n,x,c,s),(m,y,d,t)] m'=some (b,c2,t2)->n'=m':=by
 intro n' m' b c1 t1 c2 t2 h1 h2;rcases bx h1 with ⟨e1,k1⟩|⟨_,h1⟩
 ·rcases bx h2 with ⟨e2,_⟩|⟨_,h2⟩
  ·exact e1.trans e2.symm
  ·rcases bx h2 with ⟨_,k2⟩|⟨_,h2⟩
   ·cases k1;cases k2;exact absurd O hx
   ·cases h2
 ·rcases bx h1 with ⟨e1,k1⟩|⟨_,h1⟩
  ·rcases bx h2 with ⟨_,k2⟩|⟨_,h2⟩
   ·cases k1;cases k2;exact absurd O hx
   ·rcases bx h2 with ⟨e2,_⟩|⟨_,h2⟩
    ·exact e1.trans e2.symm
    ·cases h2
  ·cases h1
def KsAt(w:World)(b s n:Nat)(K:Nat->L8):Prop:= ∀i,i<n->w.rangeAt b (0+s*i) ((K i).map U8)
theorem KsAt.up{w w':World}{b s n:Nat}{K:Nat->L8}(h:KsAt w b s n K)(hg:Grow w w'):KsAt w' b s n K:=λi hi=>Dk (h i hi) hg
namespace J1
def gSm(p:Nat->GP):Nat->GP
 |0=>gl
 |i+1=>Mu (gSm p i) (p i)
def PEs(p:Nat->GP)(e:Nat->Int)(n:Nat):List (List Value):=(List.range n).map λ(k:Nat)=>[PtV (p k),I (e k)]
theorem rA(p:Nat->GP)(e:Nat->Int)(n:Nat):(PEs p e n).length=n:=by rw[PEs,List.length_map,List.length_range]
theorem wL(p:Nat->GP)(e:Nat->Int){n k:Nat}(h:k<n):(PEs p e n)[k]? =some [PtV (p k),I (e k)]:=by
 rw[PEs,List.getElem?_map,List.getElem?_range h];rfl
theorem GB(p:Nat->GP)(e:Nat->Int){n k:Nat}{v:List Value}(h:(PEs p e n)[k]? =some v):k<n/\v=[PtV (p k),I (e k)]:=by
 have hk:k<n:=by
  rcases Nat.lt_or_ge k n with hk|hk
  ·exact hk
  ·rw[List.getElem?_eq_none (by rw[rA];exact hk)]at h;cases h
 exact ⟨hk,(Option.some.inj ((wL p e hk).symm.trans h)).symm⟩
structure RdK(b1 b2 b cap n:Nat)(K:Nat->L8)(w:World):Prop where
 l:w.cell? ⟨b1,0,none⟩=some (.slice (spt b) n cap)
 f:w.cell? ⟨b2,0,none⟩=some (.func (.func 131) #[] #[])
 k:KsAt w b 48 n K
def Vd(K:Nat->L8)(p:Nat->GP)(e:Nat->Int)(n:Nat):Prop:= ∀i,i<n->(K i).length=48/\PUR 131 [.agg ((K i).map U8).toArray] (.tuple #[PtV (p i),I (e i)])
theorem FA(a:Option Addr)(l c f:Nat)(w:World)(hw:Gt w):CLS 158 [.slice a l c,.func (.func f) #[] #[]].toArray w (λe w'=> ∃b1 b2,e=.returned (.func (.func 188) #[] #[pnt b1,pnt b2])/\Grow w w'/\w.heap.size<=b1/\w.heap.size<=b2/\b1≠b2/\OwnB w' b1 [.slice a l c] 31/\OwnB w' b2 [.func (.func f) #[] #[]] 194):=by
 refine Hf func158 O hw<|λhGF=>Xp<|gp 2 hGF O O O<|λb2=>gp 3 hGF O O O<|λb3=>Asg O<|aa<|Xp<|dL O O O O<|Asg O<|aa<|ao<|Rr<|?_;exact au O O (λw hw=>⟨b2,b3,rfl,ae hw,(hw.own 2 b2 _ _ O).2.elim id False.elim,(hw.own 3 b3 _ _ O).2.elim id False.elim,λe=>(by subst e;exact absurd (hw.inj 2 3 _ _ _ _ _ O O) aC),(hw.own 2 b2 _ _ O).1,(hw.own 3 b3 _ _ O).1⟩)
theorem BM(b1 b2 b cap n:Nat)(hn:n<=1000)(K:Nat->L8)(p:Nat->GP)(e:Nat->Int)(hP:Vd K p e n):ju prog Gt 188 [pnt b1,pnt b2] (PEs p e n) (RdK b1 b2 b cap n K):=by
 intro l J Jx hJ hJx hRd hGx hY w hj;have okJ: ∀k,BOk Gt (Bi w (λY=>J Y k)):=λk=>⟨λ_ _ _ h=>(hRd _ _ _ h.rid).1,hJ k⟩;have okX: ∀k,BOk Gt (Bi w (λY=>Jx Y k)):=λk=>⟨λ_ _ _ h=>hGx _ _ _ h.rid,hJx k⟩;have c1: ∀k L w',Hp (Bi w (λY=>J Y k)) L w'->RdK b1 b2 b cap n K w':=λk L w' h=>(hRd _ _ _ h.rid).2;refine ew (G:=Gt) func188 O O (Hp (Bi w (λY=>J Y 0)) []) (cI (Bi w _) hj (hJ 0)) (aT (okJ 0))<|Xp<|aQ O isAgg31 (λw h=>(c1 _ _ w h).l) O O<|bv O (λ_=>aM underlying31 _ _ _ _) O O<|Mv O<|aa<|ar<|jG (ι:={i:Nat // i<=n}) (λy=>[(0,.func (.yield l) #[] #[]),(1,pnt b1),(2,pnt b2),(6,.slice (spt b) n cap),(7,I (n:Int)),(8,I (y.1:Int))]) (λy=>Bi w (λY=>J Y y.1)) (λy=>[]) (λy=>n-y.1) ⟨0,Nat.zero_le _⟩ (λ_=>okJ _) O trv trivial<|?_;rintro ⟨i,hi⟩;dsimp only;refine Xp<|Bnr O O (λ_=>aI _ _ _)<|aa<|ah<|?_;refine cq O (λhc=> ?_) (λhc=> ?_)
 ·have hi2:i<n:=by simp at hc;omega
  refine aw<|ah<|ar<|Xp<|iE (s:=48) i O O underlying31 sizeOf33 om om O O<|?_;have hKi:=(hP i hi2).1;refine az (cs:=(K i).map U8) O isAgg33 sizeOf33 (by rw[List.length_map];exact hKi) (λw h=>(c1 _ _ w h).k i hi2) O O<|Al 5 (okJ _) zv33<|λb5=>ai 5 (okJ _) O O O sizeOf33 (by rw[List.length_map];exact hKi) aB (bp _) O<|aa<|Xp<|Mv O<|aQ O isAgg194 (λw h=>(c1 _ _ w h).f) O O<|aq 5 O O isAgg33 sizeOf33 (by rw[List.length_map];exact hKi) O O<|BW O O ent131 (hP i hi2).2 (okJ _) O O O<|Exq O O<|Exq O O<|?_
  refine eP (hY.b (k:=i) (wL p e hi2) w) (okJ _) (okX _) O O O O O ?_ ?_
  ·refine bU O (λ_=>bM _) O O<|aa<|aH O<|aw<|Xq<|Bnr O O (λ_=>ay _ _ _ aG)<|Mv O<|aa<|?_
   repeat (refine bh ?_)
   exact aV<|⟨rfl,⟨i+1,om⟩,_,by show n-(i+1)<n-i;omega,rfl,trv,trivial⟩
  ·refine bU O (λ_=>bM _) O O<|aa<|aP O<|ao<|Rr<|?_
   repeat (first|refine iG ?_|refine gX ?_|refine hH O ?_|refine cT ?_|refine cU ?_)
   exact ei O (λw hw=>⟨⟨_,rfl⟩,.inr ⟨_,cW (hJx _) hw.rid⟩⟩)
 ·obtain rfl:i=n:=by simp at hc;omega
  refine bj ?_
  repeat (first|refine iG ?_|refine gX ?_|refine hH O ?_|refine cT ?_|refine cU ?_)
  refine dU O (λw hw=>⟨⟨_,rfl⟩,.inl ?_⟩);have:=cW (hJ _) hw.rid;rw[rA];exact this
theorem xi:qf prog 191 "Add" 375:=λ_ _=>kr
theorem BS(n:Nat)(h0:0<n)(hn:n<=512)(K:Nat->L8)(p:Nat->GP)(e:Nat->Int)(hP:Vd K p e n)(j:Nat)(hjn:j<=n)(he0: ∀i,i<j->e i=0)(heb:j<n->¬e j=0)(b cap:Nat)(w:World)(hw:Gt w)(hK:KsAt w b 48 n K):CLS 130 [.slice (spt b) n cap,.func (.func 131) #[] #[]].toArray w (λr w'=>r=.returned (.tuple #[PtV (if j=n then gSm p n else gl),I (if j=n then 0 else e j)])/\Grow w w'):=by
 have hGF:BOk Gt (pl w):=gt_low.plain hw;refine eT (G:=Gt) func130 O O (Hp (pl w) []) (cI (pl w) trivial aL) (aT hGF)<|am (E:=EE [158])<|Al 4 hGF J1.zv191<|λb4=>Asg O<|aa<|jR<|am (E:=EE [158])<|Al 6 hGF J1.zv191<|λb6=>Al 7 hGF J1.zv191<|λb7=>aa<|ah<|am (E:=EE [158])<|Mv O<|bv O (λ_=>aM underlying31 _ _ _ _) O O<|Bnb false O O (λ_=>cj _ _ _) (beq_eq_false_iff_ne.2 om)<|Mv O<|Mv O<|bv O (λ_=>aM underlying31 _ _ _ _) O O<|Bnb false O O (λ_=>cQ _ _ _) (decide_eq_false om)<|Pk O O O<|aa<|aH O<|aw<|am (E:=EE [158])<|oX 8 hGF zeroValue56 O O<|λb8=>cL 8 hGF O O O sizeOf56 O aC O<|aa<|ah<|lR<|ah<|am (E:=EE [158])<|Mv O<|Mv O<|?_;refine cw O O ent158 O O (λw' hw'=>(FA _ _ _ _ w' (hGF.g _ _ _ hw')).mono λe' w'' h=> ?_);obtain ⟨b1,b2,rfl,hg,h1,h2,h3,ho1,ho2⟩:=h;refine ⟨_,_,rfl,aT hGF,hw'.news aL hg [(33,b1,[.slice (spt b) n cap],31),(34,b2,[.func (.func 131) #[] #[]],194)] ?_ (n5 h3), ?_⟩
 ·intro n' b' c' t' hl
  rcases bx hl with ⟨_,e⟩|⟨_,hl⟩
  ·cases e;exact ⟨h1,ho1⟩
  rcases bx hl with ⟨_,e⟩|⟨_,hl⟩
  ·cases e;exact ⟨h2,ho2⟩
  ·cases hl
 clear hw' hg h1 h2 h3 ho1 ho2;refine aa<|ar<|?_;refine BC (λk=>k<=j) (λ_=>pl w) (λ_ _=>pl w) (λ_=>hGF) (λ_ _=>hGF) (λ_=>rfl) (λ_ _=>rfl) O O ent188 (BM b1 b2 b cap n om K p e hP) (λv hv=>by obtain ⟨k,hk,rfl⟩:=List.mem_map.1 hv;rfl) O (λk=>[(4,b4,(GL (gl)).map U64,191),(6,b6,(GL (gSm p k)).map U64,191),(7,b7,(GL (gl)).map U64,191),(8,b8,[I (0)],56),(33,b1,[.slice (spt b) n cap],31),(34,b2,[.func (.func 131) #[] #[]],194)]) (λcd _ L'=>cd=.exit 0/\j<n/\kV L' ([(4,b4,(GL (gl)).map U64,191),(6,b6,(GL (gl)).map U64,191),(7,b7,(GL (gl)).map U64,191),(8,b8,[I (e j)],56),(33,b1,[.slice (spt b) n cap],31),(34,b2,[.func (.func 131) #[] #[]],194)])) (Nat.zero_le _) trv (λk _ w' h=>⟨dw (n:=33) O O w' h,dw (n:=34) O O w' h,hK.up (h.below (λ_ h=>h))⟩) ?_ ?_ ?_ ?_
 ·intro k v hx hQ R hR
  obtain ⟨hk,rfl⟩:=GB p e hx;rcases Nat.lt_or_ge k j with hkj|hkj
  ·have he:=he0 k hkj
   refine am (E:=EE [158])<|iz 9 (hR (pl w) O hGF).1 J1.zv191 O O<|λb9=>ai 9 (hR (pl w) O hGF).1 O O O sizeOf191 aB aB (aZ _) O<|aa<|cm (E:=EE [158])<|Asg O<|aa<|?_;refine ⟨rfl,_,rfl, ?_⟩;refine ar<|am (E:=EE [158])<|Mv O<|aa<|ar<|am (E:=EE [158])<|Bnb true O O (λ_=>cj _ _ _) ((by rw[he];rfl))<|Asg O<|aa<|aP O<|cm (E:=EE [158])<|La 6 O O bF<|ly O underlying191 O O<|La 9 O O bF<|ud O O xi O ent375 (JN _ _) O O<|ai 6 (hR (pl w) O hGF).2.1 O O O sizeOf191 aB aB (aZ _) O<|aa<|?_
   repeat (refine bh ?_)
   exact ⟨_,rfl,KF (Q:=λk=>k<=j) om ⟨rfl,rfl,rfl,rfl,rfl,rfl,trivial⟩⟩
  ·obtain rfl:k=j:=Nat.le_antisymm hQ hkj
   have he:=heb hk;refine am (E:=EE [158])<|iz 9 (hR (pl w) O hGF).1 J1.zv191 O O<|λb9=>ai 9 (hR (pl w) O hGF).1 O O O sizeOf191 aB aB (aZ _) O<|aa<|cm (E:=EE [158])<|Asg O<|aa<|?_;refine ⟨rfl,_,rfl, ?_⟩;refine ar<|am (E:=EE [158])<|Mv O<|aa<|ar<|am (E:=EE [158])<|Bnb false O O (λ_=>cj _ _ _) (beq_eq_false_iff_ne.2 he)<|Asg O<|aa<|aH O<|am (E:=EE [158])<|La 7 O O bF<|Mv O<|ai 6 (hR (pl w) O hGF).2.1 O O O sizeOf191 aB aB (aZ _) O<|cL 8 (hR (pl w) O hGF).2.1 O O O sizeOf56 O aC O<|aa<|bj<|?_
   repeat (first|refine gX ?_|refine hH O ?_)
   exact ⟨_,rfl,rfl,hk,trv⟩
 ·intro hQ D hD
  rw[rA]at*;obtain rfl:j=n:=Nat.le_antisymm hjn hQ;refine gT (E:=EE [158]) (λX=>X=Hp (B2 (pl w) D) [(8,b8,[I (0)],56)]) (mkB [4]) (rkB [35]) [0,1,2,3] db O kr kr kr<|co O O<|La 6 O O bF<|aa<|lJ (X:=Hp (B2 (pl w) D) [(8,b8,[I (0)],56)]) O (fD hD.r trv) (λ_=>rfl)<|aU 8 O O O isAgg56 O O<|aa<|gj O<|Sa 4 hD O O O bF<|aa<|?_;refine ⟨λ_ X hX _=>by subst hX;exact fD hD.r trv, ?_⟩
  refine co O O<|Asg O<|aa<|im<|ao<|?_
  repeat (first|refine cT ?_|refine cU ?_|refine fR ?_)
  exact ii (.inl O) aL (cg 4 O O O O isAgg191 sizeOf191 aB (λw hw=>⟨by rw[if_pos O,if_pos O],ae hw⟩))
 ·intro D hb
  repeat (first|refine bh ?_|refine aV ?_|refine z0 ?_)
  exact tW hb
 ·rintro D cd k L' hD ⟨rfl,hlt,hsub⟩
  refine K5 (fD hD.r hsub) (aT hD)<|gT (E:=EE [158]) (λX=>X=Hp (B2 (pl w) D) [(8,b8,[I (e j)],56)]) (mkB [4]) (rkB [35]) [0,1,2,3] db O kr kr kr<|co O O<|La 6 O O bF<|aa<|lJ (X:=Hp (B2 (pl w) D) [(8,b8,[I (e j)],56)]) O (fD hD.r trv) (λ_=>rfl)<|aU 8 O O O isAgg56 O O<|aa<|gj O<|Sa 4 hD O O O bF<|aa<|?_;refine ⟨λ_ X hX _=>by subst hX;exact fD hD.r trv, ?_⟩
  refine co O O<|Asg O<|aa<|im<|ao<|?_
  repeat (first|refine cT ?_|refine cU ?_|refine fR ?_)
  exact ii (.inl O) aL (cg 4 O O O O isAgg191 sizeOf191 aB (λw hw=>⟨by rw[if_neg om,if_neg om],ae hw⟩))
theorem zV(n:Nat)(hn:n=0)(v:Value)(a:Option Addr)(cap:Nat)(w:World)(hw:Gt w):CLS 130 [.slice a n cap,v].toArray w (λr w'=>r=.returned (.tuple #[PtV gl,I 161])/\Grow w w'):=by
 refine Hf func130 O hw<|λhGF=>am (E:=EE [158])<|Al 4 hGF J1.zv191<|λb4=>Asg O<|aa<|jR<|am (E:=EE [158])<|Al 6 hGF J1.zv191<|λb6=>Al 7 hGF J1.zv191<|λb7=>aa<|ah<|am (E:=EE [158])<|Mv O<|bv O (λ_=>aM underlying31 _ _ _ _) O O<|Bnb true O O (λ_=>cj _ _ _) (beq_iff_eq.2 om)<|Mv O<|Sk<|Sk<|Sk<|Pk O O O<|aa<|aP O<|am (E:=EE [158])<|La 7 O O bF<|Sa 4 hGF O O O bF<|Asg O<|aa<|ao<|?_
 repeat (first|refine cT ?_|refine cU ?_|refine fR ?_)
 exact cg 4 O O O O isAgg191 sizeOf191 aB (λw hw=>⟨rfl,ae hw⟩)
theorem AP(n:Nat)(hn:512<n)(v:Value)(a:Option Addr)(cap:Nat)(w:World)(hw:Gt w):CLS 130 [.slice a n cap,v].toArray w (λr w'=>r=.returned (.tuple #[PtV gl,I 161])/\Grow w w'):=by
 refine Hf func130 O hw<|λhGF=>am (E:=EE [158])<|Al 4 hGF J1.zv191<|λb4=>Asg O<|aa<|jR<|am (E:=EE [158])<|Al 6 hGF J1.zv191<|λb6=>Al 7 hGF J1.zv191<|λb7=>aa<|ah<|am (E:=EE [158])<|Mv O<|bv O (λ_=>aM underlying31 _ _ _ _) O O<|Bnb false O O (λ_=>cj _ _ _) (beq_eq_false_iff_ne.2 om)<|Mv O<|Mv O<|bv O (λ_=>aM underlying31 _ _ _ _) O O<|Bnb true O O (λ_=>cQ _ _ _) (decide_eq_true om)<|Pk O O O<|aa<|aP O<|am (E:=EE [158])<|La 7 O O bF<|Sa 4 hGF O O O bF<|Asg O<|aa<|ao<|?_
 repeat (first|refine cT ?_|refine cU ?_|refine fR ?_)
 exact cg 4 O O O O isAgg191 sizeOf191 aB (λw hw=>⟨rfl,ae hw⟩)
end J1
theorem zv222(w:World):(zeroValue 222).run prog w=.ok (bd (List.replicate 36 0#64)) w:=(zeroValue222 w).trans aE
theorem Ll(w:World):(Instr.build 222 #[]).run prog w=.ok (bd (List.replicate 36 0#64)) w:=cP (c:=(List.replicate 36 0#64).map U64) zv222 underlying222 (ps:= #[(0,12),(12,12),(24,12)]) (λw=>by simp[sizeOf220]) [] O w
theorem GA:PUR 215 [] (bd (List.replicate 36 0#64)):=by
 intro w hw;refine Hf func215 O hw<|λhGF=>Xp<|Al 0 hGF zv222<|λb0=>aa<|Xp<|ce (ps:=[]) (vs:=[]) (v:=bd (List.replicate 36 0#64)) O (λw=>Ll w) O O<|Sa 0 hGF O O O vP<|aa<|ao<|Rr<|?_;exact aF 0 O O O isAgg222 sizeOf222 aB (λw' hw'=>⟨rfl,ae hw'⟩)
theorem rdv0:RdV (List.replicate 96 0#8) 96 0#8 101:=.inr ⟨rfl,.inr ⟨aC,.inr ⟨aC,.inr ⟨aC,rfl,rfl⟩⟩⟩⟩
theorem FZ(e:Option Addr)(cap:Nat)(hc:96<=cap)(w:World)(hw:Gt w)(hby:BytesAt w e (List.replicate 96 0#8)):CLS 195 [.slice e 96 cap].toArray w (λr w'=>r=.returned (.tuple #[bd (List.replicate 36 0#64),I 101])/\Grow w w'):=by
 refine Hf func195 O hw<|λhGF=>Xp<|Al 2 hGF zv222<|λb2=>Asg O<|aa<|Xp<|Mv O<|Cc O ent189 (λw' hC hG=>sC e cap 96 (List.replicate 96 0#8) aC aC hc 0#8 101 rdv0 w' hG (hby.grow (ae hC)))<|Mv O<|Exq O O<|Exq O O<|Asg O<|Asg O<|aa<|ah<|Xp<|Mv O<|Bnb true O O (λ_=>cC _ _ _) (rfl)<|Mv O<|Sk<|Sk<|Sk<|Pk O O O<|aa<|aP O<|Xp<|Ca O (GA)<|Mv O<|Sa 2 hGF O O O vP<|Asg O<|aa<|ao<|Rr<|?_;exact cg 2 O O O O isAgg222 sizeOf222 aB (λw' hw'=>⟨rfl,ae hw'⟩)
theorem Kk  :PUR 162 [.agg (((List.replicate 96 0#8)).map U8).toArray] (.tuple #[bd (List.replicate 36 0#64),I 101]):=by
 intro w hw;refine Hf func162 O hw<|λhGF=>Xp<|Bx 1 hGF O<|λb1=>Al 2 hGF zv222<|λb2=>Asg O<|aa<|Xp<|d7 (n:=96) O underlying67 sizeOf5 aC O O<|Cc O ent195 (λw' hC hG=>FZ _ 96 (Nat.le_refl _) w' hG (BytesAt.range (av (n:=1) O w' hC)))<|Exq O O<|Exq O O<|Sa 2 hGF O O O vP<|Asg O<|aa<|ao<|Rr<|?_;exact cg 2 O O O O isAgg222 sizeOf222 aB (λw' hw'=>⟨rfl,ae hw'⟩)
theorem Is(t:J1.GP)(a:Option Addr)(l c:Nat):PUR 132 [J1.PtV t,.slice a l c,.agg (((List.replicate 96 0#8)).map U8).toArray] (I 101):=by
 intro w hw;refine Hf func132 O hw<|λhGF=>Xp<|Bx 3 hGF O<|λb3=>Bx 5 hGF O<|λb5=>Asg O<|aa<|Xp<|La 5 O O Mb<|Ca O (Kk)<|Mv O<|Exq O O<|Exq O O<|Al 7 hGF zv222<|λb7=>Sa 7 hGF O O O vP<|Asg O<|aa<|ah<|Xp<|Mv O<|Bnb true O O (λ_=>cC _ _ _) (rfl)<|aa<|aP O<|Xp<|Mv O<|Asg O<|aa<|ao<|Rr<|?_;exact au O O (λw' hw'=>⟨rfl,ae hw'⟩)
theorem r6(n:Nat)(a:Option Addr)(cap:Nat)(ma:Option Addr)(ml mc:Nat)(t:J1.GP)(c:Int)(h0: ¬c=0)(w:World)(hw:Gt w)(hS: ∀w',Gt w'->Grow w w'->CLS 130 [.slice a n cap,.func (.func 131) #[] #[]].toArray w' (λr w2=>r=.returned (.tuple #[J1.PtV t,I c])/\Grow w' w2)):CLS 95 [.slice a n cap,.slice ma ml mc,.agg (((List.replicate 96 0#8)).map U8).toArray].toArray w (λr w'=>r=.returned (I c)/\Grow w w'):=by
 refine Hf func95 O hw<|λhGF=>Xp<|Bx 5 hGF O<|λb5=>Asg O<|aa<|Xp<|Mv O<|Cc O ent130 (λw' hC hG=>hS w' hG (ae hC))<|Mv O<|Exq O O<|Exq O O<|Al 7 hGF J1.zv191<|λb7=>Sa 7 hGF O O O bF<|Asg O<|aa<|ah<|Xp<|Mv O<|Bnb true O O (λ_=>cC _ _ _) (bne_iff_ne.2 h0)<|aa<|aP O<|Xp<|Mv O<|Asg O<|aa<|ao<|Rr<|?_;exact au O O (λw' hw'=>⟨rfl,ae hw'⟩)
theorem F8(n:Nat)(a:Option Addr)(cap:Nat)(ma:Option Addr)(ml mc:Nat)(t:J1.GP)(w:World)(hw:Gt w)(hS: ∀w',Gt w'->Grow w w'->CLS 130 [.slice a n cap,.func (.func 131) #[] #[]].toArray w' (λr w2=>r=.returned (.tuple #[J1.PtV t,I 0])/\Grow w' w2)):CLS 95 [.slice a n cap,.slice ma ml mc,.agg (((List.replicate 96 0#8)).map U8).toArray].toArray w (λr w'=>r=.returned (I 101)/\Grow w w'):=by
 refine Hf func95 O hw<|λhGF=>Xp<|Bx 5 hGF O<|λb5=>Asg O<|aa<|Xp<|Mv O<|Cc O ent130 (λw' hC hG=>hS w' hG (ae hC))<|Mv O<|Exq O O<|Exq O O<|Al 7 hGF J1.zv191<|λb7=>Sa 7 hGF O O O bF<|Asg O<|aa<|ah<|Xp<|Mv O<|Bnb false O O (λ_=>cC _ _ _) (rfl)<|aa<|aH O<|aw<|Xp<|La 7 O O bF<|Mv O<|La 5 O O Mb<|Ca O (Is t _ _ _)<|Asg O<|aa<|ao<|Rr<|?_;exact au O O (λw' hw'=>⟨rfl,ae hw'⟩)
theorem qD(e:Nat->Int): ∀n,∃j,j<=n/\(∀i,i<j->e i=0)/\(j<n->¬e j=0)
 |0=>⟨0,Nat.le_refl _,λi h=>absurd h (Nat.not_lt_zero _),λh=>absurd h (Nat.not_lt_zero _)⟩
 |n+1=>by
  obtain ⟨j,h1,h2,h3⟩:=qD e n;by_cases hj:j<n
  ·exact ⟨j,om,h2,λ_=>h3 hj⟩
  ·obtain rfl:j=n:=om
   by_cases h0:e j=0
   ·exact ⟨j+1,Nat.le_refl _,λi hi=>by
     rcases Nat.lt_or_ge i j with h|h
     ·exact h2 i h
     ·obtain rfl:i=j:=om
      exact h0,λh=>absurd h (Nat.lt_irrefl _)⟩
   ·exact ⟨j,om,h2,λ_=>h0⟩
theorem Lq(n:Nat)(K:Nat->L8)(hK: ∀i,i<n->(K i).length=48): ∃c:Int,¬c=0/\∀(a:Option Addr) (cap:Nat) (ma:Option Addr) (ml mc:Nat) (w:World),Gt w->(0<n->n<=512->∃b,a=some ⟨b,0,none⟩/\KsAt w b 48 n K)->
 CLS 95 [.slice a n cap,.slice ma ml mc,.agg (((List.replicate 96 0#8)).map U8).toArray].toArray w (λr w'=>r=.returned (I c)/\Grow w w'):=by
 rcases Nat.eq_zero_or_pos n with h0|h0
 ·exact ⟨161,aC,λa cap ma ml mc w hw _=>r6 n a cap ma ml mc J1.gl 161 aC w hw (λw' hw' _=>J1.zV n h0 _ a cap w' hw')⟩
 rcases Nat.lt_or_ge 512 n with h5|h5
 ·exact ⟨161,aC,λa cap ma ml mc w hw _=>r6 n a cap ma ml mc J1.gl 161 aC w hw (λw' hw' _=>J1.AP n h5 _ a cap w' hw')⟩
 have hx: ∀i,∃t c,i<n->PUR 131 [.agg ((K i).map U8).toArray] (.tuple #[J1.PtV t,I c]):=λi=>by
  by_cases h:i<n
  ·obtain ⟨t,c,k⟩:=JJ (K i) (hK i h)
   exact ⟨t,c,λ_=>k⟩
  ·exact ⟨J1.gl,0,λh'=>absurd h' h⟩
 obtain ⟨p,hp⟩: ∃p:Nat->J1.GP,∀i,∃c:Int,i<n->PUR 131 [.agg ((K i).map U8).toArray] (.tuple #[J1.PtV (p i),I c]):=⟨λi=>Classical.choose (hx i),λi=>Classical.choose_spec (hx i)⟩;obtain ⟨e,he⟩: ∃e:Nat->Int,∀i,i<n->PUR 131 [.agg ((K i).map U8).toArray] (.tuple #[J1.PtV (p i),I (e i)]):=⟨λi=>Classical.choose (hp i),λi=>Classical.choose_spec (hp i)⟩;have hP:J1.Vd K p e n:=λi hi=>⟨hK i hi,he i hi⟩;obtain ⟨j,h1,h2,h3⟩:=qD e n;by_cases hj:j=n
 ·subst hj
  refine ⟨101,aC,λa cap ma ml mc w hw hm=> ?_⟩;obtain ⟨b,rfl,hk⟩:=hm h0 h5;refine F8 j _ cap ma ml mc (J1.gSm p j) w hw (λw' hw' hg=> ?_);have:=J1.BS j h0 h5 K p e hP j (Nat.le_refl _) h2 (λh=>absurd h (Nat.lt_irrefl _)) b cap w' hw' (hk.up hg);rw[if_pos O,if_pos O]at this;exact this
 ·refine ⟨e j,h3 om,λa cap ma ml mc w hw hm=> ?_⟩
  obtain ⟨b,rfl,hk⟩:=hm h0 h5;refine r6 n _ cap ma ml mc J1.gl (e j) (h3 om) w hw (λw' hw' hg=> ?_);have:=J1.BS n h0 h5 K p e hP j h1 h2 h3 b cap w' hw' (hk.up hg);rw[if_neg hj,if_neg hj]at this;exact this
end
section
open Go.RowKit
open Sh
theorem ent55:aJ prog 55:=λ_ _=>kr
theorem ent56:aJ prog 56:=λ_ _=>kr
theorem ent57:aJ prog 57:=λ_ _=>kr
theorem ent58:aJ prog 58:=λ_ _=>kr
theorem ent59:aJ prog 59:=λ_ _=>kr
theorem ent60:aJ prog 60:=λ_ _=>kr
theorem ent61:aJ prog 61:=λ_ _=>kr
theorem ent62:aJ prog 62:=λ_ _=>kr
theorem ent90:aJ prog 90:=λ_ _=>kr
theorem ent92:aJ prog 92:=λ_ _=>kr
theorem ent96:aJ prog 96:=λ_ _=>kr
def ClC(c:Cf)(s:St)(u:Up)(n:BitVec 64):List Value:=c.cs++(s.cs++(u.cs++[U64 n]))
theorem Cl.l0{c:Cf}{s:St}{u:Up}{n:BitVec 64}: ∀j v,c.cs[j]? =some v->(ClC c s u n)[0+j]? =some v:=eo (pre:=[]) O
theorem Cl.l1{c:Cf}{s:St}{u:Up}{n:BitVec 64}(k:c.Ok): ∀j v,s.cs[j]? =some v->(ClC c s u n)[39+j]? =some v:=eo (Cf.len k)
theorem Cl.r2{c:Cf}{s:St}{u:Up}{n:BitVec 64}(k:c.Ok)(h:s.Ok): ∀j v,(u.cs++[U64 n])[j]? =some v->(ClC c s u n)[336+j]? =some v:=bg (o:=39) (p:=297) (eO (Cf.len k)) (eO (St.len h))
theorem Cl.l2{c:Cf}{s:St}{u:Up}{n:BitVec 64}(k:c.Ok)(h:s.Ok): ∀j v,u.cs[j]? =some v->(ClC c s u n)[336+j]? =some v:=bg (o:=336) (p:=0) (Cl.r2 k h) (eo (pre:=[]) O)
theorem Cl.l3{c:Cf}{s:St}{u:Up}{n:BitVec 64}(k:c.Ok)(h:s.Ok)(i:u.Ok): ∀j v,[U64 n][j]? =some v->(ClC c s u n)[1031+j]? =some v:=bg (o:=336) (p:=695) (Cl.r2 k h) (eO (Up.len i))
theorem Le(op:BinOp)(x y:Operand)(xs ys:Array Value)(w:World):(eqGuard op 30 x y (.agg xs) (.agg ys)).run prog w=.ok () w:=run_eqGuard_agg w op 30 x y xs ys kr
theorem HI(w:World):(binOp .eql 30 (.agg Hdz.cs.toArray) (.agg Hdz.cs.toArray)).run prog w=.ok (.bool true) w:=kr
theorem wM(c:Cf)(hc_:c.Ok)(s:St)(_hs:s.Ok)(u:Up)(_hu:u.Ok)(n:BitVec 64) (p:Nat)(w:World)(hw:Gt w)(hr:w.rangeAt p 0 (ClC c s u n)):CLS 55 [pnt p].toArray w (λe w'=>e=.returned (I c.chk)/\Grow w w'):=by
 refine Hf func55 O hw<|λhGF=>Xp<|Asg O<|aa<|Xp<|Mv O<|aW O O O<|Fa 0 O underlying109 O sizeOf50<|bB (cs:=c.cs) O isAgg50 sizeOf50 (Cf.len hc_) (λw' h=>eU hr (ae h) ((Cl.l0))) O O<|Cc O ent37 (λw' hw' hG=>qJ c hc_ w' hG)<|Asg O<|aa<|ao<|Rr<|?_;exact au O O (λw' hw'=>⟨rfl,ae hw'⟩)
theorem Bv(c:Cf)(hc_:c.Ok)(s:St)(hs:s.Ok)(u:Up)(hu:u.Ok)(n:BitVec 64)(hln:u.sy.bs.length<=1000)(p:Nat)(w:World)(hw:Gt w)(hr:w.rangeAt p 0 (ClC c s u n))(hca:CellsAt w u.sy.ba (u.sy.bs.map .bool)):CLS 56 [pnt p].toArray w (λe w'=>e=.returned (I (bif decide ((onN u.sy.bs:Int)>0)then 0 else 232))/\Grow w w'):=by
 refine Hf func56 O hw<|λhGF=>Xp<|Asg O<|aa<|Xp<|Mv O<|aW O O O<|Fa 336 O underlying109 O sizeOf71<|Fa 933 O underlying71 O sizeOf69<|Fa 933 O underlying69 O sizeOf65<|aQ (v:=.slice u.sy.ba u.sy.bs.length u.sy.bc) O isAgg65 (λw' h=>ib hr (ae h) ((bg (o:=933) (p:=0) (bg (o:=336) (p:=597) ((Cl.l2 hc_ hs)) (Up.l6 hu)) (Ag.a0)) 0 (.slice u.sy.ba u.sy.bs.length u.sy.bc) O)) O O<|Cc O ent89 (λw' hw' hG=>mT u.sy.bs om _ _ w' hG (hca.grow (ae hw')))<|Bnr (v:=.bool (decide ((onN u.sy.bs:Int)>0))) O O (λ_=>cQ _ (onN u.sy.bs:Int) 0)<|Cc O ent39 (λw' hw' hG=>mo (decide ((onN u.sy.bs:Int)>0)) 232 w' hG)<|Asg O<|aa<|ao<|Rr<|?_;exact au O O (λw' hw'=>⟨rfl,ae hw'⟩)
theorem Iq(c:Cf)(hc_:c.Ok)(s:St)(hs:s.Ok)(u:Up)(hu:u.Ok)(n:BitVec 64)(h1:n<u.sl)(p:Nat)(w:World)(hw:Gt w)(hr:w.rangeAt p 0 (ClC c s u n)):CLS 57 [pnt p].toArray w (λe w'=>e=.returned (I 233)/\Grow w w'):=by
 refine Hf func57 O hw<|λhGF=>Xp<|Asg O<|aa<|Xp<|Mv O<|aW O O O<|Fa 336 O underlying109 O sizeOf71<|Asg O<|aa<|Xd []<|Mv O<|aW O O O<|Fa 1031 O underlying109 O sizeOf22<|aQ (v:=U64 n) O isAgg22 (λw' h=>ib hr (ae h) (((Cl.l3 hc_ hs hu)) 0 (U64 n) O)) O O<|Mv O<|aW O O O<|Fa 1030 O underlying71 O sizeOf22<|aQ (v:=U64 u.sl) O isAgg22 (λw' h=>ib hr (ae h) ((bg (o:=336) (p:=694) ((Cl.l2 hc_ hs)) (Up.l7 hu)) 0 (U64 u.sl) O)) O O<|Bnb false O O (λ_=>bO _ n u.sl) (decide_eq_false (by rw[BitVec.not_le];exact h1))<|Mv O<|Sk<|Sk<|Sk<|Sk<|Sk<|Sk<|Sk<|Sk<|Sk<|Sk<|Pk O O O<|Mv O<|Sk<|Sk<|Sk<|Sk<|Sk<|Sk<|Sk<|?_
 refine Sk<|Sk<|Sk<|Sk<|Pk O O O<|Cc O ent39 (λw' hw' hG=>mo (false) 233 w' hG)<|Asg O<|aa<|ao<|Rr<|?_;exact au O O (λw' hw'=>⟨rfl,ae hw'⟩)
theorem Kp(c:Cf)(hc_:c.Ok)(s:St)(hs:s.Ok)(u:Up)(hu:u.Ok)(n:BitVec 64)(h1: ¬n<u.sl)(h2:u.at_.s<u.sl)(h3: ¬u.at_.s<u.fi.s)(p:Nat)(w:World)(hw:Gt w)(hr:w.rangeAt p 0 (ClC c s u n)):CLS 57 [pnt p].toArray w (λe w'=>e=.returned (I 0)/\Grow w w'):=by
 refine Hf func57 O hw<|λhGF=>Xp<|Asg O<|aa<|Xp<|Mv O<|aW O O O<|Fa 336 O underlying109 O sizeOf71<|Asg O<|aa<|Xd []<|Mv O<|aW O O O<|Fa 1031 O underlying109 O sizeOf22<|aQ (v:=U64 n) O isAgg22 (λw' h=>ib hr (ae h) (((Cl.l3 hc_ hs hu)) 0 (U64 n) O)) O O<|Mv O<|aW O O O<|Fa 1030 O underlying71 O sizeOf22<|aQ (v:=U64 u.sl) O isAgg22 (λw' h=>ib hr (ae h) ((bg (o:=336) (p:=694) ((Cl.l2 hc_ hs)) (Up.l7 hu)) 0 (U64 u.sl) O)) O O<|Bnb true O O (λ_=>bO _ n u.sl) (decide_eq_true (BitVec.not_lt.1 h1))<|Mv O<|Mv O<|aW O O O<|Fa 1030 O underlying71 O sizeOf22<|aQ (v:=U64 u.sl) O isAgg22 (λw' h=>ib hr (ae h) ((bg (o:=336) (p:=694) ((Cl.l2 hc_ hs)) (Up.l7 hu)) 0 (U64 u.sl) O)) O O<|Mv O<|aW O O O<|Fa 336 O underlying71 O sizeOf30<|Fa 336 O underlying30 O sizeOf22<|aQ (v:=U64 u.at_.s) O isAgg22 (λw' h=>ib hr (ae h) ((bg (o:=336) (p:=0) (bg (o:=336) (p:=0) ((Cl.l2 hc_ hs)) (Up.l1)) (Hd.a_s)) 0 (U64 u.at_.s) O)) O O<|Bnb true O O (λ_=>eV _ u.sl u.at_.s) (decide_eq_true h2)<|Pk O O O<|Mv O<|Mv O<|aW O O O<|Fa 336 O underlying71 O sizeOf30<|Fa 336 O underlying30 O sizeOf22<|aQ (v:=U64 u.at_.s) O isAgg22 (λw' h=>ib hr (ae h) ((bg (o:=336) (p:=0) (bg (o:=336) (p:=0) ((Cl.l2 hc_ hs)) (Up.l1)) (Hd.a_s)) 0 (U64 u.at_.s) O)) O O<|Mv O<|aW O O O<|?_;refine Fa 643 O underlying71 O sizeOf30<|Fa 643 O underlying30 O sizeOf22<|aQ (v:=U64 u.fi.s) O isAgg22 (λw' h=>ib hr (ae h) ((bg (o:=643) (p:=0) (bg (o:=336) (p:=307) ((Cl.l2 hc_ hs)) (Up.l4 hu)) (Hd.a_s)) 0 (U64 u.fi.s) O)) O O<|Bnb true O O (λ_=>bO _ u.at_.s u.fi.s) (decide_eq_true (BitVec.not_lt.1 h3))<|Pk O O O<|Cc O ent39 (λw' hw' hG=>mo (true) 233 w' hG)<|Asg O<|aa<|ao<|Rr<|?_;exact au O O (λw' hw'=>⟨rfl,ae hw'⟩)
theorem wC(c:Cf)(hc_:c.Ok)(s:St)(_hs:s.Ok)(u:Up)(_hu:u.Ok)(n:BitVec 64)(x:BitVec 64)(p:Nat)(w:World)(hw:Gt w)(hr:w.rangeAt p 0 (ClC c s u n)):CLS 90 [pnt p,U64 x].toArray w (λe w'=>e=.returned (U64 (c.pe x))/\Grow w w'):=by
 refine Hf func90 O hw<|λhGF=>Xp<|Asg O<|aa<|Xp<|Mv O<|aW O O O<|Fa 0 O underlying109 O sizeOf50<|bB (cs:=c.cs) O isAgg50 sizeOf50 (Cf.len hc_) (λw' h=>eU hr (ae h) ((Cl.l0))) O O<|Mv O<|Cc O ent122 (λw' hw' hG=>lK c hc_ x w' hG)<|Asg O<|aa<|ao<|Rr<|?_;exact au O O (λw' hw'=>⟨rfl,ae hw'⟩)
theorem Lu(c:Cf)(hc_:c.Ok)(s:St)(hs:s.Ok)(u:Up)(hu:u.Ok)(n:BitVec 64)(x:BitVec 64)(p:Nat)(w:World)(hw:Gt w)(hr:w.rangeAt p 0 (ClC c s u n)):CLS 92 [pnt p,U64 x].toArray w (λe w'=>e=.returned (.bool (decide (c.pe x=c.pe s.f.s)))/\Grow w w'):=by
 refine Hf func92 O hw<|λhGF=>Xp<|Asg O<|aa<|Xd []<|Mv O<|Mv O<|Cc O ent90 (λw' hw' hG=>wC c hc_ s hs u hu n (x) p w' hG (cE hr (ae hw')))<|Mv O<|Mv O<|aW O O O<|Fa 39 O underlying109 O sizeOf53<|Fa 39 O underlying53 O sizeOf30<|Fa 39 O underlying30 O sizeOf22<|aQ (v:=U64 s.f.s) O isAgg22 (λw' h=>ib hr (ae h) ((bg (o:=39) (p:=0) (bg (o:=39) (p:=0) ((Cl.l1 hc_)) (St.at_f)) (Hd.a_s)) 0 (U64 s.f.s) O)) O O<|Cc O ent90 (λw' hw' hG=>wC c hc_ s hs u hu n (s.f.s) p w' hG (cE hr (ae hw')))<|Bnr (v:=.bool (decide (c.pe x=c.pe s.f.s))) O O (λ_=>(bC _ (c.pe x) (c.pe s.f.s)).trans (by rw[ni]))<|Asg O<|aa<|ao<|Rr<|?_
 exact au O O (λw' hw'=>⟨rfl,ae hw'⟩)
theorem Jk(c:Cf)(hc_:c.Ok)(s:St)(hs:s.Ok)(u:Up)(hu:u.Ok)(n:BitVec 64)(h4:c.pe u.sl=c.pe s.f.s)(p:Nat)(w:World)(hw:Gt w)(hr:w.rangeAt p 0 (ClC c s u n)):CLS 58 [pnt p].toArray w (λe w'=>e=.returned (I 0)/\Grow w w'):=by
 refine Hf func58 O hw<|λhGF=>Xp<|Asg O<|aa<|Xd []<|Mv O<|Mv O<|aW O O O<|Fa 39 O underlying109 O sizeOf53<|Fa 39 O underlying53 O sizeOf30<|Fa 39 O underlying30 O sizeOf22<|aQ (v:=U64 s.f.s) O isAgg22 (λw' h=>ib hr (ae h) ((bg (o:=39) (p:=0) (bg (o:=39) (p:=0) ((Cl.l1 hc_)) (St.at_f)) (Hd.a_s)) 0 (U64 s.f.s) O)) O O<|Cc O ent90 (λw' hw' hG=>wC c hc_ s hs u hu n (s.f.s) p w' hG (cE hr (ae hw')))<|Mv O<|Mv O<|aW O O O<|Fa 336 O underlying109 O sizeOf71<|Fa 1030 O underlying71 O sizeOf22<|aQ (v:=U64 u.sl) O isAgg22 (λw' h=>ib hr (ae h) ((bg (o:=336) (p:=694) ((Cl.l2 hc_ hs)) (Up.l7 hu)) 0 (U64 u.sl) O)) O O<|Cc O ent90 (λw' hw' hG=>wC c hc_ s hs u hu n (u.sl) p w' hG (cE hr (ae hw')))<|Asg O<|Asg O<|aa<|Xp<|Mv O<|Mv O<|Bnb true O O (λ_=>(bC _ (c.pe u.sl) (c.pe s.f.s)).trans (by rw[ni])) (decide_eq_true h4)<|Mv O<|Sk<|Sk<|Sk<|Sk<|Sk<|Sk<|Sk<|Sk<|Sk<|Sk<|Sk<|Sk<|?_
 refine Sk<|Sk<|Sk<|Sk<|Pk O O O<|Cc O ent39 (λw' hw' hG=>mo (true) 234 w' hG)<|Asg O<|aa<|ao<|Rr<|?_;exact au O O (λw' hw'=>⟨rfl,ae hw'⟩)
theorem J8(c:Cf)(hc_:c.Ok)(s:St)(hs:s.Ok)(u:Up)(_hu:u.Ok)(n:BitVec 64)(h5:s.f.s<u.at_.s)(p:Nat)(w:World)(hw:Gt w)(hr:w.rangeAt p 0 (ClC c s u n)):CLS 59 [pnt p].toArray w (λe w'=>e=.returned (I 0)/\Grow w w'):=by
 refine Hf func59 O hw<|λhGF=>Xp<|Asg O<|aa<|Xd []<|Mv O<|aW O O O<|Fa 336 O underlying109 O sizeOf71<|Fa 336 O underlying71 O sizeOf30<|Fa 336 O underlying30 O sizeOf22<|aQ (v:=U64 u.at_.s) O isAgg22 (λw' h=>ib hr (ae h) ((bg (o:=336) (p:=0) (bg (o:=336) (p:=0) ((Cl.l2 hc_ hs)) (Up.l1)) (Hd.a_s)) 0 (U64 u.at_.s) O)) O O<|Mv O<|aW O O O<|Fa 39 O underlying109 O sizeOf53<|Fa 39 O underlying53 O sizeOf30<|Fa 39 O underlying30 O sizeOf22<|aQ (v:=U64 s.f.s) O isAgg22 (λw' h=>ib hr (ae h) ((bg (o:=39) (p:=0) (bg (o:=39) (p:=0) ((Cl.l1 hc_)) (St.at_f)) (Hd.a_s)) 0 (U64 s.f.s) O)) O O<|Bnb true O O (λ_=>eV _ u.at_.s s.f.s) (decide_eq_true h5)<|Mv O<|Sk<|Sk<|Pk O O O<|Cc O ent39 (λw' hw' hG=>mo (true) 235 w' hG)<|Asg O<|aa<|ao<|Rr<|?_;exact au O O (λw' hw'=>⟨rfl,ae hw'⟩)
theorem LG(c:Cf)(hc_:c.Ok)(s:St)(hs:s.Ok)(u:Up)(hu:u.Ok)(n:BitVec 64)(hisf:u.isf=false)(hfi:u.fi=Hdz)(p:Nat)(w:World)(hw:Gt w)(hr:w.rangeAt p 0 (ClC c s u n)):CLS 60 [pnt p].toArray w (λe w'=>e=.returned (I 0)/\Grow w w'):=by
 refine Hf func60 O hw<|λhGF=>Xp<|Asg O<|aa<|Xp<|Mv O<|aW O O O<|Fa 336 O underlying109 O sizeOf71<|Asg O<|aa<|Xp<|Mv O<|aW O O O<|Fa 643 O underlying71 O sizeOf30<|bB (cs:=u.fi.cs) O isAgg30 sizeOf30 (Hd.len hu.fi) (λw' h=>eU hr (ae h) ((bg (o:=336) (p:=307) ((Cl.l2 hc_ hs)) (Up.l4 hu)))) O O<|?_;rw[hfi];refine ce (ps:=[]) (vs:=[]) (v:=.agg Hdz.cs.toArray) O (λw=>Au w) O O<|kA true O O (λw'=>Le _ _ _ _ _ w') (λ_=>HI _) (rfl) O O<|Asg O<|aa<|ah<|ar<|Xp<|Mv O<|bU O (λ_=>bM _) O O<|Mv O<|Sk<|Sk<|Sk<|Sk<|Sk<|Sk<|Sk<|Sk<|Sk<|Sk<|Sk<|Sk<|Sk<|Pk O O O<|Asg O<|aa<|aH O<|Xp<|Mv O<|aW O O O<|bB (cs:=u.cs) O isAgg71 sizeOf71 (Up.len hu) (λw' h=>eU hr (ae h) (((Cl.l2 hc_ hs)))) O O<|Cc O ent21 (λw' hw' hG=>jc u hu w' hG)<|?_;rw[hisf];refine bU O (λ_=>bM _) O O<|Asg O<|aa<|aP O<|Xp<|Asg O<|aa<|ao<|Rr<|?_;exact au O O (λw' hw'=>⟨rfl,ae hw'⟩)
theorem KB(c:Cf)(hc_:c.Ok)(s:St)(hs:s.Ok)(u:Up)(hu:u.Ok)(n:BitVec 64)(hln:u.nx.ks.length<=1000)(hisn:u.isn=false)(hem:oZ u.nx=true)(p:Nat)(w:World)(hw:Gt w)(hr:w.rangeAt p 0 (ClC c s u n))(hun:RwsAt 48 w u.nx.ka u.nx.ks):CLS 61 [pnt p].toArray w (λe w'=>e=.returned (I 0)/\Grow w w'):=by
 refine Hf func61 O hw<|λhGF=>Xp<|Asg O<|aa<|Xp<|Mv O<|aW O O O<|Fa 336 O underlying109 O sizeOf71<|Asg O<|aa<|ah<|ar<|Xp<|Mv O<|aW O O O<|bB (cs:=u.cs) O isAgg71 sizeOf71 (Up.len hu) (λw' h=>eU hr (ae h) (((Cl.l2 hc_ hs)))) O O<|Cc O ent19 (λw' hw' hG=>mG u hu w' hG)<|?_;rw[hisn];refine bU O (λ_=>bM _) O O<|Asg O<|aa<|aP O<|Xp<|Mv O<|aW O O O<|Fa 434 O underlying71 O sizeOf35<|bB (cs:=u.nx.cs) O isAgg35 sizeOf35 (Co.len hu.nx) (λw' h=>eU hr (ae h) ((bg (o:=336) (p:=98) ((Cl.l2 hc_ hs)) (Up.l2 hu)))) O O<|Cc O ent53 (λw' hw' hG=>AV u.nx hu.nx om w' hG (hun.grow (ae hw')))<|?_;rw[hem];refine Cc O ent39 (λw' hw' hG=>mo (true) 236 w' hG)<|Asg O<|aa<|ao<|Rr<|?_;exact au O O (λw' hw'=>⟨rfl,ae hw'⟩)
end
section
open Go.RowKit
open Sh
theorem tiKY:TI prog 33 (.agg ((Zs 48).map U8).toArray) 48 48:=l8 kr
structure ApK(w0 w:World)(a:Option Addr)(cap:Nat)(L:List By):Prop where
 g:Gt w
 m:Grow w0 w
 s:SlW 33 48 w a cap L.length (L.flatten.map U8)
 o:New w0 a
 l: ∀x∈L,x.length=48
theorem ApK.low{w0 w:World}{a:Option Addr}{cap:Nat}{L:List By}(h:ApK w0 w a cap L)(hw:Gt w0): ∀k,Of a k->6<=k:=λk ⟨ad,e,hk⟩=>by
 subst hk;exact Nat.le_trans (gt_low.size w0 hw) (h.o ad e)
theorem ApK.next{w0 w w1 w2:World}{a a1:Option Addr}{cap cap1:Nat}{L:List By}{x:By}(h:ApK w0 w a cap L)(hx:x.length=48)(hg:Grow w w1)(g2:Gt w2)(hm:MM (Of a) w1 w2)(hs:SlW 33 48 w2 a1 cap1 (L.length+1) (L.flatten.map U8++x.map U8))(ho: ∀k,Of a1 k->Of a k\/w1.heap.size<=k):ApK w0 w2 a1 cap1 (L++[x]) where
 g:=g2
 m:=hm.grow0 (h.m.trans hg) λk ⟨ad,e,hk⟩=>by subst hk;exact h.o ad e
 s:=by rw[List.length_append,List.flatten_append,List.map_append];simpa using hs
 o:=λad e=>by
  rcases ho ad.block ⟨ad,e,rfl⟩with ⟨ad2,e2,e3⟩|h1
  ·rw[e3];exact h.o ad2 e2
  ·exact Nat.le_trans h.m.size (Nat.le_trans hg.size h1)
 l:=λy hy=>(List.mem_append.1 hy).elim (h.l y) λh=>by rw[List.mem_singleton.1 h];exact hx
theorem ApK.nil{w:World}(h:Gt w):ApK w w none 0 []:=⟨h,Grow.refl w,.inl ⟨rfl,rfl,rfl,rfl⟩,λ_ h=>(nomatch h),λ_ h=>(nomatch h)⟩
theorem qR: ∀(L:List By),(∀x∈L,x.length=48)->∀(i:Nat) (x:By),L[i]? =some x->(L.flatten.drop (48*i)).take 48=x
 |[],_,i,x,h=>by cases h
 |y::L,hL,0,x,h=>by
  cases h
  rw[Nat.mul_zero,List.drop_zero,List.flatten_cons,List.take_left' (hL _ aB)]
 |y::L,hL,i+1,x,h=>by
  rw[List.flatten_cons,show 48*(i+1)=y.length+48*i from by rw[hL y aB];omega,<-List.drop_drop,List.drop_left]
  exact qR L (λz hz=>hL z (List.mem_cons_of_mem _ hz)) i x h
theorem ApK.keys{w0 w:World}{a:Option Addr}{cap:Nat}{L:List By}(h:ApK w0 w a cap L)(h0:0<L.length): ∃b,a=some ⟨b,0,none⟩/\KsAt w b 48 L.length (λi=>L.getD i []):=by
 rcases h.s with ⟨_,_,h1,_⟩|⟨b,c,rfl,ho,_,_,hl,ht⟩
 ·omega
 ·refine ⟨b,rfl,λi hi j v hv=> ?_⟩
  have hx:L[i]? =some (L.getD i []):=by rw[List.getD_eq_getElem?_getD,List.getElem?_eq_getElem hi];rfl
  have h1:=qR L h.l i _ hx;have h48:=h.l _ (List.mem_of_getElem? hx);have hj:j<48:=by have:=(List.getElem?_eq_some_iff.1 hv).1;rw[List.length_map,h48]at this;exact this
  have hf:(L.flatten.map U8)[48*i+j]? =some v:=by
   rw[List.getElem?_map]at hv⊢;rw[show L.flatten[48*i+j]? =(L.getD i [])[j]? from by rw[<-h1,List.getElem?_take,if_pos hj,List.getElem?_drop]]
   exact hv
  have hlt:48*i+j<(L.flatten.map U8).length:=(List.getElem?_eq_some_iff.1 hf).1;rw[<-ht,List.getElem?_take]at hf;rw[ho.cell,Nat.zero_add];revert hf;rw[if_pos hlt];exact id
theorem ApK.grow{w0 w w2:World}{a:Option Addr}{cap:Nat}{L:List By}(h:ApK w0 w a cap L)(hg:Grow w w2)(g2:Gt w2):ApK w0 w2 a cap L:=⟨g2,h.m.trans hg,h.s.grow hg,h.o,h.l⟩
theorem JG(ks:List By)(hks: ∀k∈ks,k.length=48)(hkl:ks.length<=1000)(bs:List Bool)(_hbl:bs.length<=1000)(ka ba:Option Addr)(kc bc:Nat)(w:World)(hw:Gt w)(hrw:RwsAt 48 w ka ks)(hca:CellsAt w ba (bs.map .bool)):CLS 96 [.slice ka ks.length kc,.slice ba bs.length bc].toArray w (λe w'=> ∃a cap L,e=.returned (.slice a (L:List By).length cap)/\ApK w w' a cap L):=by
 refine Hf func96 O hw<|λhGF=>Xp<|Asg O<|aa<|Xp<|Asg O<|aa<|ah<|Xp<|Mv O<|bv O (λ_=>aM underlying31 _ _ _ _) O O<|Mv O<|aa<|ar<|kh gt_low (ι:={x:(Nat×World×Option Addr×Nat)×List By // x.1.1<=ks.length/\x.2.length<=x.1.1/\ApK w x.1.2.1 x.1.2.2.1 x.1.2.2.2 x.2}) (λx=>[(1,.slice ba bs.length bc),(5,.slice x.1.1.2.2.1 x.1.2.length x.1.1.2.2.2),(8,.slice ka ks.length kc),(9,I (ks.length:Int)),(10,I (x.1.1.1:Int))]) (λx=>x.1.1.2.1) (λx=>ks.length-x.1.1.1) ⟨((0,w,none,0),[]),Nat.zero_le _,Nat.le_refl _,ApK.nil hw⟩ (λx=>x.2.2.2.g) O trv<|?_;rintro ⟨⟨⟨k,wk,ak,ck'⟩,L⟩,hk0,hLk,hA⟩;dsimp only at hk0 hLk hA⊢;have hGF:BOk Gt (pl wk):=gt_low.plain hA.g;refine Xp<|Bnr O O (λ_=>aI _ _ _)<|aa<|ah<|?_;refine cq O (λhc=> ?_) (λhc=> ?_)
 ·have hlt:k<ks.length:=(by simp at hc;omega)
  clear hc;obtain ⟨x,hx⟩: ∃x,ks[k]? =some x:=⟨_,List.getElem?_eq_getElem hlt⟩;have hxl:=hks x (List.mem_of_getElem? hx);refine aw<|ah<|ar<|Xp<|Mv O<|?_;obtain ⟨ad,hae,hcell⟩:=(hrw.grow hA.m) k x hx;refine er (ad:=ad) k 48 (by rw[<-hae];rfl) O underlying31 sizeOf33 O hlt O O<|bB (cs:=x.map U8) O isAgg33 sizeOf33 (by rw[List.length_map];exact hxl) (λw' h j v hv=>((ae h).cell (block_lt_of_cell (hcell j v hv))).trans (hcell j v hv)) O O<|Al 7 hGF yN<|λb7=>Asg O<|ai 7 hGF O O O sizeOf33 (by rw[List.length_map];exact hxl) (by rw[List.length_map];rfl) (bp _) O<|aa<|Xp<|Mv O<|Mv O<|bv O (λ_=>aM underlying65 _ _ _ _) O O<|?_
  rcases Bool.eq_false_or_eq_true (decide ((k:Int)<(bs.length:Int)))with hlq|hlq
  ·have hlk:k<bs.length:=by have:=of_decide_eq_true hlq;omega
   obtain ⟨y,hy⟩: ∃y,bs[k]? =some y:=⟨_,List.getElem?_eq_getElem hlk⟩;refine Bnb true O O (λ_=>aI _ (k:Int) (bs.length:Int)) (hlq)<|Mv O<|Mv O<|Mv O<|?_;obtain ⟨ad2,hae2,hcell2⟩:=(hca.grow hA.m) k (.bool y) (by rw[List.getElem?_map,hy];rfl)
   refine er (ad:=ad2) k 1 (by rw[<-hae2];rfl) O underlying65 sizeOf4 O hlk O O ?_
   rcases Bool.eq_false_or_eq_true y with hq|hq
   ·refine aQ (v:=.bool true) O isAgg4 (λw' h=>by rw[Nat.mul_one];have h9:=((ae h).cell (block_lt_of_cell hcell2)).trans hcell2;rw[hq]at h9;exact h9) O O<|Pk O O O<|aa<|aP O<|Xq<|Mv O<|aq 7 O O isAgg33 sizeOf33 (by rw[List.length_map];exact hxl) O O<|iC 27 (x.map U8) hGF O (by rw[List.length_map];exact hxl) aC aC underlying31 sizeOf33 yN O O<|?_
    intro b27;refine kq (ys:=x.map U8) gt_low (λw' h=>hGF.g _ _ _ h) O O underlying31 underlying31 tiKY (by simp[Value.cells,Zs]) (λw' h=>hA.s.grow (ae h)) (hA.low hw) (by rw[List.length_map];exact hxl) (av (n:=27) O) (bp _) (λw' h hof=>absurd (hA.s.lt _ hof) (Nat.not_lt.2 ((h.own 27 _ _ _ O).2.elim id False.elim))) om om O O (λw1 w2 a1 cap1 hC g2 hm hs1 ho=> ?_)
    have hA2:=hA.next hxl (ae hC) g2 hm hs1 ho
    have hGF:BOk Gt (pl w2):=gt_low.plain g2;refine Asg O<|aa<|Xq<|Bnr (v:=I (((k+1:Nat):Int))) O O (λ_=>(ay _ _ _ aG).trans aE)<|Mv O<|aa<|?_
    repeat (refine bh ?_)
    exact aV<|⟨rfl,⟨((k+1,w2,a1,cap1),L++[x]),hlt,by rw[List.length_append];exact Nat.succ_le_succ hLk,hA2⟩,by show ks.length-(k+1)<ks.length-k;omega,rfl,⟨rfl,by show some (Value.slice a1 (L.length+1) cap1)=some (Value.slice a1 (L++[x]).length cap1);rw[List.length_append];rfl,rfl,rfl,rfl,trivial⟩⟩
   ·refine aQ (v:=.bool false) O isAgg4 (λw' h=>by rw[Nat.mul_one];have h9:=((ae h).cell (block_lt_of_cell hcell2)).trans hcell2;rw[hq]at h9;exact h9) O O<|Pk O O O<|aa<|aH O<|aw<|?_
    refine iK gt_low (λw4 hC4 g4=> ?_);refine Xq<|Bnr (v:=I (((k+1:Nat):Int))) O O (λ_=>(ay _ _ _ aG).trans aE)<|Mv O<|aa<|?_
    repeat (refine bh ?_)
    exact aV<|⟨rfl,⟨((k+1,w4,ak,ck'),L),hlt,Nat.le_succ_of_le hLk,hA.grow (ae hC4) g4⟩,by show ks.length-(k+1)<ks.length-k;omega,rfl,trv⟩
  ·refine Bnb false O O (λ_=>aI _ (k:Int) (bs.length:Int)) (hlq)<|Mv O<|Sk<|Sk<|Sk<|Sk<|Pk O O O<|aa<|aH O<|aw<|?_
   refine iK gt_low (λw4 hC4 g4=> ?_);refine Xq<|Bnr (v:=I (((k+1:Nat):Int))) O O (λ_=>(ay _ _ _ aG).trans aE)<|Mv O<|aa<|?_
   repeat (refine bh ?_)
   exact aV<|⟨rfl,⟨((k+1,w4,ak,ck'),L),hlt,Nat.le_succ_of_le hLk,hA.grow (ae hC4) g4⟩,by show ks.length-(k+1)<ks.length-k;omega,rfl,trv⟩
 ·have hke:k=ks.length:=(by simp at hc;omega)
  clear hc;refine bj<|Xp<|Mv O<|Asg O<|aa<|ao<|Rr<|?_;exact au O O (λw' hw'=>⟨ak,ck',L,rfl,hA.grow (ae hw') (hGF.g _ _ _ hw')⟩)
end
section
open Go.RowKit
open Sh
theorem LZ(c:Cf)(hc_:c.Ok)(s:St)(hs:s.Ok)(u:Up)(hu:u.Ok)(n:BitVec 64)(hln:s.nw.ks.length<=1000)(hlb:u.sy.bs.length<=1000)(h4:c.pe u.sl=c.pe s.f.s)(hsg:u.sy.sig=Zs 96)(p:Nat)(w:World)(hw:Gt w)(hr:w.rangeAt p 0 (ClC c s u n))(hnw:RwsAt 48 w s.nw.ka s.nw.ks)(hca:CellsAt w u.sy.ba (u.sy.bs.map .bool)):CLS 62 [pnt p].toArray w (λe w'=>e=.returned (I 238)/\Grow w w'):=by
 have h4d:decide (c.pe u.sl=c.pe s.f.s)=true:=decide_eq_true h4;refine Hf func62 O hw<|λhGF=>am (E:=EE [94,2000094,96,2000096])<|Asg O<|aa<|am (E:=EE [94,2000094,96,2000096])<|Mv O<|aW O O O<|Fa 336 O underlying109 O sizeOf71<|Asg O<|aa<|am (E:=EE [94,2000094,96,2000096])<|Mv O<|aW O O O<|Fa 39 O underlying109 O sizeOf53<|Fa 284 O underlying53 O sizeOf35<|bB (cs:=s.nx.cs) O isAgg35 sizeOf35 (Co.len hs.nx) (λw' h=>eU hr (ae h) ((bg (o:=39) (p:=245) ((Cl.l1 hc_)) (St.at_nx hs)))) O O<|Al 4 hGF zv35<|λb4=>ai 4 hGF O O O sizeOf35 (Co.len hs.nx) (Co.len jJ) (Co.one _) O<|aa<|ah<|am (E:=EE [94,2000094,96,2000096])<|Mv O<|Mv O<|aW O O O<|Fa 1030 O underlying71 O sizeOf22<|aQ (v:=U64 u.sl) O isAgg22 (λw' h=>ib hr (ae h) ((bg (o:=336) (p:=694) ((Cl.l2 hc_ hs)) (Up.l7 hu)) 0 (U64 u.sl) O)) O O<|Cc O ent92 (λw' hw' hG=>Lu c hc_ s hs u hu n u.sl p w' hG (cE hr (ae hw')))<|?_;rw[h4d];refine aa<|aP O<|cm (E:=EE [94,2000094,96,2000096])<|Mv O<|aW O O O<|Fa 39 O underlying109 O sizeOf53<|Fa 235 O underlying53 O sizeOf35<|bB (cs:=s.nw.cs) O isAgg35 sizeOf35 (Co.len hs.nw) (λw' h=>eU hr (ae h) ((bg (o:=39) (p:=196) ((Cl.l1 hc_)) (St.at_nw hs)))) O O<|ai 4 hGF O O O sizeOf35 (Co.len hs.nw) (Co.len hs.nx) (Co.one _) O<|aa<|Xd [94,2000094,96,2000096]<|Mv O<|aW O O O<|Fa 0 O underlying109 O sizeOf50<|bB (cs:=c.cs) O isAgg50 sizeOf50 (Cf.len hc_) (λw' h=>eU hr (ae h) ((Cl.l0))) O O<|Mv O<|aW O O O<|Fa 336 O underlying71 O sizeOf30<|bB (cs:=u.at_.cs) O isAgg30 sizeOf30 (Hd.len hu.at_) (λw' h=>eU hr (ae h) ((bg (o:=336) (p:=0) ((Cl.l2 hc_ hs)) (Up.l1)))) O O<|?_;refine ff O O ent94 O O (λw' hw'=>(yl c u.at_ hc_ hu.at_ w' (hGF.g _ _ _ hw')).mono λe1 w2 h=> ?_);obtain ⟨bm_,cm_,km_,rfl,hgm,hnm,_⟩:=h;refine ⟨_,_,rfl,aT hGF,hw'.news aL hgm [] (λ_ _ _ _ h=>by cases h) (λ_ _ _ _ _ _ _ h=>by cases h),λ_ h=>h, ?_⟩
 clear hw' hgm hnm;refine Asg O<|aa<|oW (E:=EE [94,2000094,96,2000096]) [0,1,2,3,4,5,6,8,9,10,11,12,13,7,14,15,16,17] db O kr kr kr<|Fa 0 O underlying35 O sizeOf31<|aU 4 O O (show s.nw.cs[0]? =some (.slice s.nw.ka s.nw.ks.length s.nw.kc)from O) isAgg31 O O<|Mv O<|aW O O O<|Fa 933 O underlying71 O sizeOf69<|Fa 933 O underlying69 O sizeOf65<|aQ (v:=.slice u.sy.ba u.sy.bs.length u.sy.bc) O isAgg65 (λw' h=>ib hr (ae h) ((bg (o:=933) (p:=0) (bg (o:=336) (p:=597) ((Cl.l2 hc_ hs)) (Up.l6 hu)) (Ag.a0)) 0 (.slice u.sy.ba u.sy.bs.length u.sy.bc) O)) O O<|Mv O<|Mv O<|aW O O O<|Fa 933 O underlying71 O sizeOf69<|Fa 934 O underlying69 O sizeOf67<|bB (cs:=u.sy.sig.map U8) O isAgg67 sizeOf67 (by rw[List.length_map];exact hu.sy.sig) (λw' h=>eU hr (ae h) ((bg (o:=933) (p:=1) (bg (o:=336) (p:=597) ((Cl.l2 hc_ hs)) (Up.l6 hu)) (Ag.a_sig)))) O O<|?_
 rw[hsg];refine ff O O ent96 O O (λw' hw'=>(JG s.nw.ks hs.nw.ks hln u.sy.bs hlb _ _ _ _ w' (hGF.g _ _ _ hw') (hnw.grow (ae hw')) (hca.grow (ae hw'))).mono λe1 w2 h=> ?_);obtain ⟨a7,k7,L7,rfl,hA⟩:=h;obtain ⟨cc,hc0,hcall⟩:=Lq L7.length (λi=>L7.getD i []) (λi hi=>hA.l _ (mE hi));refine ⟨_,λw1=>Hp (pl w) _ w1/\Grow w2 w1,rfl,bP (aT hGF) (λ_ _ x g=>x.trans g),⟨hw'.grow hGF.r hA.m,Grow.refl _⟩,λ_ h=>h.1, ?_⟩;clear hw';refine Cc O ent95 (λw' hw' hG=>hcall _ _ _ _ _ w' hG (λh0 _=>by obtain ⟨b7,e7,y7⟩:=hA.keys h0;exact ⟨b7,e7,y7.up hw'.2⟩))<|Bnb false O O (λ_=>cj _ cc 0) (decide_eq_false hc0)<|Cc O ent39 (λw' hw' hG=>mo (false) 238 w' hG)<|Asg O<|aa<|ao<|Rr<|?_
 exact au O O (λw' hw'=>⟨rfl,ae hw'.1⟩)
theorem KG(c:Cf)(hc_:c.Ok)(s:St)(hs:s.Ok)(u:Up)(hu:u.Ok)(n:BitVec 64)(w:World):(Instr.build 109 #[(0,.agg c.cs.toArray),(1,.agg s.cs.toArray),(2,.agg u.cs.toArray),(3,U64 n)]).run prog w=.ok (.agg (ClC c s u n).toArray) w:=
 cP (c:=[]++(((Zs 36).map U8++[U64 0#64,U64 0#64,I 0])++(St0.cs++(Up0.cs++([U64 0#64]++[]))))) (ps:= #[(0,39),(39,297),(336,695),(1031,1)]) (λw=>(zeroValue109 w).trans aE) underlying109 (λw=>by simp[sizeOf50,sizeOf53,sizeOf71,sizeOf22]) [(0,.agg c.cs.toArray),(1,.agg s.cs.toArray),(2,.agg u.cs.toArray),(3,U64 n)] (by
  rw[d9 (pre:=[]) (old:=((Zs 36).map U8++[U64 0#64,U64 0#64,I 0])) (vs:=c.cs) O O (by rw[Cf.len hc_];rfl),d9 (pre:=[]++c.cs) (old:=St0.cs) (vs:=s.cs) (by rw[List.nil_append,Cf.len hc_];rfl) O (by rw[St.len hs];rfl),
   d9 (pre:=[]++c.cs++s.cs) (old:=Up0.cs) (vs:=u.cs) (by rw[List.nil_append,List.length_append,Cf.len hc_,St.len hs];rfl) O (by rw[Up.len hu];rfl),
   d9 (pre:=[]++c.cs++s.cs++u.cs) (old:=[U64 0#64]) (vs:=[U64 n]) (by rw[List.nil_append,List.length_append,List.length_append,Cf.len hc_,St.len hs,Up.len hu];rfl) O O]
  simp[Instr.fill,ClC]) w
theorem rz(c:Cf)(s:St)(u:Up)(n:BitVec 64)(hc_:c.Ok)(hs:s.Ok)(hu:u.Ok)(r:Int)(w:World)(hw:Gt w)(hF: ∀p w',Grow w w'->w'.rangeAt p 0 (ClC c s u n)->Fst w' [.func (.func 55) #[pnt p] #[],.func (.func 56) #[pnt p] #[],.func (.func 57) #[pnt p] #[],.func (.func 58) #[pnt p] #[],.func (.func 59) #[pnt p] #[],.func (.func 60) #[pnt p] #[],.func (.func 61) #[pnt p] #[],.func (.func 62) #[pnt p] #[]] r):CLS 25 [.agg c.cs.toArray,.agg s.cs.toArray,.agg u.cs.toArray,U64 n].toArray w (λe w'=>e=.returned (I r)/\Grow w w'):=by
 refine Hf func25 O hw<|λhGF=>Xp<|Bx 4 hGF O<|λb4=>Bx 5 hGF O<|λb5=>Bx 6 hGF O<|λb6=>Asg O<|aa<|Xp<|az (cs:=c.cs) O isAgg50 sizeOf50 (Cf.len hc_) (λw' hw' j v hv=>by have:=(av (n:=4) O w' hw') _ v (Cf.all j v hv);rwa [Nat.zero_add]at this) O O<|az (cs:=s.cs) O isAgg53 sizeOf53 (St.len hs) (λw' hw' j v hv=>by have:=(av (n:=5) O w' hw') _ v (dN j v hv);rwa [Nat.zero_add]at this) O O<|az (cs:=u.cs) O isAgg71 sizeOf71 (Up.len hu) (λw' hw' j v hv=>by have:=(av (n:=6) O w' hw') _ v (dN j v hv);rwa [Nat.zero_add]at this) O O<|Mv O<|ce (ps:=[(0,.tmp 10),(1,.tmp 11),(2,.tmp 12),(3,.tmp 13)]) (vs:=[.agg c.cs.toArray,.agg s.cs.toArray,.agg u.cs.toArray,U64 n]) (v:=.agg (ClC c s u n).toArray) O (λw=>KG c hc_ s hs u hu n w) O O<|Bx 15 hGF O<|λb15=>Asg O<|aa<|Xp<|Mv O<|dL O O O O<|Mv O<|dL O O O O<|Mv O<|dL O O O O<|Mv O<|dL O O O O<|Mv O<|dL O O O O<|Mv O<|dL O O O O<|Mv O<|dL O O O O<|Mv O<|dL O O O O<|iq 32 [.func (.func 55) #[pnt b15] #[],.func (.func 56) #[pnt b15] #[],.func (.func 57) #[pnt b15] #[],.func (.func 58) #[pnt b15] #[],.func (.func 59) #[pnt b15] #[],.func (.func 60) #[pnt b15] #[],.func (.func 61) #[pnt b15] #[],.func (.func 62) #[pnt b15] #[]] hGF O O O aC aC underlying142 sizeOf92 zeroValue92 O O O<|λb32=>Cc O ent44 (λw' hw' hG=>E7 [.func (.func 55) #[pnt b15] #[],.func (.func 56) #[pnt b15] #[],.func (.func 57) #[pnt b15] #[],.func (.func 58) #[pnt b15] #[],.func (.func 59) #[pnt b15] #[],.func (.func 60) #[pnt b15] #[],.func (.func 61) #[pnt b15] #[],.func (.func 62) #[pnt b15] #[]] (by show 8<=1000;decide) _ 8 r w' hG (CellsAt.range (av (n:=32) O w' hw')) (hF b15 w' (ae hw') (av (n:=15) O w' hw')))<|Asg O<|aa<|ao<|Rr<|?_
 exact au O O (λw' hw'=>⟨rfl,ae hw'⟩)
theorem fa{w:World}{f:Nat}{p:Nat}{a:Int}(he:aJ prog f)(h: ∀w1,Grow w w1->Gt w1->CLS f [pnt p].toArray w1 (λe w2=>e=.returned (I a)/\Grow w1 w2)):FnA w (.func (.func f) #[pnt p] #[]) a:=⟨f,[pnt p],[],rfl,he,h⟩
theorem pvS(c:Cf)(s:St)(u:Up)(n:BitVec 64)(hc_:c.Ok)(hs:s.Ok)(hu:u.Ok)(_hV:VB s u)(hrt:c.rt=false)(w:World)(hw:Gt w)(_hM:VM w s u):CLS 25 [.agg c.cs.toArray,.agg s.cs.toArray,.agg u.cs.toArray,U64 n].toArray w (λe w'=>e=.returned (I 210)/\Grow w w'):=
 rz c s u n hc_ hs hu 210 w hw λp w' hgw hr=>by
  have h1:FnA w' _ c.chk:=fa ent55 λw1 hg hG=>wM c hc_ s hs u hu n p w1 hG (cE hr hg);rw[show c.chk=210 from by rw[Cf.chk,hrt];rfl]at h1
  exact h1.no aC
theorem pvF(c:Cf)(s:St)(u:Up)(n:BitVec 64)(hc_:c.Ok)(hs:s.Ok)(hu:u.Ok)(hV:VB s u)(hrt:c.rt=true)(hon:onN u.sy.bs=0)(w:World)(hw:Gt w)(hM:VM w s u):CLS 25 [.agg c.cs.toArray,.agg s.cs.toArray,.agg u.cs.toArray,U64 n].toArray w (λe w'=>e=.returned (I 232)/\Grow w w'):=
 rz c s u n hc_ hs hu 232 w hw λp w' hgw hr=>by
  have h1:FnA w' _ c.chk:=fa ent55 λw1 hg hG=>wM c hc_ s hs u hu n p w1 hG (cE hr hg);rw[show c.chk=0 from by rw[Cf.chk,hrt];rfl]at h1
  have h2:FnA w' _ (bif decide ((onN u.sy.bs:Int)>0)then 0 else 232):=fa ent56 λw1 hg hG=>Bv c hc_ s hs u hu n hV.2.2.2 p w1 hG (cE hr hg) (hM.2.2.2.grow (hgw.trans hg))
  rw[hon]at h2;exact h1.ok (FnA.no h2 aC)
theorem pvE(c:Cf)(s:St)(u:Up)(n:BitVec 64)(hc_:c.Ok)(hs:s.Ok)(hu:u.Ok)(hV:VB s u)(hrt:c.rt=true)(hon:onN u.sy.bs≠0)(hns:n<u.sl)(w:World)(hw:Gt w)(hM:VM w s u):CLS 25 [.agg c.cs.toArray,.agg s.cs.toArray,.agg u.cs.toArray,U64 n].toArray w (λe w'=>e=.returned (I 233)/\Grow w w'):=
 rz c s u n hc_ hs hu 233 w hw λp w' hgw hr=>by
  have h1:FnA w' _ c.chk:=fa ent55 λw1 hg hG=>wM c hc_ s hs u hu n p w1 hG (cE hr hg);rw[show c.chk=0 from by rw[Cf.chk,hrt];rfl]at h1
  have h2:FnA w' _ (bif decide ((onN u.sy.bs:Int)>0)then 0 else 232):=fa ent56 λw1 hg hG=>Bv c hc_ s hs u hu n hV.2.2.2 p w1 hG (cE hr hg) (hM.2.2.2.grow (hgw.trans hg))
  rw[decide_eq_true (show (onN u.sy.bs:Int)>0 by omega)]at h2
  have h3:FnA w' _ 233:=fa ent57 λw1 hg hG=>Iq c hc_ s hs u hu n hns p w1 hG (cE hr hg);exact h1.ok (FnA.ok h2 (h3.no aC))
theorem pvW(c:Cf)(s:St)(u:Up)(n:BitVec 64)(hc_:c.Ok)(hs:s.Ok)(hu:u.Ok)(hV:VB s u)(hrt:c.rt=true)(hon:onN u.sy.bs≠0)(h1_: ¬n<u.sl)(h2_:u.at_.s<u.sl)(h3_: ¬u.at_.s<u.fi.s)(h4_:c.pe u.sl=c.pe s.f.s)(h5_:s.f.s<u.at_.s)(hisf:u.isf=false)(hfi:u.fi=Hdz)(hisn:u.isn=false)(hem:oZ u.nx=true)(hsg:u.sy.sig=Zs 96)(w:World)(hw:Gt w)(hM:VM w s u):CLS 25 [.agg c.cs.toArray,.agg s.cs.toArray,.agg u.cs.toArray,U64 n].toArray w (λe w'=>e=.returned (I 238)/\Grow w w'):=
 rz c s u n hc_ hs hu 238 w hw λp w' hgw hr=>by
  have h1:FnA w' _ c.chk:=fa ent55 λw1 hg hG=>wM c hc_ s hs u hu n p w1 hG (cE hr hg);rw[show c.chk=0 from by rw[Cf.chk,hrt];rfl]at h1
  have h2:FnA w' _ (bif decide ((onN u.sy.bs:Int)>0)then 0 else 232):=fa ent56 λw1 hg hG=>Bv c hc_ s hs u hu n hV.2.2.2 p w1 hG (cE hr hg) (hM.2.2.2.grow (hgw.trans hg))
  rw[decide_eq_true (show (onN u.sy.bs:Int)>0 by omega)]at h2
  have h3:FnA w' _ 0:=fa ent57 λw1 hg hG=>Kp c hc_ s hs u hu n h1_ h2_ h3_ p w1 hG (cE hr hg);have h4:FnA w' _ 0:=fa ent58 λw1 hg hG=>Jk c hc_ s hs u hu n h4_ p w1 hG (cE hr hg);have h5:FnA w' _ 0:=fa ent59 λw1 hg hG=>J8 c hc_ s hs u hu n h5_ p w1 hG (cE hr hg);have h6:FnA w' _ 0:=fa ent60 λw1 hg hG=>LG c hc_ s hs u hu n hisf hfi p w1 hG (cE hr hg);have h7:FnA w' _ 0:=fa ent61 λw1 hg hG=>KB c hc_ s hs u hu n hV.2.2.1 hisn hem p w1 hG (cE hr hg) (hM.2.2.1.grow (hgw.trans hg));have h8:FnA w' _ 238:=fa ent62 λw1 hg hG=>LZ c hc_ s hs u hu n hV.1 hV.2.2.2 h4_ hsg p w1 hG (cE hr hg) (hM.1.grow (hgw.trans hg)) (hM.2.2.2.grow (hgw.trans hg));exact h1.ok (FnA.ok h2 (h3.ok (h4.ok (h5.ok (h6.ok (h7.ok (h8.no aC)))))))
theorem rp:RulesP where
 isn:=λu hu w hw=>mG u hu w hw
 isf:=λu hu w hw=>jc u hu w hw
 kno:=λs hs hl w hw hr=>Gw s hs om w hw hr
 bet:=λc a b hc ha hb hla hlb w hw hca hcb=>Hy c a b hc ha hb hla hlb w hw hca hcb
 beg:=λc t b hc ht hb hl w hw hr=>F9 c t b hc ht hb hl w hw hr
 vS:=λc s u n hc hs hu hV hrt w hw hM=>pvS c s u n hc hs hu hV hrt w hw hM
 vF:=λc s u n hc hs hu hV hrt hon w hw hM=>pvF c s u n hc hs hu hV hrt hon w hw hM
 vE:=λc s u n hc hs hu hV hrt hon hns w hw hM=>pvE c s u n hc hs hu hV hrt hon hns w hw hM
 vW:=λc s u n hc hs hu hV hrt hon h1 h2 h3 h4 h5 hisf hfi hisn hem hsg w hw hM=>pvW c s u n hc hs hu hV hrt hon h1 h2 h3 h4 h5 hisf hfi hisn hem hsg w hw hM
end
end Go.Proofs.YtfakhlafilbjkaaGreatDoor
