/-
 The program's sums, by pieces.
 The program's Expand.
 The program's Fields.
-/
import Derived.Test.YtodgbdcjjhmnkaaGreatDoorQ8
import Derived.Test.YtodgbdcjjhmnkaaGreatDoorX2
import Derived.Test.YtodgbdcjjhmnkaaGreatDoorX3
import Derived.Test.YtodgbdcjjhmnkaaGreatDoorXW
set_option maxRecDepth 100000
set_option maxHeartbeats 1000000
namespace Go.Proofs.YtodgbdcjjhmnkaaGreatDoor
open Go.Proofs.Tryz
section
open Go.RowKit
theorem ent135:ah Tryz.prog 135:=fun _ _=>by kernel_rfl
theorem ent134:ah Tryz.prog 134:=fun _ _=>by kernel_rfl
theorem ent136:ah Tryz.prog 136:=fun _ _=>by kernel_rfl
namespace Xm
attribute [local simp] Sh.eH gQ l6 gy d7 fO Sh.iG iw
theorem zvH(w:World):(zeroValue 180).run Tryz.prog w=.ok (.agg (Sh.hc (List.replicate 8 0#32) (List.replicate 64 0#8) 0).toArray) w:=(zeroValue180 w).trans (by rfl)
theorem G5(T bs:List (BitVec 8))(bh:Nat)(st:List (BitVec 32))(rs:List (BitVec 8))(n:BitVec 64)(hi:Sh.HInv T st rs n)(a:Option Addr)(len cap:Nat)(hlen:bs.length=len)(hcap:len≤cap)(hT:T.length+len<9223372036854775808)(w:World)(hw:Gt w)(ho:OwnB w bh (Sh.hc st rs n) 180)(hbh:6≤bh)(hby:BytesAt w a bs)(hne:bs≠[]→∀ad,a=some ad→ad.block≠bh):
 Calls Tryz.prog 162 [.pointer (some ⟨bh,0,none⟩),.slice a len cap].toArray w (fun e w'=>e=.returned (.tuple #[])∧Mod bh w w'∧∃st' rs' n',Sh.HInv (T++bs) st' rs' n'∧OwnB w' bh (Sh.hc st' rs' n') 180):=by
 subst hlen;exact Sh.qg T bs bh st rs n hi (by rw[List.length_append];exact hT) a cap hcap w hw ho hbh hby hne
structure Pc where
 (a:Option Addr) (len cap:Nat) (bs:List (BitVec 8))
def Pc.v(p:Pc):Value:=.slice p.a p.len p.cap
structure PcAt(w:World)(p:Pc):Prop where
 hl:p.bs.length=p.len
 hc:p.len≤p.cap
 hb:BytesAt w p.a p.bs
structure PsAt(w:World)(a:Option Addr)(ps:List Pc):Prop where
 cells:CellsAt w a (ps.map Pc.v)
 all: ∀p,p∈ps→PcAt w p
def cat(ps:List Pc)(k:Nat):List (BitVec 8):=((ps.take k).map Pc.bs).flatten
theorem yf{ps:List Pc}{k:Nat}{p:Pc}(h:ps[k]? =some p):cat ps (k+1)=cat ps k++p.bs:=by
 rw[cat,List.take_add_one,h,List.map_append,List.flatten_append]
 simp[cat]
theorem wX(ps:List Pc): ∀(m k:Nat),(cat ps k).length≤(cat ps (k+m)).length
 |0,_=>Nat.le_refl _
 |m+1,k=>by
  refine Nat.le_trans (wX ps m k) ?_
  cases h:ps[k+m]? with
  |some p=>rw[←Nat.add_assoc,yf h,List.length_append];omega
  |none=>
   have:ps.length≤k+m:=List.getElem?_eq_none_iff.1 h
   rw[cat,cat,List.take_of_length_le this,List.take_of_length_le (by omega)]
   exact Nat.le_refl _
theorem An(ps:List Pc){k:Nat}(h:k≤ps.length):(cat ps k).length≤(cat ps ps.length).length:=by
 have:=wX ps (ps.length-k) k
 rwa [Nat.add_sub_cancel' h]at this
structure LsV(ps:List Pc) where
 (k:Nat) (st:List (BitVec 32)) (rs:List (BitVec 8)) (n:BitVec 64)
 hk:k≤ps.length
 hi:Sh.HInv (cat ps k) st rs n
theorem Lv(a:Option Addr)(cap:Nat)(ps:List Pc)(hlen:ps.length≤1000)(hl:(cat ps ps.length).length≤1000000)(w:World)(hw:Gt w)(hr:PsAt w a ps):Calls Tryz.prog 135 [.slice a ps.length cap].toArray w (fun e w'=>e=.returned (.agg ((Sh.SHA (cat ps ps.length)).map U8).toArray)∧Grow w w'):=by
 refine Hf func135 rfl hw<|fun hGF=>ak (E:=EE [162])<|Al 2 hGF zv134<|fun b2=>aa<|ak (E:=EE [162])<|Al 3 hGF zvH<|fun b3=>aa<|ae<|ak (E:=EE [162])<|Mv rfl<|aZ rfl (fun _=>aC underlying177 _ _ _ _) rfl rfl<|Mv rfl<|aa<|ai<|bB (ι:=LsV ps) (fun z=>[(6,.slice a ps.length cap),(7,I (ps.length:Int)),(8,I (z.k:Int)),(2,.pointer (some ⟨b2,0,none⟩)),(3,.pointer (some ⟨b3,0,none⟩))]) (fun z=>[(2,b2,(List.replicate 32 0#8).map U8,134),(3,b3,Sh.hc z.st z.rs z.n,180)]) (fun z=>ps.length-z.k) ⟨0,_,_,_,Nat.zero_le _,Sh.HInv.zero⟩ hGF ⟨rfl,rfl,rfl,rfl,rfl,trivial⟩ ⟨rfl,rfl,trivial⟩<|?_
 rintro ⟨k,st,rs,n,hk,hi⟩
 dsimp only
 refine ak (E:=EE [162])<|Bnr rfl rfl (fun _=>aA _ _ _)<|aa<|ae<|?_
 refine bj rfl (fun hc=> ?_) (fun hc=> ?_)
 ·have hlt:k<ps.length:=by simp at hc;omega
  clear hc
  obtain ⟨p,hp⟩: ∃p,ps[k]? =some p:=⟨_,List.getElem?_eq_getElem hlt⟩
  obtain ⟨ad,rfl,hcell⟩:=hr.cells k p.v (by rw[List.getElem?_map,hp];rfl)
  have hpa:=hr.all p (List.mem_of_getElem? hp)
  have hsz:(cat ps k).length+p.len<9223372036854775808:=by
   have h1:=An ps (k:=k+1) hlt
   rw[yf hp,List.length_append,hpa.hl]at h1
   omega
  refine au<|ae<|ai<|ak (E:=EE [162])<|iH k rfl rfl underlying177 sizeOf22 rfl hlt rfl rfl<|bp rfl isAgg22 (fun w' h=>((ac h).cell (block_lt_of_cell hcell)).trans hcell) rfl rfl<|Asg rfl<|aa<|cM (E:=EE [162])<|Mv rfl<|?_
  refine gG rfl rfl ent162 rfl rfl (fun w' hC=>(G5 (cat ps k) (p.bs) b3 st rs n hi _ _ _ (hpa.hl) hpa.hc hsz w' (hGF.g _ _ _ hC) (hC.own 3 _ _ _ rfl).1 (Nat.le_trans (gt_low.size w hw) ((hC.own 3 _ _ _ rfl).2.elim id False.elim)) (hpa.hb.grow (ac hC)) (fun h ad e=>Nat.ne_of_lt (Nat.lt_of_lt_of_le (hpa.hb.lt h ad e) ((hC.own 3 _ _ _ rfl).2.elim id False.elim)))).mono fun e w'' h=> ?_)
  obtain ⟨rfl,hm,st1,rs1,n1,hi1,ho⟩:=h
  refine ⟨_,_,rfl,ay hGF,hC.mod hGF.r (n:=3) rfl hm ho, ?_⟩
  clear hC hm ho
  refine aa<|cM (E:=EE [162])<|Bnr (v:=I ((k+1:Nat):Int)) rfl rfl (fun _=>(aw _ _ _ (by unfold inI;omega)).trans (by rfl))<|Mv rfl<|aa<|?_
  repeat (refine aR ?_)
  exact aG<|⟨rfl,⟨k+1,st1,rs1,n1,hlt,(yf hp).symm▸hi1⟩,_,by show ps.length-(k+1)<ps.length-k;omega,rfl,⟨rfl,rfl,rfl,rfl,rfl,trivial⟩,⟨rfl,rfl,trivial⟩⟩
 ·have hke:k=ps.length:=by simp at hc;omega
  clear hc
  refine aT<|ak (E:=EE [162])<|Cc rfl ent163 (fun w' hC hG=>Sh.rW (cat ps k) b3 st rs n hi w' hG (hC.own 3 _ _ _ rfl).1)<|aH 2 hGF rfl rfl rfl sizeOf134 (by simp) (by simp) (cf _) rfl<|aa<|ap<|Rr<|?_
  exact av 2 rfl rfl rfl isAgg134 sizeOf134 (by simp) (fun w hw=>⟨by rw[←hke],ac hw⟩)
theorem Ke(b:Nat)(a1:Option Addr)(l1 c1:Nat)(x1:List (BitVec 8))(a2:Option Addr)(l2 c2:Nat)(x2:List (BitVec 8))(a3:Option Addr)(l3 c3:Nat)(x3:List (BitVec 8))(w:World)(hw:Gt w)(hr:w.rangeAt b 0 [.slice a1 l1 c1,.slice a2 l2 c2,.slice a3 l3 c3])(e1:x1.length=l1)(h1:l1≤c1)(b1:BytesAt w a1 x1)(e2:x2.length=l2)(h2:l2≤c2)(b2:BytesAt w a2 x2)(e3:x3.length=l3)(h3:l3≤c3)(b3:BytesAt w a3 x3)(hl:l1+l2+l3≤1000000):Calls Tryz.prog 135 [.slice (some ⟨b,0,none⟩) 3 3].toArray w (fun e w'=>e=.returned (.agg ((Sh.SHA ((x1++x2)++x3)).map U8).toArray)∧Grow w w'):=by
 have e:cat [⟨a1,l1,c1,x1⟩,⟨a2,l2,c2,x2⟩,⟨a3,l3,c3,x3⟩] 3=(x1++x2)++x3:=by simp[cat]
 have h:=Lv (some ⟨b,0,none⟩) 3 [⟨a1,l1,c1,x1⟩,⟨a2,l2,c2,x2⟩,⟨a3,l3,c3,x3⟩] (by simp) (by show (cat [⟨a1,l1,c1,x1⟩,⟨a2,l2,c2,x2⟩,⟨a3,l3,c3,x3⟩] 3).length≤_;rw[e];simp only[List.length_append];omega) w hw ⟨CellsAt.range hr,fun p hp=>by
  simp only[List.mem_cons,List.not_mem_nil,or_false]at hp
  rcases hp with rfl|rfl|rfl
  ·exact ⟨e1,h1,b1⟩
  ·exact ⟨e2,h2,b2⟩
  ·exact ⟨e3,h3,b3⟩⟩
 rw[←e]
 exact h
theorem Ku(b:Nat)(a1:Option Addr)(l1 c1:Nat)(x1:List (BitVec 8))(a2:Option Addr)(l2 c2:Nat)(x2:List (BitVec 8))(a3:Option Addr)(l3 c3:Nat)(x3:List (BitVec 8))(a4:Option Addr)(l4 c4:Nat)(x4:List (BitVec 8))(w:World)(hw:Gt w)(hr:w.rangeAt b 0 [.slice a1 l1 c1,.slice a2 l2 c2,.slice a3 l3 c3,.slice a4 l4 c4])(e1:x1.length=l1)(h1:l1≤c1)(b1:BytesAt w a1 x1)(e2:x2.length=l2)(h2:l2≤c2)(b2:BytesAt w a2 x2)(e3:x3.length=l3)(h3:l3≤c3)(b3:BytesAt w a3 x3)(e4:x4.length=l4)(h4:l4≤c4)(b4:BytesAt w a4 x4)(hl:l1+l2+l3+l4≤1000000):Calls Tryz.prog 135 [.slice (some ⟨b,0,none⟩) 4 4].toArray w (fun e w'=>e=.returned (.agg ((Sh.SHA (((x1++x2)++x3)++x4)).map U8).toArray)∧Grow w w'):=by
 have e:cat [⟨a1,l1,c1,x1⟩,⟨a2,l2,c2,x2⟩,⟨a3,l3,c3,x3⟩,⟨a4,l4,c4,x4⟩] 4=((x1++x2)++x3)++x4:=by simp[cat]
 have h:=Lv (some ⟨b,0,none⟩) 4 [⟨a1,l1,c1,x1⟩,⟨a2,l2,c2,x2⟩,⟨a3,l3,c3,x3⟩,⟨a4,l4,c4,x4⟩] (by simp) (by show (cat [⟨a1,l1,c1,x1⟩,⟨a2,l2,c2,x2⟩,⟨a3,l3,c3,x3⟩,⟨a4,l4,c4,x4⟩] 4).length≤_;rw[e];simp only[List.length_append];omega) w hw ⟨CellsAt.range hr,fun p hp=>by
  simp only[List.mem_cons,List.not_mem_nil,or_false]at hp
  rcases hp with rfl|rfl|rfl|rfl
  ·exact ⟨e1,h1,b1⟩
  ·exact ⟨e2,h2,b2⟩
  ·exact ⟨e3,h3,b3⟩
  ·exact ⟨e4,h4,b4⟩⟩
 rw[←e]
 exact h
theorem JJ(a:Option Addr)(m:Nat):(if m=0 then a else a.map (·.add (0*1)))=a:=by
 cases a with
 |none=>simp
 |some ad=>simp[Addr.add]
def TgV(dst:List (BitVec 8))(w:World)(v:Value):Prop:= ∃a cap,v=.slice a (D dst).length cap∧BytesAt w a (D dst)∧(D dst).length≤cap
theorem ptag(a:Option Addr)(cap:Nat)(dst:List (BitVec 8))(hc:dst.length≤cap)(hl:dst.length≤100000)(w:World)(hw:Gt w)(hb:BytesAt w a dst):Calls Tryz.prog 134 [.slice a dst.length cap].toArray w (fun e w'=> ∃v,e=.returned v∧Grow w w'∧TgV dst w' v):=by
 refine Hf func134 rfl hw<|fun hGF=>Xp<|Asg rfl<|aa<|Xp<|Mv rfl<|Mv rfl<|aZ rfl (fun _=>aC underlying22 _ _ _ _) rfl rfl<|Mv rfl<|aZ rfl (fun _=>aC underlying22 _ _ _ _) rfl rfl<|lr (l:=0) (h':=dst.length) (m:=dst.length) rfl underlying22 sizeOf5 rfl rfl rfl ⟨Nat.zero_le _,Nat.le_refl _,hc⟩ rfl rfl<|?_
 rw[JJ,Nat.sub_zero]
 refine Mv rfl<|aZ rfl (fun _=>aC underlying22 _ _ _ _) rfl rfl<|bF rfl rfl (fun _=>ic underlying3 underlying5 _) rfl rfl<|jR 12 [BitVec.ofInt 8 (dst.length:Int)] hGF rfl rfl rfl (by decide) (by decide) underlying22 sizeOf5 zeroValue5 rfl rfl<|?_
 intro b12
 refine qQ (xs:=dst) (ys:=[BitVec.ofInt 8 (dst.length:Int)]) 13 hGF rfl rfl underlying22 underlying22 ti5 (fun w' h=>hb.grow (ac h)) (fun w' h=>BytesAt.range (bv (n:=12) rfl w' h)) (by simp;omega) (by simp) rfl rfl (fun b13 c13 cap13 e13 l13 t13=> ?_)
 subst e13
 refine Asg rfl<|aa<|ap<|Rr<|?_
 exact aJ rfl rfl (fun w hw=>⟨_,rfl,ac hw,_,_,rfl,DV (hw.own 13 b13 _ _ rfl).1.range t13,l13⟩)
theorem oN(l:List (BitVec 8))(i j:Nat)(v:BitVec 8):(l.set i v).getD j 0=if i=j∧j<l.length then v else l.getD j 0:=by
 simp only[List.getD_eq_getElem?_getD,List.getElem?_set]
 by_cases h:i=j
 ·subst h
  by_cases h2:i<l.length
  ·simp[h2]
  ·simp[h2]
 ·simp[h]
theorem vV(b l:List (BitVec 8)): ∀(j i:Nat),j≤i→(R b l j).getD i 0=b.getD i 0
 |0,_,_=>rfl
 |j+1,i,h=>by rw[R,oN,if_neg (by omega),vV b l j i (by omega)]
theorem F9(b l:List (BitVec 8))(j:Nat):(R b l j).set j ((R b l j).getD j 0^^^l.getD j 0)=R b l (j+1):=by rw[R,vV b l j j (Nat.le_refl _)]
theorem oO(l:List (BitVec 8))(j:Nat):l.set j (l.getD j 0)=l:=by
 refine List.ext_getElem? fun i=> ?_
 rw[List.getElem?_set]
 by_cases h:j=i
 ·subst h
  by_cases h2:j<l.length
  ·simp[h2]
  ·simp[h2]
 ·simp[h]
theorem zX(b:List (BitVec 8)): ∀j,R b (List.replicate 32 0#8) j=b
 |0=>rfl
 |j+1=>by
  rw[R,zX b j,show (List.replicate 32 0#8).getD j 0=0#8 by rw[List.getD_eq_getElem?_getD,List.getElem?_replicate];split<;>rfl,BitVec.xor_zero,oO]
theorem I9(b d:List (BitVec 8))(k:Nat):R b (Xk b d k) 32=X16 b (Xk b d k) k:=by
 unfold X16
 split
 ·next h=>subst h;exact zX b 32
 ·rfl
theorem Aw(b d:List (BitVec 8))(k:Nat):Sh.SHA ((R b (Xk b d k) 32++[BitVec.ofInt 8 ((k+1:Nat):Int)])++d)=Xk b d (k+1):=by rw[I9,Xk];rfl
attribute [local simp] gy
theorem xM(x l:List (BitVec 8))(hx:x.length=32)(hl:l.length=32):Pure Tryz.prog Gt 164 [.agg (x.map U8).toArray,.agg (l.map U8).toArray] (.agg ((R x l 32).map U8).toArray):=by
 intro w hw
 refine Hf func164 rfl hw<|fun hGF=>Xp<|Bx 2 hGF rfl<|fun b2=>Bx 3 hGF rfl<|fun b3=>Al 4 hGF zv134<|fun b4=>aa<|ae<|Xp<|Mv rfl<|aa<|ai<|bB (ι:={j:Nat // j≤32}) (fun y=>[(2,.pointer (some ⟨b2,0,none⟩)),(3,.pointer (some ⟨b3,0,none⟩)),(4,.pointer (some ⟨b4,0,none⟩)),(6,I (y.1:Int))]) (fun y=>[(2,b2,(R x l y.1).map U8,134),(3,b3,l.map U8,134),(4,b4,(List.replicate 32 0#8).map U8,134)]) (fun y=>32-y.1) ⟨0,by omega⟩ hGF ⟨rfl,rfl,rfl,rfl,trivial⟩ ⟨rfl,rfl,rfl,trivial⟩<|?_
 rintro ⟨j,hj⟩
 dsimp only
 refine Xp<|Bnr rfl rfl (fun _=>aA _ _ _)<|aa<|ae<|?_
 refine bj rfl (fun hc=> ?_) (fun hc=> ?_)
 ·simp only[decide_eq_true_eq]at hc
  refine au<|ae<|ai<|Xp<|Mv rfl<|Asg rfl<|aa<|Xe []<|Mv rfl<|Ia (j) rfl rfl underlying134 sizeOf5<|Lm 2 U8 0 rfl rfl isAgg5 (by first|omega|(simp;omega))<|Mv rfl<|Ia (j) rfl rfl underlying134 sizeOf5<|Lm 3 U8 0 rfl rfl isAgg5 (by first|omega|(simp;omega))<|Bnr rfl rfl (fun _=>qR _ _ _)<|Ia (j) rfl rfl underlying134 sizeOf5<|aP 2 U8 hGF rfl rfl rfl sizeOf5 rfl (by first|omega|(simp;omega)) rfl<|aa<|Xq<|Bnr rfl rfl (fun _=>aw _ _ _ (by unfold inI;omega))<|Mv rfl<|aa<|?_
  repeat (refine aR ?_)
  exact aG<|⟨rfl,⟨j+1,by omega⟩,_,by show 32-(j+1)<32-j;omega,rfl,⟨rfl,rfl,rfl,rfl,trivial⟩,⟨by rw[←F9];rfl,rfl,rfl,trivial⟩⟩
 ·obtain rfl:j=32:=by simp at hc;omega
  refine aT<|Xp<|cx 2 rfl rfl isAgg134 sizeOf134 (by simp[hx]) rfl rfl<|aH 4 hGF rfl rfl rfl sizeOf134 (by simp[hx]) (by simp) (cf _) rfl<|aa<|ap<|Rr<|?_
  exact av 4 rfl rfl rfl isAgg134 sizeOf134 (by simp[hx]) (fun w hw=>⟨rfl,ac hw⟩)
end Xm
end
section
open Go.RowKit
namespace Xm
attribute [local simp] Sh.eH gQ l6 gy d7 fO Sh.iG iw
attribute [local simp] sr gy
theorem zvS(w:World):(zeroValue 22).run Tryz.prog w=.ok (.slice none 0 0) w:=zeroValue22 w
theorem Kh(n:Nat)(hn:n≤8160)(t:TypeId)(w:World):(binOp .quo t (I ((n:Int)+32-1)) (I 32)).run Tryz.prog w=.ok (I ((((n+31) / 32):Nat):Int)) w:=by
 have e:((n:Int)+32-1).tdiv 32=((((n+31) / 32):Nat):Int):=by
  rw[Int.tdiv_eq_ediv_of_nonneg (by omega)]
  omega
 rw[←e]
 exact cw t _ _ (by decide) (by rw[e];unfold inI;omega)
structure LtV(b d:List (BitVec 8))(m:Nat) where
 (k bb:Nat) (c:List Value) (cap:Nat)
 hk:k≤m
 hcap:c.length=cap
 hle:(O b d k).length≤cap
 ht:c.take (O b d k).length=(O b d k).map U8
def SrV(b d:List (BitVec 8))(n:Nat)(w:World)(v:Value):Prop:= ∃a,v=.slice a n n∧BytesAt w a ((O b d ((n+31) / 32)).take n)
theorem zD(b d:List (BitVec 8))(hb:b.length=32)(a:Option Addr)(cap0:Nat)(n:Nat)(hn:n≤8160)(hd:d.length≤1000)(hc0:d.length≤cap0)(w:World)(hw:Gt w)(hby:BytesAt w a d):Calls Tryz.prog 136 [.agg (b.map U8).toArray,.slice a d.length cap0,I (n:Int)].toArray w (fun e w'=> ∃v,e=.returned v∧Grow w w'∧SrV b d n w' v):=by
 refine Hf func136 rfl hw<|fun hGF=>Xp<|Bx 3 hGF rfl<|fun b3=>Asg rfl<|aa<|Xp<|Mv rfl<|Bnr rfl rfl (fun _=>aw _ _ _ (by unfold inI;omega))<|Bnr rfl rfl (fun _=>aX _ _ _ (by unfold inI;omega))<|bW (v:=I ((((n+31) / 32):Nat):Int)) rfl rfl (fun _=>rfl) (fun w=>Kh n hn _ w) rfl rfl<|Asg rfl<|aa<|Xp<|Mv rfl<|bW (v:=I ((((n+31) / 32)*32:Nat):Int)) rfl rfl (fun _=>rfl) (fun _=>(a7 _ _ _ (by unfold inI;omega)).trans (by rfl)) rfl rfl<|qq (l:=0) (m:=((n+31) / 32)*32) (c:=(List.replicate (((n+31) / 32)*32) 0#8).map U8) 18 hGF rfl rfl (Nat.zero_le _) underlying22 ti5 ⟨by omega,by omega,by omega⟩ (by rw[Nat.mul_one];exact Kf _) rfl rfl<|fun b18=>Asg rfl<|aa<|Xp<|Al 9 hGF zv134<|fun b9=>aa<|ae<|Xp<|Mv rfl<|Mv rfl<|aa<|ai<|bB (ι:=LtV b d ((n+31) / 32)) (fun z=>[(1,.slice a d.length cap0),(2,I (n:Int)),(3,.pointer (some ⟨b3,0,none⟩)),(8,.slice (some ⟨z.bb,0,none⟩) (O b d z.k).length z.cap),(9,.pointer (some ⟨b9,0,none⟩)),(19,I (((n+31) / 32):Nat)),(20,I (z.k:Int))]) (fun z=>[(3,b3,b.map U8,134),(9,b9,(Xk b d z.k).map U8,134),(18,z.bb,z.c,5)]) (fun z=>((n+31) / 32)-z.k) ⟨0,b18,_,((n+31) / 32)*32,Nat.zero_le _,(by simp),Nat.zero_le _,rfl⟩ hGF ⟨rfl,rfl,rfl,rfl,rfl,rfl,rfl,trivial⟩ ⟨rfl,rfl,rfl,trivial⟩<|?_
 rintro ⟨k,bb,c,cap,hk,hcap,hle,ht⟩
 dsimp only
 have hx:(Xk b d k).length=32:=d7 _ _ _
 refine Xp<|Bnr rfl rfl (fun _=>aA _ _ _)<|aa<|ae<|?_
 refine bj rfl (fun hc=> ?_) (fun hc=> ?_)
 ·have hlt:k<((n+31) / 32):=by simp at hc;omega
  clear hc
  refine au<|ae<|ai<|Xp<|Mv rfl<|Asg rfl<|aa<|Xp<|cx 3 rfl rfl isAgg134 sizeOf134 (by simp[hb]) rfl rfl<|La 9 rfl rfl qy<|Ca rfl (xM b (Xk b d k) hb (d7 _ _ _))<|Al 11 hGF zv134<|fun b11=>aH 11 hGF rfl rfl rfl sizeOf134 (by simp[hb]) (by simp) (cf _) rfl<|aa<|Xp<|cg (l:=0) (h':=32) rfl underlying134 sizeOf5 rfl rfl (by omega) (by omega) rfl rfl<|Mv rfl<|Bnr (v:=I ((k+1:Nat):Int)) rfl rfl (fun _=>(aw _ _ _ (by unfold inI;omega)).trans (by rfl))<|bF rfl rfl (fun _=>ic underlying3 underlying5 _) rfl rfl<|jR 30 [BitVec.ofInt 8 ((k+1:Nat):Int)] hGF rfl rfl rfl (by decide) (by decide) underlying22 sizeOf5 zeroValue5 rfl rfl<|fun b30=>Mv rfl<|oE 32 [.slice (some ⟨b11,0,none⟩) 32 32,.slice (some ⟨b30,0,none⟩) 1 1,.slice a d.length cap0] hGF rfl rfl rfl (by decide) (by decide) underlying177 sizeOf22 zvS rfl rfl rfl<|fun b32=>Cc rfl ent135 (fun w' hC hG=>Ke b32 (some ⟨b11,0,none⟩) 32 32 (R b (Xk b d k) 32) (some ⟨b30,0,none⟩) 1 1 [BitVec.ofInt 8 ((k+1:Nat):Int)] a d.length cap0 d w' hG (bv (n:=32) rfl w' hC) (by rw[gy,hb]) (Nat.le_refl _) (BytesAt.range (bv (n:=11) rfl w' hC)) rfl (Nat.le_refl _) (BytesAt.range (bv (n:=30) rfl w' hC)) rfl hc0 (hby.grow (ac hC)) (by omega))<|?_
  rw[show Sh.SHA (((R b (Xk b d k) 32)++[BitVec.ofInt 8 ((k+1:Nat):Int)])++d)=Xk b d (k+1)from Aw b d k]
  refine aH 9 hGF rfl rfl rfl sizeOf134 (by simp) (by simp) (cf _) rfl<|aa<|Xq<|Mv rfl<|cg (l:=0) (h':=32) rfl underlying134 sizeOf5 rfl rfl (by omega) (by omega) rfl rfl<|?_
  refine u6 (xs:=O b d k) (ys:=Xk b d (k+1)) 18 hGF rfl (by rw[d7];rfl) underlying22 underlying22 ti5 (.inr ⟨bb,c,rfl,rfl,hcap,hle,ht⟩) (fun w' h=>BytesAt.range (bv (n:=9) rfl w' h)) (by rw[fO,d7];omega) rfl rfl (fun h0=> ?_) (fun b36 c36 cap36 e36 l36 t36=> ?_)
  ·exact (Hr (d7 _ _ _) h0).elim
  subst e36
  refine Asg rfl<|aa<|Xq<|Bnr (v:=I ((k+1:Nat):Int)) rfl rfl (fun _=>(aw _ _ _ (by unfold inI;omega)).trans (by rfl))<|Mv rfl<|aa<|?_
  repeat (first|refine aR ?_|refine dH ?_)
  exact aG<|⟨rfl,⟨k+1,b36,c36,c36.length,by omega,rfl,l36,t36⟩,_,by show ((n+31) / 32)-(k+1)<((n+31) / 32)-k;omega,rfl,⟨rfl,rfl,rfl,rfl,rfl,rfl,rfl,trivial⟩,⟨rfl,rfl,rfl,trivial⟩⟩
 ·have hke:k=((n+31) / 32):=by simp at hc;omega
  clear hc
  refine aT<|Xp<|Mv rfl<|Mv rfl<|Mv rfl<|lr (l:=0) (h':=n) (m:=n) rfl underlying22 sizeOf5 rfl rfl rfl ⟨Nat.zero_le _,Nat.le_refl _,by rw[fO]at hle;omega⟩ rfl rfl<|?_
  rw[JJ,Nat.sub_zero]
  refine Asg rfl<|aa<|ap<|Rr<|?_
  subst hke
  have e:(List.take n (O b d ((n+31) / 32))).length=n:=by rw[List.length_take,fO];omega
  exact aJ rfl rfl (fun w hw=>⟨_,rfl,ac hw,_,rfl,DV (hw.own 18 bb _ _ rfl).1.range (by rw[e];exact z1 ht (by rw[fO];omega))⟩)
theorem px_0(a1:Option Addr)(cap1:Nat)(msg:List (BitVec 8))(a2:Option Addr)(cap2:Nat)(dst:List (BitVec 8))(z:Int)(h:z<0)(w:World)(hw:Gt w):Calls Tryz.prog 96 [.slice a1 msg.length cap1,.slice a2 dst.length cap2,I z].toArray w (fun e w'=>e=.returned (.tuple #[.slice none 0 0,I 130])∧Grow w w'):=by
 refine Hf func96 rfl hw<|fun hGF=>Xp<|Asg rfl<|Asg rfl<|aa<|ae<|Xp<|Mv rfl<|Bnb true rfl rfl (fun _=>aA _ _ _) (decide_eq_true (by omega))<|Mv rfl<|Sk<|Sk<|Pk rfl rfl rfl<|Mv rfl<|Sk<|Sk<|Sk<|Pk rfl rfl rfl<|Mv rfl<|Sk<|Sk<|Sk<|Pk rfl rfl rfl<|aa<|ba rfl<|Xp<|Asg rfl<|Asg rfl<|aa<|ap<|Rr<|?_
 exact cW rfl rfl rfl (fun w hw=>⟨rfl,ac hw⟩)
theorem px_1(a1:Option Addr)(cap1:Nat)(msg:List (BitVec 8))(a2:Option Addr)(cap2:Nat)(dst:List (BitVec 8))(z:Int)(h:8160<z)(w:World)(hw:Gt w):Calls Tryz.prog 96 [.slice a1 msg.length cap1,.slice a2 dst.length cap2,I z].toArray w (fun e w'=>e=.returned (.tuple #[.slice none 0 0,I 130])∧Grow w w'):=by
 refine Hf func96 rfl hw<|fun hGF=>Xp<|Asg rfl<|Asg rfl<|aa<|ae<|Xp<|Mv rfl<|Bnb false rfl rfl (fun _=>aA _ _ _) (decide_eq_false (by omega))<|Mv rfl<|Mv rfl<|Bnb true rfl rfl (fun _=>aU _ _ _) (decide_eq_true (by omega))<|Pk rfl rfl rfl<|Mv rfl<|Sk<|Sk<|Sk<|Pk rfl rfl rfl<|Mv rfl<|Sk<|Sk<|Sk<|Pk rfl rfl rfl<|aa<|ba rfl<|Xp<|Asg rfl<|Asg rfl<|aa<|ap<|Rr<|?_
 exact cW rfl rfl rfl (fun w hw=>⟨rfl,ac hw⟩)
theorem px_2(a1:Option Addr)(cap1:Nat)(msg:List (BitVec 8))(a2:Option Addr)(cap2:Nat)(dst:List (BitVec 8))(z:Int)(h0: ¬z<0)(h1: ¬8160<z)(h:255<dst.length)(w:World)(hw:Gt w):Calls Tryz.prog 96 [.slice a1 msg.length cap1,.slice a2 dst.length cap2,I z].toArray w (fun e w'=>e=.returned (.tuple #[.slice none 0 0,I 130])∧Grow w w'):=by
 refine Hf func96 rfl hw<|fun hGF=>Xp<|Asg rfl<|Asg rfl<|aa<|ae<|Xp<|Mv rfl<|Bnb false rfl rfl (fun _=>aA _ _ _) (decide_eq_false (by omega))<|Mv rfl<|Mv rfl<|Bnb false rfl rfl (fun _=>aU _ _ _) (decide_eq_false (by omega))<|Pk rfl rfl rfl<|Mv rfl<|Mv rfl<|aZ rfl (fun _=>aC underlying22 _ _ _ _) rfl rfl<|Bnb true rfl rfl (fun _=>aU _ _ _) (decide_eq_true (by omega))<|Pk rfl rfl rfl<|Mv rfl<|Sk<|Sk<|Sk<|Pk rfl rfl rfl<|aa<|ba rfl<|Xp<|Asg rfl<|Asg rfl<|aa<|ap<|Rr<|?_
 exact cW rfl rfl rfl (fun w hw=>⟨rfl,ac hw⟩)
theorem px_3(a1:Option Addr)(cap1:Nat)(msg:List (BitVec 8))(a2:Option Addr)(cap2:Nat)(dst:List (BitVec 8))(z:Int)(h0: ¬z<0)(h1: ¬8160<z)(h2: ¬255<dst.length)(h:65536<msg.length)(w:World)(hw:Gt w):Calls Tryz.prog 96 [.slice a1 msg.length cap1,.slice a2 dst.length cap2,I z].toArray w (fun e w'=>e=.returned (.tuple #[.slice none 0 0,I 130])∧Grow w w'):=by
 refine Hf func96 rfl hw<|fun hGF=>Xp<|Asg rfl<|Asg rfl<|aa<|ae<|Xp<|Mv rfl<|Bnb false rfl rfl (fun _=>aA _ _ _) (decide_eq_false (by omega))<|Mv rfl<|Mv rfl<|Bnb false rfl rfl (fun _=>aU _ _ _) (decide_eq_false (by omega))<|Pk rfl rfl rfl<|Mv rfl<|Mv rfl<|aZ rfl (fun _=>aC underlying22 _ _ _ _) rfl rfl<|Bnb false rfl rfl (fun _=>aU _ _ _) (decide_eq_false (by omega))<|Pk rfl rfl rfl<|Mv rfl<|Mv rfl<|aZ rfl (fun _=>aC underlying22 _ _ _ _) rfl rfl<|Bnb true rfl rfl (fun _=>aU _ _ _) (decide_eq_true (by omega))<|Pk rfl rfl rfl<|aa<|ba rfl<|Xp<|Asg rfl<|Asg rfl<|aa<|ap<|Rr<|?_
 exact cW rfl rfl rfl (fun w hw=>⟨rfl,ac hw⟩)
theorem KA(a1:Option Addr)(cap1:Nat)(msg:List (BitVec 8))(a2:Option Addr)(cap2:Nat)(dst:List (BitVec 8))(n:Nat)(hc1:msg.length≤cap1)(hc2:dst.length≤cap2)(hn:n≤8160)(hd:dst.length≤255)(hm:msg.length≤65536)(w:World)(hw:Gt w)(hb1:BytesAt w a1 msg)(hb2:BytesAt w a2 dst):Calls Tryz.prog 96 [.slice a1 msg.length cap1,.slice a2 dst.length cap2,I (n:Int)].toArray w (fun e w'=> ∃v,e=.returned v∧Grow w w'∧∃a cap,v=.tuple #[.slice a (E msg dst n).length cap,I 0]∧BytesAt w' a (E msg dst n)∧(E msg dst n).length≤cap):=by
 have hGF:BOk Gt (pl w):=gt_low.plain hw
 have hgw:Grow w w:=Grow.refl w
 refine Hd func96 rfl hGF<|ak (E:=EE [134,136])<|Asg rfl<|Asg rfl<|aa<|ae<|ak (E:=EE [134,136])<|Mv rfl<|Bnb false rfl rfl (fun _=>aA _ _ _) (decide_eq_false (by omega))<|Mv rfl<|Mv rfl<|Bnb false rfl rfl (fun _=>aU _ _ _) (decide_eq_false (by omega))<|Pk rfl rfl rfl<|Mv rfl<|Mv rfl<|aZ rfl (fun _=>aC underlying22 _ _ _ _) rfl rfl<|Bnb false rfl rfl (fun _=>aU _ _ _) (decide_eq_false (by omega))<|Pk rfl rfl rfl<|Mv rfl<|Mv rfl<|aZ rfl (fun _=>aC underlying22 _ _ _ _) rfl rfl<|Bnb false rfl rfl (fun _=>aU _ _ _) (decide_eq_false (by omega))<|Pk rfl rfl rfl<|aa<|aL rfl<|au<|ak (E:=EE [134,136])<|Mv rfl<|?_
 refine iW rfl rfl ent134 rfl rfl gt_low (ay hGF) (fun w' hC hG=>ptag a2 cap2 dst hc2 (by omega) w' hG (hb2.grow (hgw.trans (ac hC)))) (fun w0 w1 v h0 hg hG1 hq=> ?_)
 replace hgw:=hgw.trans ((ac h0).trans hg)
 clear h0 hg hGF
 have hGF:BOk Gt (pl w1):=gt_low.plain hG1
 obtain ⟨ta,tc,rfl,hta,htc⟩:=hq
 refine Asg rfl<|aa<|ak (E:=EE [134,136])<|Ci 28 hGF rfl rfl underlying22 ti5.choose_spec.1 ti5.choose_spec.2.1 (hmk 64 (by decide)) (hmc 64 ti5.choose_spec mc64) rfl rfl<|fun b28=>Mv rfl<|Mv rfl<|Bnr rfl rfl (fun _=>yG _ _)<|bF rfl rfl (fun _=>ic underlying3 underlying5 _) rfl rfl<|Mv rfl<|bF rfl rfl (fun _=>ic underlying3 underlying5 _) rfl rfl<|jR 35 [BitVec.ofInt 8 ((n / 256:Nat):Int),BitVec.ofInt 8 (n:Int),0#8] hGF rfl rfl rfl (by decide) (by decide) underlying22 sizeOf5 zeroValue5 rfl rfl<|fun b35=>Mv rfl<|oE 37 [.slice (some ⟨b28,0,none⟩) 64 64,.slice a1 msg.length cap1,.slice (some ⟨b35,0,none⟩) 3 3,.slice ta (D dst).length tc] hGF rfl rfl rfl (by decide) (by decide) underlying177 sizeOf22 zvS rfl rfl rfl<|fun b37=>Cc rfl ent135 (fun w' hC hG=>Ku b37 (some ⟨b28,0,none⟩) 64 64 (List.replicate 64 0#8) a1 msg.length cap1 msg (some ⟨b35,0,none⟩) 3 3 [BitVec.ofInt 8 ((n / 256:Nat):Int),BitVec.ofInt 8 (n:Int),0#8] ta (D dst).length tc (D dst) w' hG (bv (n:=37) rfl w' hC) rfl (Nat.le_refl _) (BytesAt.range (bv (n:=28) rfl w' hC)) rfl hc1 (hb1.grow (hgw.trans (ac hC))) rfl (Nat.le_refl _) (BytesAt.range (bv (n:=35) rfl w' hC)) rfl htc (hta.grow (ac hC)) (by rw[iw];omega))<|?_
 rw[show Sh.SHA ((((List.replicate 64 0#8)++msg)++[BitVec.ofInt 8 ((n / 256:Nat):Int),BitVec.ofInt 8 (n:Int),0#8])++D dst)=B0 msg dst n from rfl]
 refine Al 9 hGF zv134<|fun b9=>aH 9 hGF rfl rfl rfl sizeOf134 (by simp) (by simp) (cf _) rfl<|aa<|ak (E:=EE [134,136])<|La 9 rfl rfl qy<|Mv rfl<|Mv rfl<|?_
 refine iW rfl rfl ent136 rfl rfl gt_low (ay hGF) (fun w' hC hG=>zD (B0 msg dst n) (D dst) (gQ _ _ _) ta tc n hn (by rw[iw];omega) htc w' hG (hta.grow (ac hC))) (fun w0 w1 v h0 hg hG1 hq=> ?_)
 replace hgw:=hgw.trans ((ac h0).trans hg)
 clear h0 hg hGF
 have hGF:BOk Gt (pl w1):=gt_low.plain hG1
 obtain ⟨sa,rfl,hsa⟩:=hq
 refine Asg rfl<|Asg rfl<|aa<|ap<|Rr<|?_
 exact cW rfl rfl rfl (fun w hw=>⟨_,rfl,hgw.trans (ac hw),sa,n,by rw[na];rfl,hsa.grow (ac hw),by rw[na];exact Nat.le_refl _⟩)
theorem pxc:PXC:=by
 intro a1 cap1 msg a2 cap2 dst z w _ hc1 _ hc2 hw hb1 hb2
 have err:Bad msg dst z→∀{e:Ending} {w':World},e=.returned (.tuple #[.slice none 0 0,I 130])∧Grow w w'→∃v,e=.returned v∧Grow w w'∧RT msg dst z w' v:=fun hb _ _ h=>⟨_,h.1,h.2,fun _=>rfl,fun hn=>absurd hb hn⟩
 by_cases h0:z<0
 ·exact (px_0 a1 cap1 msg a2 cap2 dst z h0 w hw).mono fun _ _ h=>err (.inl h0) h
 by_cases h1:8160<z
 ·exact (px_1 a1 cap1 msg a2 cap2 dst z h1 w hw).mono fun _ _ h=>err (.inr (.inl h1)) h
 by_cases h2:255<dst.length
 ·exact (px_2 a1 cap1 msg a2 cap2 dst z h0 h1 h2 w hw).mono fun _ _ h=>err (.inr (.inr (.inl h2))) h
 by_cases h3:65536<msg.length
 ·exact (px_3 a1 cap1 msg a2 cap2 dst z h0 h1 h2 h3 w hw).mono fun _ _ h=>err (.inr (.inr (.inr h3))) h
 obtain ⟨n,rfl⟩: ∃n:Nat,z=(n:Int):=⟨z.toNat,by omega⟩
 refine (KA a1 cap1 msg a2 cap2 dst n hc1 hc2 (by omega) (by omega) (by omega) w hw hb1 hb2).mono fun e w' ⟨v,he,hg,hc⟩=>⟨_,he,hg,fun hb=>absurd hb ?_,fun _=>hc⟩
 rintro (h|h|h|h)<;>omega
end Xm
end
section
open Go.RowKit
attribute [local simp] a8 bG aE az a6 aY aQ aK a9 PLl d8 ec N1l d6 d9 dR bC bL bN bO ce List.length_append kL cF
theorem ent97:ah Tryz.prog 97:=fun _ _=>by kernel_rfl
namespace Xm
attribute [local simp] Sh.eH gQ l6 gy d7 fO Sh.iG iw
attribute [local simp] N2r_len
theorem tiQ:TI Tryz.prog 29 (.agg ((List.replicate 12 (0#64)).map U64).toArray) 12 96:=wF (by kernel_rfl)
theorem Is(e:Option Addr)(len cap:Nat)(bs:List (BitVec 8))(hb:bs.length=len)(hlen:len≤1000)(hc:len≤cap)(w:World)(hw:Gt w)(hby:BytesAt w e bs):Calls Tryz.prog 13 [.slice e len cap].toArray w (fun r w'=>r=.returned (EV (ZB bs))∧Grow w w'):=by
 subst hb
 exact jU e cap bs (by omega) hc w hw hby
theorem cut3{w:World}{a:Option Addr}{rs:List (BitVec 8)}(h:BytesAt w a rs)(l k m:Nat)(hm:m≠l):BytesAt w (if m=l then a else a.map (·.add (l*1))) ((rs.drop l).take k):=by
 have h2:=h.cut (cap:=rs.length+l+1) l k (by omega)
 rw[if_neg (by omega)]at h2
 rw[if_neg hm]
 exact h2
theorem tT(a:Option Addr)(len cap:Nat)(bs:List (BitVec 8))(hlen:bs.length=len)(hc:len≤cap)(i:Nat)(hi:64*i+64≤len)(hl:len≤100000)(w:World)(hw:Gt w)(hb:BytesAt w a bs):Calls Tryz.prog 97 [.slice a len cap,I (i:Int)].toArray w (fun e w'=>e=.returned (EV (ZB ((bs.drop (64*i)).take 64)))∧Grow w w'):=by
 refine Hf func97 rfl hw<|fun hGF=>Xp<|Al 4 hGF zf27<|fun b4=>aa<|Xp<|Mv rfl<|Bnr (v:=I ((64*i:Nat):Int)) rfl rfl (fun _=>(a7 _ _ _ (by unfold inI;omega)).trans (by rw[show (64:Int)*(i:Int)=((64*i:Nat):Int) by omega]))<|Mv rfl<|Bnr (v:=I ((i+1:Nat):Int)) rfl rfl (fun _=>(aw _ _ _ (by unfold inI;omega)).trans (by rfl))<|Bnr (v:=I ((64*i+64:Nat):Int)) rfl rfl (fun _=>(a7 _ _ _ (by unfold inI;omega)).trans (by rw[show (64:Int)*((i+1:Nat):Int)=((64*i+64:Nat):Int) by omega]))<|Asg rfl<|Asg rfl<|aa<|Xp<|Mv rfl<|Mv rfl<|Mv rfl<|Mv rfl<|lr (l:=64*i) (h':=64*i+64) (m:=64*i+64) rfl underlying22 sizeOf5 rfl rfl rfl ⟨by omega,Nat.le_refl _,by omega⟩ rfl rfl<|Cc rfl ent13 (fun w' hC hG=>Is _ _ _ ((bs.drop (64*i)).take 64) (by rw[List.length_take,List.length_drop,hlen];omega) (by omega) (Nat.le_refl _) w' hG (BytesAt.grow (cut3 hb (64*i) 64 _ (by omega)) (ac hC)))<|Sa 4 hGF rfl rfl rfl bK<|aa<|ap<|Rr<|?_
 exact av 4 rfl rfl rfl isAgg27 sizeOf27 (by simp) (fun w hw=>⟨rfl,ac hw⟩)
theorem pf_0(a1:Option Addr)(cap1:Nat)(msg:List (BitVec 8))(a2:Option Addr)(cap2:Nat)(dst:List (BitVec 8)) (z:Int)(h:z<0)(w:World)(hw:Gt w):Calls Tryz.prog 56 [.slice a1 msg.length cap1,.slice a2 dst.length cap2,I z].toArray w (fun e w'=>e=.returned (.tuple #[.slice none 0 0,I 130])∧Grow w w'):=by
 refine Hf func56 rfl hw<|fun hGF=>ak (E:=EE [96])<|Asg rfl<|Asg rfl<|aa<|ae<|ak (E:=EE [96])<|Mv rfl<|Bnb true rfl rfl (fun _=>aA _ _ _) (decide_eq_true (by omega))<|Mv rfl<|Sk<|Sk<|Pk rfl rfl rfl<|aa<|ba rfl<|ak (E:=EE [96])<|Asg rfl<|Asg rfl<|aa<|ap<|Rr<|?_
 exact cW rfl rfl rfl (fun w hw=>⟨rfl,ac hw⟩)
theorem pf_1(a1:Option Addr)(cap1:Nat)(msg:List (BitVec 8))(a2:Option Addr)(cap2:Nat)(dst:List (BitVec 8)) (z:Int)(h:32<z)(w:World)(hw:Gt w):Calls Tryz.prog 56 [.slice a1 msg.length cap1,.slice a2 dst.length cap2,I z].toArray w (fun e w'=>e=.returned (.tuple #[.slice none 0 0,I 130])∧Grow w w'):=by
 refine Hf func56 rfl hw<|fun hGF=>ak (E:=EE [96])<|Asg rfl<|Asg rfl<|aa<|ae<|ak (E:=EE [96])<|Mv rfl<|Bnb false rfl rfl (fun _=>aA _ _ _) (decide_eq_false (by omega))<|Mv rfl<|Mv rfl<|Bnb true rfl rfl (fun _=>aU _ _ _) (decide_eq_true (by omega))<|Pk rfl rfl rfl<|aa<|ba rfl<|ak (E:=EE [96])<|Asg rfl<|Asg rfl<|aa<|ap<|Rr<|?_
 exact cW rfl rfl rfl (fun w hw=>⟨rfl,ac hw⟩)
theorem pf_2(a1:Option Addr)(cap1:Nat)(msg:List (BitVec 8))(a2:Option Addr)(cap2:Nat)(dst:List (BitVec 8))(hc1:msg.length≤cap1)(hc2:dst.length≤cap2)(hl1:msg.length≤100000)(hl2:dst.length≤100000)(z:Int)(h0: ¬z<0)(h1: ¬32<z)(hl:255<dst.length∨65536<msg.length)(w:World)(hw:Gt w)(hb1:BytesAt w a1 msg)(hb2:BytesAt w a2 dst):Calls Tryz.prog 56 [.slice a1 msg.length cap1,.slice a2 dst.length cap2,I z].toArray w (fun e w'=>e=.returned (.tuple #[.slice none 0 0,I 130])∧Grow w w'):=by
 have hGF:BOk Gt (pl w):=gt_low.plain hw
 have hgw:Grow w w:=Grow.refl w
 refine Hd func56 rfl hGF<|ak (E:=EE [96])<|Asg rfl<|Asg rfl<|aa<|ae<|ak (E:=EE [96])<|Mv rfl<|Bnb false rfl rfl (fun _=>aA _ _ _) (decide_eq_false (by omega))<|Mv rfl<|Mv rfl<|Bnb false rfl rfl (fun _=>aU _ _ _) (decide_eq_false (by omega))<|Pk rfl rfl rfl<|aa<|aL rfl<|au<|ak (E:=EE [96])<|Mv rfl<|Mv rfl<|Mv rfl<|Bnr rfl rfl (fun _=>a7 _ _ _ (by unfold inI;omega))<|?_
 refine iW rfl rfl ent96 rfl rfl gt_low (ay hGF) (fun w' hC hG=>pxc a1 cap1 msg a2 cap2 dst (128*z) w' (by omega) hc1 (by omega) hc2 hG (hb1.grow (hgw.trans (ac hC))) (hb2.grow (hgw.trans (ac hC)))) (fun w0 w1 v h0 hg hG1 hq=> ?_)
 replace hgw:=hgw.trans ((ac h0).trans hg)
 clear h0 hg hGF
 have hGF:BOk Gt (pl w1):=gt_low.plain hG1
 obtain rfl:=hq.bad (hl.elim (fun h=>.inr (.inr (.inl h))) fun h=>.inr (.inr (.inr h)))
 refine Mv rfl<|Ext rfl rfl<|Ext rfl rfl<|Asg rfl<|Asg rfl<|aa<|ae<|ak (E:=EE [96])<|Mv rfl<|Bnb true rfl rfl (fun _=>cY _ _ _) (rfl)<|aa<|ba rfl<|ak (E:=EE [96])<|Mv rfl<|Asg rfl<|Asg rfl<|aa<|ap<|Rr<|?_
 exact cW rfl rfl rfl (fun w hw=>⟨rfl,hgw.trans (ac hw)⟩)
theorem Bd(f:Nat→List (BitVec 64))(z:List (BitVec 64))(n k:Nat)(hk:k<n)(hf:(f k).length=12):lay (0+12*k) ((f k).map U64) ((RW 12 (fun i=>if i<k then f i else z) n).map U64)=(RW 12 (fun i=>if i<k+1 then f i else z) n).map U64:=by
 rw[xI _ n k (f k) hk hf _ (by omega)]
 congr 1
 refine iU fun i _=> ?_
 by_cases h:i=k
 ·rw[if_pos h,if_pos (by omega),h]
 ·rw[if_neg h]
  by_cases h2:i<k
  ·rw[if_pos h2,if_pos (by omega)]
  ·rw[if_neg h2,if_neg (by omega)]
theorem GV(bs:List (BitVec 8))(k:Nat):fe (ZB ((bs.drop (64*(2*k))).take 64))++fe (ZB ((bs.drop (64*(2*k+1))).take 64))=N2r bs k:=by
 rw[N2r,N2,show 64*(2*k)=128*k by omega,show 64*(2*k+1)=128*k+64 by omega]
theorem JM(a1:Option Addr)(cap1:Nat)(msg:List (BitVec 8))(a2:Option Addr)(cap2:Nat)(dst:List (BitVec 8))(n:Nat)(hc1:msg.length≤cap1)(hc2:dst.length≤cap2)(hl1:msg.length≤100000)(hl2:dst.length≤100000)(hn:n≤32)(hd:dst.length≤255)(hm:msg.length≤65536)(w:World)(hw:Gt w)(hb1:BytesAt w a1 msg)(hb2:BytesAt w a2 dst):Calls Tryz.prog 56 [.slice a1 msg.length cap1,.slice a2 dst.length cap2,I (n:Int)].toArray w (fun e w'=> ∃a cap,e=.returned (.tuple #[.slice a n cap,I 0])∧Grow w w'∧At2 w w' a n (N2r (E msg dst (128*n)))):=by
 have hGF:BOk Gt (pl w):=gt_low.plain hw
 have hgw:Grow w w:=Grow.refl w
 refine Hd func56 rfl hGF<|ak (E:=EE [96])<|Asg rfl<|Asg rfl<|aa<|ae<|ak (E:=EE [96])<|Mv rfl<|Bnb false rfl rfl (fun _=>aA _ _ _) (decide_eq_false (by omega))<|Mv rfl<|Mv rfl<|Bnb false rfl rfl (fun _=>aU _ _ _) (decide_eq_false (by omega))<|Pk rfl rfl rfl<|aa<|aL rfl<|au<|ak (E:=EE [96])<|Mv rfl<|Mv rfl<|Mv rfl<|Bnr rfl rfl (fun _=>a7 _ _ _ (by unfold inI;omega))<|?_
 refine iW rfl rfl ent96 rfl rfl gt_low (ay hGF) (fun w' hC hG=>pxc a1 cap1 msg a2 cap2 dst (128*(n:Int)) w' (by omega) hc1 (by omega) hc2 hG (hb1.grow (hgw.trans (ac hC))) (hb2.grow (hgw.trans (ac hC)))) (fun w0 w1 v h0 hg hG1 hq=> ?_)
 replace hgw:=hgw.trans ((ac h0).trans hg)
 clear h0 hg hGF
 have hGF:BOk Gt (pl w1):=gt_low.plain hG1
 obtain ⟨xa,xc,rfl,hx,hle⟩:=hq.ok (by rintro (h|h|h|h)<;>omega)
 rw[show ((128:Int)*(n:Int)).toNat=128*n by omega]at*
 refine Mv rfl<|Ext rfl rfl<|Ext rfl rfl<|Asg rfl<|Asg rfl<|aa<|ae<|ak (E:=EE [96])<|Mv rfl<|Bnb false rfl rfl (fun _=>cY _ _ _) (rfl)<|aa<|aL rfl<|au<|ak (E:=EE [96])<|Mv rfl<|qq (l:=n) (m:=n) (c:=(RW 12 (fun _=>List.replicate 12 0#64) n).map U64) 30 hGF rfl rfl (Nat.le_refl _) underlying101 tiQ ⟨by omega,by omega,by omega⟩ (IX _ (by simp) _) rfl rfl<|fun b30=>Asg rfl<|aa<|ae<|ak (E:=EE [96])<|Mv rfl<|aZ rfl (fun _=>aC underlying101 _ _ _ _) rfl rfl<|Mv rfl<|aa<|ai<|bB (ι:={k:Nat // k≤n}) (fun z=>[(8,.slice xa (E msg dst (128*n)).length xc),(10,.slice (some ⟨b30,0,none⟩) n n),(32,I (n:Int)),(33,I (z.1:Int))]) (fun z=>[(30,b30,(RW 12 (fun i=>if i<z.1 then N2r (E msg dst (128*n)) i else List.replicate 12 0#64) n).map U64,29)]) (fun z=>n-z.1) ⟨0,by omega⟩ hGF ⟨rfl,rfl,rfl,rfl,trivial⟩ ⟨by rw[iU (s:=12) (g:=fun _=>List.replicate 12 0#64) (fun i _=>if_neg (Nat.not_lt_zero i))];rfl,trivial⟩<|?_
 rintro ⟨k,hk⟩
 dsimp only
 refine ak (E:=EE [96])<|Bnr rfl rfl (fun _=>aA _ _ _)<|aa<|ae<|?_
 refine bj rfl (fun hc=> ?_) (fun hc=> ?_)
 ·have hlt:k<n:=by simp at hc;omega
  clear hc
  refine au<|ae<|ai<|ak (E:=EE [96])<|Mv rfl<|Asg rfl<|aa<|cM (E:=EE [96])<|Mv rfl<|Mv rfl<|Mv rfl<|Mv rfl<|Bnr (v:=I ((2*k:Nat):Int)) rfl rfl (fun _=>(a7 _ _ _ (by unfold inI;omega)).trans (by rw[show (2:Int)*(k:Int)=((2*k:Nat):Int) by omega]))<|Cc rfl ent97 (fun w' hC hG=>tT xa _ xc (E msg dst (128*n)) rfl hle (2*k) (by rw[na];omega) (by rw[na];omega) w' hG (hx.grow (ac hC)))<|Mv rfl<|Mv rfl<|Bnr (v:=I ((2*k:Nat):Int)) rfl rfl (fun _=>(a7 _ _ _ (by unfold inI;omega)).trans (by rw[show (2:Int)*(k:Int)=((2*k:Nat):Int) by omega]))<|Bnr (v:=I ((2*k+1:Nat):Int)) rfl rfl (fun _=>(aw _ _ _ (by unfold inI;omega)).trans (by rfl))<|Cc rfl ent97 (fun w' hC hG=>tT xa _ xc (E msg dst (128*n)) rfl hle (2*k+1) (by rw[na];omega) (by rw[na];omega) w' hG (hx.grow (ac hC)))<|bP cO rfl rfl (by simp) (by simp) rfl rfl<|?_
  rw[GV]
  refine w7 (s:=12) k rfl rfl underlying101 sizeOf29 (by omega) (by omega) rfl rfl<|eN 30 hGF rfl rfl rfl sizeOf29 (by rw[List.length_map,N2r_len]) (bg _) (by rw[List.length_map,List.length_map,N2r_len,cF];omega) rfl<|?_
  rw[Bd (N2r (E msg dst (128*n))) _ n k hlt (N2r_len _ _)]
  refine aa<|cM (E:=EE [96])<|Bnr (v:=I ((k+1:Nat):Int)) rfl rfl (fun _=>(aw _ _ _ (by unfold inI;omega)).trans (by rfl))<|Mv rfl<|aa<|?_
  repeat (first|refine aR ?_|refine dH ?_)
  exact aG<|⟨rfl,⟨k+1,by omega⟩,_,by show n-(k+1)<n-k;omega,rfl,⟨rfl,rfl,rfl,rfl,trivial⟩,⟨rfl,trivial⟩⟩
 ·have hke:k=n:=by simp at hc;omega
  clear hc
  subst hke
  refine aT<|ak (E:=EE [96])<|Mv rfl<|Asg rfl<|Asg rfl<|aa<|ap<|?_
  repeat (first|refine ck ?_|refine cn ?_|refine kQ ?_)
  exact cW rfl rfl rfl (fun w hw=>⟨_,_,rfl,hgw.trans (ac hw),.inr ⟨b30,rfl,(hw.own 30 b30 _ _ rfl).2.elim (fun h=>Nat.le_trans hgw.size h) False.elim,by rw[←iU (s:=12) (fun i hi=>if_pos hi)];exact (hw.own 30 b30 _ _ rfl).1.range⟩⟩)
theorem pfc:PFC:=by
 intro a1 cap1 msg a2 cap2 dst z w hl1 hc1 hl2 hc2 hw hb1 hb2
 have err:FBad msg dst z→∀{e:Ending} {w':World},e=.returned (.tuple #[.slice none 0 0,I 130])∧Grow w w'→∃v,e=.returned v∧Grow w w'∧RFt msg dst z w w' v:=fun hb _ _ h=>⟨_,h.1,h.2,fun _=>rfl,fun hn=>absurd hb hn⟩
 by_cases h0:z<0
 ·exact (pf_0 a1 cap1 msg a2 cap2 dst z h0 w hw).mono fun _ _ h=>err (.inl h0) h
 by_cases h1:32<z
 ·exact (pf_1 a1 cap1 msg a2 cap2 dst z h1 w hw).mono fun _ _ h=>err (.inr (.inl h1)) h
 by_cases h2:255<dst.length∨65536<msg.length
 ·exact (pf_2 a1 cap1 msg a2 cap2 dst hc1 hc2 hl1 hl2 z h0 h1 h2 w hw hb1 hb2).mono fun _ _ h=>err (.inr (.inr h2)) h
 obtain ⟨n,rfl⟩: ∃n:Nat,z=(n:Int):=⟨z.toNat,by omega⟩
 refine (JM a1 cap1 msg a2 cap2 dst n hc1 hc2 hl1 hl2 (by omega) (by omega) (by omega) w hw hb1 hb2).mono fun e w' ⟨a,cap,he,hg,hc⟩=>⟨_,he,hg,fun hb=>absurd hb ?_,fun _=>⟨a,cap,rfl,hc⟩⟩
 rintro (h|h|h|h)<;>omega
end Xm
end
end Go.Proofs.YtodgbdcjjhmnkaaGreatDoor
