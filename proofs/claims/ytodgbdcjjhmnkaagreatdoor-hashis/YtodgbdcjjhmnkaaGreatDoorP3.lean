/-
 The walk of pharosref1.Pad.
 The walks of pharosref1.Table and pharosref1.New.
 The walk of Maker.Sum.
 The document's sum is SHA: the reference's words, rounds and blocks against the program's.
 Sums reckoned by numbers, for the kernel. Nothing here names a program.
-/
import Derived.Test.YtodgbdcjjhmnkaaGreatDoorP2
import Derived.Test.YtodgbdcjjhmnkaaGreatDoorX2
import Derived.Test.YtodgbdcjjhmnkaaGreatDoorXW
set_option maxRecDepth 100000
set_option maxHeartbeats 1000000
namespace Go.Proofs.YtodgbdcjjhmnkaaGreatDoor
open Go.Proofs.Tryz
section
open Go.RowKit
namespace Sh
def PD(bs:List (BitVec 8))(k:Nat):List (BitVec 8):=bs++([128#8]++List.replicate k 0#8)
theorem vL(bs:List (BitVec 8))(k:Nat):PD bs k++[0#8]=PD bs (k+1):=by
 simp[PD,List.replicate_succ']
theorem tF(bs:List (BitVec 8))(k:Nat):(PD bs k).length=bs.length+1+k:=by simp[PD];omega
def nz(bs:List (BitVec 8)):Nat:=(120-(bs.length+1) % 64) % 64
def nb(n:BitVec 64)(j:Nat):BitVec 8:=(n>>>(8*(7-(j:Int))).toNat).setWidth 8
def PE(bs:List (BitVec 8))(n:BitVec 64):Nat→List (BitVec 8)
 |0=>PD bs (nz bs)
 |j+1=>PE bs n j++[nb n j]
theorem kO(bs:List (BitVec 8))(n:BitVec 64): ∀j,(PE bs n j).length=bs.length+1+nz bs+j
 |0=>tF bs _
 |j+1=>by rw[PE,List.length_append,kO bs n j];rfl
def PAD(bs:List (BitVec 8)):List (BitVec 8):=PE bs (BitVec.ofInt 64 bs.length*8#64) 8
structure PdSt(bs:List (BitVec 8)) where
 (k b:Nat) (c:List Value)
 hk:k+(120-(bs.length+1+k) % 64) % 64=nz bs
 h1:(PD bs k).length≤c.length
 h2:c.take (PD bs k).length=(PD bs k).map U8
structure PeSt(bs:List (BitVec 8))(n:BitVec 64) where
 (j b:Nat) (c:List Value)
 hj:j≤8
 h1:(PE bs n j).length≤c.length
 h2:c.take (PE bs n j).length=(PE bs n j).map U8
theorem wG(a:Option Addr)(cap:Nat)(bs:List (BitVec 8))(hl:bs.length≤70368744170000)(w:World)(hw:Gt w)(hby:BytesAt w a bs):
 Calls Tryz.prog 147 [.slice a bs.length cap].toArray w (fun e w'=> ∃sv,e=.returned sv∧Grow w w'∧Cln w w' (PAD bs) sv):=by
 refine Hf func147 rfl hw<|fun hGF=>Xp<|Asg rfl<|aa<|Xp<|Mv rfl<|?_
 refine bF (xs:=[]) (ys:=bs) 3 hGF rfl rfl underlying22 underlying22 ti5 (fI _ _ _) (fun w' h=>hby.grow (ac h)) (by simpa using Nat.le_trans hl (by decide)) rfl rfl (fun h0=> ?_) (fun b7 c7 cap7 e7 l7 t7=> ?_)
 ·have hbs:bs=[]:=h0
  subst hbs
  clear h0
  refine dX 8 [128#8] hGF rfl rfl rfl (by decide) (by decide) underlying22 sizeOf5 zeroValue5 rfl rfl ?_
  intro b8
  refine bF (xs:=[]) (ys:=[128#8]) 3 hGF rfl rfl underlying22 underlying22 ti5 (fI _ _ _) (fun w' h=>BytesAt.range (aU (n:=8) rfl w' h)) (by decide) rfl rfl (fun h0=> ?_) (fun b9 c9 cap9 e9 l9 t9=> ?_)
  ·simp at h0
  subst e9
  refine Asg rfl<|aa<|ah<|ai<|bg (ι:=PdSt ([]:List (BitVec 8))) (fun x=>[(0,.slice a (List.length ([]:List (BitVec 8))) cap),(3,.slice (some ⟨x.b,0,none⟩) (PD ([]:List (BitVec 8)) x.k).length x.c.length)]) (fun x=>[(3,x.b,x.c,5)]) (fun x=>nz ([]:List (BitVec 8))-x.k) ⟨0,b9,c9,by unfold nz;rw[Nat.zero_add,Nat.add_zero],l9,t9⟩ hGF ⟨rfl,rfl,trivial⟩ ⟨rfl,trivial⟩<|?_
  intro x
  have hk:=x.hk
  have hln:=tF ([]:List (BitVec 8)) x.k
  clear l9 t9
  refine ah<|Xp<|Mv rfl<|aZ rfl (fun _=>aC underlying22 _ _ _ _) rfl rfl<|bO (v:=I (((PD ([]:List (BitVec 8)) x.k).length % 64:Nat):Int)) rfl rfl (fun _=>rfl) (fun _=>cV _ _ _ (by decide)) rfl rfl<|Bnr rfl rfl (fun _=>bK _ _ _)<|aa<|?_
  refine ba rfl (fun hc=> ?_) (fun hc=> ?_)
  ·have hne:(PD ([]:List (BitVec 8)) x.k).length % 64≠56:=by have:=bne_iff_ne.1 hc;omega
   refine au<|ai<|Xq<|Mv rfl<|dX 15 [0#8] hGF rfl rfl rfl (by decide) (by decide) underlying22 sizeOf5 zeroValue5 rfl rfl<|?_
   intro b15
   refine bF (xs:=PD ([]:List (BitVec 8)) x.k) (ys:=[0#8]) 3 hGF rfl rfl underlying22 underlying22 ti5 (.inr ⟨x.b,x.c,rfl,rfl,rfl,x.h1,x.h2⟩) (fun w' h=>BytesAt.range (aU (n:=15) rfl w' h)) (by show (PD ([]:List (BitVec 8)) x.k).length+1≤_;rw[hln];unfold nz at hk;omega) rfl rfl (fun h0=> ?_) (fun b16 c16 cap16 e16 l16 t16=> ?_)
   ·simp at h0
   subst e16
   rw[vL]at l16 t16⊢
   refine Asg rfl<|aa<|?_
   repeat (refine aJ ?_)
   exact aA<|⟨rfl,⟨x.k+1,b16,c16,by unfold nz at hk⊢;omega,l16,t16⟩,_,by show nz ([]:List (BitVec 8))-(x.k+1)<nz ([]:List (BitVec 8))-x.k;unfold nz at hk⊢;omega,rfl,⟨rfl,rfl,trivial⟩,⟨rfl,trivial⟩⟩
  ·obtain ⟨k,bb,cc,hk',h1,h2⟩:=x
   dsimp only at hc hk hln⊢
   obtain rfl:k=nz ([]:List (BitVec 8)):=by
    have:=bne_eq_false_iff_eq.1 hc
    unfold nz at hk⊢
    omega
   clear hc hk hln hk'
   refine aM<|Xp<|Mv rfl<|aZ rfl (fun _=>aC underlying22 _ _ _ _) rfl rfl<|bt rfl rfl (fun _=>d8 underlying3 underlying24 _) rfl rfl<|Bnr rfl rfl (fun _=>bE _ _ _)<|Asg rfl<|aa<|ah<|Xp<|Asg rfl<|aa<|ai<|bg (ι:=PeSt ([]:List (BitVec 8)) (BitVec.ofInt 64 (List.length ([]:List (BitVec 8)))*8#64)) (fun y=>[(3,.slice (some ⟨y.b,0,none⟩) (PE ([]:List (BitVec 8)) (BitVec.ofInt 64 (List.length ([]:List (BitVec 8)))*8#64) y.j).length y.c.length),(4,U64 (BitVec.ofInt 64 (List.length ([]:List (BitVec 8)))*8#64)),(5,I (7-(y.j:Int)))]) (fun y=>[(3,y.b,y.c,5)]) (fun y=>8-y.j) ⟨0,bb,cc,by decide,h1,h2⟩ hGF ⟨rfl,rfl,rfl,trivial⟩ ⟨rfl,trivial⟩<|?_
   clear h1 h2
   intro x
   have hj:=x.hj
   refine ah<|Xp<|Mv rfl<|Bnr rfl rfl (fun _=>cS _ _ _)<|aa<|?_
   refine ba rfl (fun hc=> ?_) (fun hc=> ?_)
   ·simp only[decide_eq_true_eq]at hc
    refine au<|ah<|ai<|Xq<|Mv rfl<|Mv rfl<|Mv rfl<|Bnr rfl rfl (fun _=>aT _ _ _ (by unfold inI;omega))<|Bnr rfl rfl (fun _=>cy _ _ _ (by omega))<|bt rfl rfl (fun _=>ej underlying24 underlying5 _) rfl rfl<|dX 31 [nb (BitVec.ofInt 64 (List.length ([]:List (BitVec 8)))*8#64) x.j] hGF rfl rfl rfl (by decide) (by decide) underlying22 sizeOf5 zeroValue5 rfl rfl<|?_
    intro b31
    refine bF (xs:=PE ([]:List (BitVec 8)) (BitVec.ofInt 64 (List.length ([]:List (BitVec 8)))*8#64) x.j) (ys:=[nb (BitVec.ofInt 64 (List.length ([]:List (BitVec 8)))*8#64) x.j]) 3 hGF rfl rfl underlying22 underlying22 ti5 (.inr ⟨x.b,x.c,rfl,rfl,rfl,x.h1,x.h2⟩) (fun w' h=>BytesAt.range (aU (n:=31) rfl w' h)) (by show (PE ([]:List (BitVec 8)) (BitVec.ofInt 64 (List.length ([]:List (BitVec 8)))*8#64) x.j).length+1≤_;rw[kO];unfold nz;omega) rfl rfl (fun h0=> ?_) (fun b32 c32 cap32 e32 l32 t32=> ?_)
    ·simp at h0
    subst e32
    refine Asg rfl<|aa<|Xq<|Mv rfl<|Bnr rfl rfl (fun _=>aL _ _ _ (by unfold inI;omega))<|Asg rfl<|aa<|?_
    repeat (refine aJ ?_)
    exact aA<|⟨rfl,⟨x.j+1,b32,c32,by omega,l32,t32⟩,_,by show 8-(x.j+1)<8-x.j;omega,rfl,⟨rfl,rfl,congrArg (fun z=>some (I z)) (by show 7-(x.j:Int)-1=7-((x.j+1:Nat):Int);omega),trivial⟩,⟨rfl,trivial⟩⟩
   ·simp only[decide_eq_false_iff_not]at hc
    refine aM<|Xp<|Mv rfl<|Asg rfl<|aa<|aq<|Rr<|?_
    have h8:x.j=8:=by omega
    obtain ⟨j,b,c,hj',h1,h2⟩:=x
    dsimp only at h8
    subst h8
    exact aQ rfl rfl (fun w hw=>⟨_,rfl,ac hw,.inr ⟨b,c,_,rfl,(hw.own 3 b _ _ rfl).2.elim id False.elim,(hw.own 3 b _ _ rfl).1,rfl,h1,h2⟩⟩)
 ·subst e7
  refine dX 8 [128#8] hGF rfl rfl rfl (by decide) (by decide) underlying22 sizeOf5 zeroValue5 rfl rfl ?_
  intro b8
  refine bF (xs:=bs) (ys:=[128#8]) 3 hGF rfl rfl underlying22 underlying22 ti5 (.inr ⟨b7,c7,rfl,rfl,rfl,l7,t7⟩) (fun w' h=>BytesAt.range (aU (n:=8) rfl w' h)) (by show bs.length+1≤_;omega) rfl rfl (fun h0=> ?_) (fun b9 c9 cap9 e9 l9 t9=> ?_)
  ·simp at h0
  subst e9
  refine Asg rfl<|aa<|ah<|ai<|bg (ι:=PdSt bs) (fun x=>[(0,.slice a (List.length bs) cap),(3,.slice (some ⟨x.b,0,none⟩) (PD bs x.k).length x.c.length)]) (fun x=>[(3,x.b,x.c,5)]) (fun x=>nz bs-x.k) ⟨0,b9,c9,by unfold nz;rw[Nat.zero_add,Nat.add_zero],l9,t9⟩ hGF ⟨rfl,rfl,trivial⟩ ⟨rfl,trivial⟩<|?_
  intro x
  have hk:=x.hk
  have hln:=tF bs x.k
  clear l9 t9
  refine ah<|Xp<|Mv rfl<|aZ rfl (fun _=>aC underlying22 _ _ _ _) rfl rfl<|Bnr (v:=I (((PD bs x.k).length % 64:Nat):Int)) rfl rfl (fun _=>cV _ _ _ (by decide))<|Bnr rfl rfl (fun _=>bK _ _ _)<|aa<|?_
  refine ba rfl (fun hc=> ?_) (fun hc=> ?_)
  ·have hne:(PD bs x.k).length % 64≠56:=by have:=bne_iff_ne.1 hc;omega
   refine au<|ai<|Xq<|Mv rfl<|dX 15 [0#8] hGF rfl rfl rfl (by decide) (by decide) underlying22 sizeOf5 zeroValue5 rfl rfl<|?_
   intro b15
   refine bF (xs:=PD bs x.k) (ys:=[0#8]) 3 hGF rfl rfl underlying22 underlying22 ti5 (.inr ⟨x.b,x.c,rfl,rfl,rfl,x.h1,x.h2⟩) (fun w' h=>BytesAt.range (aU (n:=15) rfl w' h)) (by show (PD bs x.k).length+1≤_;rw[hln];unfold nz at hk;omega) rfl rfl (fun h0=> ?_) (fun b16 c16 cap16 e16 l16 t16=> ?_)
   ·simp at h0
   subst e16
   rw[vL]at l16 t16⊢
   refine Asg rfl<|aa<|?_
   repeat (refine aJ ?_)
   exact aA<|⟨rfl,⟨x.k+1,b16,c16,by unfold nz at hk⊢;omega,l16,t16⟩,_,by show nz bs-(x.k+1)<nz bs-x.k;unfold nz at hk⊢;omega,rfl,⟨rfl,rfl,trivial⟩,⟨rfl,trivial⟩⟩
  ·obtain ⟨k,bb,cc,hk',h1,h2⟩:=x
   dsimp only at hc hk hln⊢
   obtain rfl:k=nz bs:=by
    have:=bne_eq_false_iff_eq.1 hc
    unfold nz at hk⊢
    omega
   clear hc hk hln hk'
   refine aM<|Xp<|Mv rfl<|aZ rfl (fun _=>aC underlying22 _ _ _ _) rfl rfl<|bt rfl rfl (fun _=>d8 underlying3 underlying24 _) rfl rfl<|Bnr rfl rfl (fun _=>bE _ _ _)<|Asg rfl<|aa<|ah<|Xp<|Asg rfl<|aa<|ai<|bg (ι:=PeSt bs (BitVec.ofInt 64 bs.length*8#64)) (fun y=>[(3,.slice (some ⟨y.b,0,none⟩) (PE bs (BitVec.ofInt 64 bs.length*8#64) y.j).length y.c.length),(4,U64 (BitVec.ofInt 64 bs.length*8#64)),(5,I (7-(y.j:Int)))]) (fun y=>[(3,y.b,y.c,5)]) (fun y=>8-y.j) ⟨0,bb,cc,by decide,h1,h2⟩ hGF ⟨rfl,rfl,rfl,trivial⟩ ⟨rfl,trivial⟩<|?_
   clear h1 h2
   intro x
   have hj:=x.hj
   refine ah<|Xp<|Mv rfl<|Bnr rfl rfl (fun _=>cS _ _ _)<|aa<|?_
   refine ba rfl (fun hc=> ?_) (fun hc=> ?_)
   ·simp only[decide_eq_true_eq]at hc
    refine au<|ah<|ai<|Xq<|Mv rfl<|Mv rfl<|Mv rfl<|Bnr rfl rfl (fun _=>aT _ _ _ (by unfold inI;omega))<|Bnr rfl rfl (fun _=>cy _ _ _ (by omega))<|bt rfl rfl (fun _=>ej underlying24 underlying5 _) rfl rfl<|dX 31 [nb (BitVec.ofInt 64 bs.length*8#64) x.j] hGF rfl rfl rfl (by decide) (by decide) underlying22 sizeOf5 zeroValue5 rfl rfl<|?_
    intro b31
    refine bF (xs:=PE bs (BitVec.ofInt 64 bs.length*8#64) x.j) (ys:=[nb (BitVec.ofInt 64 bs.length*8#64) x.j]) 3 hGF rfl rfl underlying22 underlying22 ti5 (.inr ⟨x.b,x.c,rfl,rfl,rfl,x.h1,x.h2⟩) (fun w' h=>BytesAt.range (aU (n:=31) rfl w' h)) (by show (PE bs (BitVec.ofInt 64 bs.length*8#64) x.j).length+1≤_;rw[kO];unfold nz;omega) rfl rfl (fun h0=> ?_) (fun b32 c32 cap32 e32 l32 t32=> ?_)
    ·simp at h0
    subst e32
    refine Asg rfl<|aa<|Xq<|Mv rfl<|Bnr rfl rfl (fun _=>aL _ _ _ (by unfold inI;omega))<|Asg rfl<|aa<|?_
    repeat (refine aJ ?_)
    exact aA<|⟨rfl,⟨x.j+1,b32,c32,by omega,l32,t32⟩,_,by show 8-(x.j+1)<8-x.j;omega,rfl,⟨rfl,rfl,congrArg (fun z=>some (I z)) (by show 7-(x.j:Int)-1=7-((x.j+1:Nat):Int);omega),trivial⟩,⟨rfl,trivial⟩⟩
   ·simp only[decide_eq_false_iff_not]at hc
    refine aM<|Xp<|Mv rfl<|Asg rfl<|aa<|aq<|Rr<|?_
    have h8:x.j=8:=by omega
    obtain ⟨j,b,c,hj',h1,h2⟩:=x
    dsimp only at h8
    subst h8
    exact aQ rfl rfl (fun w hw=>⟨_,rfl,ac hw,.inr ⟨b,c,_,rfl,(hw.own 3 b _ _ rfl).2.elim id False.elim,(hw.own 3 b _ _ rfl).1,rfl,h1,h2⟩⟩)
end Sh
end
section
open Go.RowKit
namespace Sh
theorem zv77: ∀w,(zeroValue 77).run Tryz.prog w=.ok (.agg ((List.replicate 72 0#32).map U32).toArray) w:=fun _=>by kernel_rfl
def MK:List (BitVec 32):=IV++KW
theorem tB:Pure Tryz.prog Gt 29 [] (.tuple #[.agg (IV.map U32).toArray,.agg (KW.map U32).toArray]):=by
 intro w hw
 refine Hf func29 rfl hw<|fun hGF=>Xp<|Al 0 hGF zv74<|fun b0=>Al 1 hGF zv75<|fun b1=>aa<|Xp<|bi (n:=8) rfl rfl underlying74 sizeOf73 zeroValue74 rfl rfl rfl rfl<|bi (n:=64) rfl rfl underlying75 sizeOf73 zeroValue75 rfl rfl rfl rfl<|aF (vs:=IV.map U32) 0 hGF rfl rfl rfl sizeOf74 rfl (by rw[List.length_map,List.length_replicate]) (dh _) rfl<|aF (vs:=KW.map U32) 1 hGF rfl rfl rfl sizeOf75 rfl (by rw[List.length_map,List.length_replicate]) (dh _) rfl<|aa<|aq<|Rr<|?_
 exact y7 (c1:=IV.map U32) (c2:=KW.map U32) 0 1 rfl rfl rfl rfl rfl isAgg74 sizeOf74 rfl isAgg75 sizeOf75 rfl (fun w hw=>⟨rfl,ac hw⟩)
theorem nJ(w:World)(hw:Gt w):Calls Tryz.prog 8 [].toArray w (fun e w'=> ∃bm,e=.returned (.pointer (some ⟨bm,0,none⟩))∧Grow w w'∧w.heap.size≤bm∧OwnB w' bm (MK.map U32) 77):=by
 refine Hf func8 rfl hw<|fun hGF=>Xp<|Asg rfl<|aa<|Xp<|dO zv77 underlying77 (fun _=>⟨#[(0,8),(8,64)],by kernel_rfl⟩) rfl rfl<|Bx 3 hGF rfl<|fun b3=>Asg rfl<|aa<|Xp<|Mv rfl<|Mv rfl<|Ca rfl (tB)<|Mv rfl<|Ext rfl rfl<|Ext rfl rfl<|cG rfl rfl rfl<|Fa 0 rfl underlying77 rfl sizeOf74<|eo (vs:=IV.map U32) 3 hGF rfl rfl rfl sizeOf74 rfl (dh _) (by decide) rfl<|cG rfl rfl rfl<|Fa 8 rfl underlying77 rfl sizeOf75<|eo (vs:=KW.map U32) 3 hGF rfl rfl rfl sizeOf75 rfl (dh _) (by decide) rfl<|?_
 rw[show lay 8 (KW.map U32) (lay 0 (IV.map U32) ((List.replicate 72 0#32).map U32))=MK.map U32 from rfl]
 refine aa<|Xp<|Mv rfl<|Asg rfl<|aa<|aq<|Rr<|?_
 exact aQ rfl rfl (fun w hw=>⟨b3,rfl,ac hw,(hw.own 3 b3 _ _ rfl).2.elim id False.elim,(hw.own 3 b3 _ _ rfl).1⟩)
end Sh
end
section
open Go.RowKit
set_option maxHeartbeats 2000000
namespace Sh
theorem xp(xs:List (BitVec 8))(tail:List Value)(i:Nat)(h:i<xs.length):(xs.map U8++tail)[i]? =some (U8 (xs.getD i 0)):=by
 rw[List.getElem?_append_left (by simpa using h)]
 exact gm U8 xs 0 i h
def wk(p:List (BitVec 8))(o:Nat)(x:BitVec 32):Nat→BitVec 32
 |0=>x
 |k+1=>(wk p o x k<<<8)|||(p.getD (o+k) 0).setWidth 32
def V1(p:List (BitVec 8))(q:Nat):Nat→List (BitVec 32)
 |0=>List.replicate 64 0#32
 |i+1=>(V1 p q i).set i (wk p (q+4*i) ((V1 p q i).getD i 0) 4)
theorem kI(p:List (BitVec 8))(q:Nat): ∀i,(V1 p q i).length=64
 |0=>by simp[V1]
 |i+1=>by simp[V1,kI p q i]
theorem mg(l:List (BitVec 32))(i:Nat)(h:i<l.length):l=l.set i (l.getD i 0):=by
 have e:l.getD i 0=l[i]:=by simp[h]
 rw[e,List.set_getElem_self]
theorem mY(l:List (BitVec 32))(i:Nat)(x:BitVec 32)(h:i<l.length):(l.set i x).getD i 0=x:=by simp[h]
def r0(x:BitVec 32):BitVec 32:=turn x 7^^^turn x 18^^^(x>>>3)
def r1(x:BitVec 32):BitVec 32:=turn x 17^^^turn x 19^^^(x>>>10)
def r5(ws:List (BitVec 32))(i:Nat):BitVec 32:=ws.getD (i-16) 0+r0 (ws.getD (i-15) 0)+ws.getD (i-7) 0+r1 (ws.getD (i-2) 0)
def V2(p:List (BitVec 8))(q:Nat):Nat→List (BitVec 32)
 |0=>V1 p q 16
 |j+1=>(V2 p q j).set (16+j) (r5 (V2 p q j) (16+j))
theorem ju(p:List (BitVec 8))(q:Nat): ∀j,(V2 p q j).length=64
 |0=>kI p q 16
 |j+1=>by simp[V2,ju p q j]
def rt(v:List (BitVec 32))(k w:BitVec 32):BitVec 32:=v.getD 7 0+(turn (v.getD 4 0) 6^^^turn (v.getD 4 0) 11^^^turn (v.getD 4 0) 25)+((v.getD 4 0 &&& v.getD 5 0)^^^(~~~(v.getD 4 0) &&& v.getD 6 0))+k+w
def ru(v:List (BitVec 32)):BitVec 32:=(turn (v.getD 0 0) 2^^^turn (v.getD 0 0) 13^^^turn (v.getD 0 0) 22)+((v.getD 0 0 &&& v.getD 1 0)^^^(v.getD 0 0 &&& v.getD 2 0)^^^(v.getD 1 0 &&& v.getD 2 0))
def rr(v:List (BitVec 32))(k w:BitVec 32):List (BitVec 32):=[rt v k w+ru v,v.getD 0 0,v.getD 1 0,v.getD 2 0,v.getD 3 0+rt v k w,v.getD 4 0,v.getD 5 0,v.getD 6 0]
def RRs(h ws:List (BitVec 32)):Nat→List (BitVec 32)
 |0=>h
 |j+1=>rr (RRs h ws j) (MK.getD (8+j) 0) (ws.getD j 0)
theorem cF(h ws:List (BitVec 32))(hh:h.length=8): ∀j,(RRs h ws j).length=8
 |0=>hh
 |_+1=>rfl
def HAs(h v:List (BitVec 32)):Nat→List (BitVec 32)
 |0=>h
 |i+1=>(HAs h v i).set i ((HAs h v i).getD i 0+v.getD i 0)
theorem lH(h v:List (BitVec 32)): ∀j,(HAs h v j).length=h.length
 |0=>rfl
 |i+1=>by simp[HAs,lH h v i]
def RK(p:List (BitVec 8)):Nat→List (BitVec 32)
 |0=>IV
 |k+1=>HAs (RK p k) (RRs (RK p k) (V2 p (64*k) 48) 64) 8
theorem ce(p:List (BitVec 8)): ∀k,(RK p k).length=8
 |0=>rfl
 |k+1=>by rw[RK,lH,ce p k]
def OD(h:List (BitVec 32)):Nat→List (BitVec 8)
 |0=>List.replicate 32 0#8
 |i+1=>(OD h i).set i ((h.getD (i / 4) 0>>>(24-8*((i % 4:Nat):Int)).toNat).setWidth 8)
theorem mN(h:List (BitVec 32)): ∀j,(OD h j).length=32
 |0=>by simp[OD]
 |i+1=>by simp[OD,mN h i]
def DF(bs:List (BitVec 8)):List (BitVec 8):=OD (RK (PAD bs) ((PAD bs).length / 64)) 32
theorem iC:MK.length=72:=rfl
theorem Eb(bs:List (BitVec 8)):(PAD bs).length % 64=0:=by
 rw[PAD,kO]
 unfold nz
 omega
theorem s8(bm:Nat)(a:Option Addr)(cap:Nat)(bs:List (BitVec 8))(hl:bs.length≤70368744170000)(w:World)(hw:Gt w)(ho:OwnB w bm (MK.map U32) 77)(hby:BytesAt w a bs):
 Calls Tryz.prog 102 [.pointer (some ⟨bm,0,none⟩),.slice a bs.length cap].toArray w (fun e w'=>e=.returned (.agg ((DF bs).map U8).toArray)∧Grow w w'):=by
 refine Hf func102 rfl hw<|fun hGF=>ae (E:=EE [147])<|Al 4 hGF zv134<|fun b4=>aa<|ae (E:=EE [147])<|Mv rfl<|cG rfl rfl rfl<|Fa 0 rfl underlying77 rfl sizeOf74<|?_
 refine dB rfl isAgg74 sizeOf74 (cs:=IV.map U32) rfl (iE (B:=pl w) (nU ho (fun j v hv=>by rw[Nat.zero_add];show (MK.map U32)[j]? =some v;rw[MK,List.map_append,List.getElem?_append_left (by rcases Nat.lt_or_ge j (IV.map U32).length with h|h;exact h;rw[List.getElem?_eq_none h]at hv;cases hv)];exact hv)) (fun h=>h)) rfl rfl ?_
 refine Al 5 hGF zv74<|fun b5=>aF (vs:=IV.map U32) 5 hGF rfl rfl rfl sizeOf74 rfl (by rw[List.length_map,List.length_replicate]) (dh _) rfl<|aa<|ae (E:=EE [147])<|Mv rfl<|?_
 refine gq rfl rfl ent147 rfl rfl (fun w' hw'=>(wG _ _ bs hl w' (hGF.g _ _ _ hw') (hby.grow (ac hw'))).mono fun e w'' h=> ?_)
 obtain ⟨sv,rfl,hg,hcl⟩:=h
 rcases hcl with ⟨h0,_⟩|⟨b6,c,cap6,rfl,hb6,hob,hcc,hle,htk⟩
 ·exact absurd (congrArg List.length h0) (by rw[PAD,kO];simp)
 have hm64:=Eb bs
 have hpl:(PAD bs).length≤bs.length+200:=by rw[PAD,kO];unfold nz;omega
 rw[show DF bs=OD (RK (PAD bs) ((PAD bs).length / 64)) 32 from rfl]
 generalize PAD bs=p at hle htk hm64 hpl⊢
 refine ⟨_,_,rfl,az hGF,hw'.news ao hg [(6,b6,c,5)] ?_ bH, ?_⟩
 ·intro n' b' c' t' hl
  rcases aH hl with ⟨_,e⟩|⟨_,hl⟩
  ·cases e;exact ⟨hb6,hob⟩
  ·cases hl
 obtain ⟨tail,rfl⟩: ∃tail,c=p.map U8++tail:=⟨c.drop p.length,by rw[←htk,List.take_append_drop]⟩
 clear hw' hg hb6 hob hcc htk
 refine Asg rfl<|aa<|ah<|ae (E:=EE [147])<|Asg rfl<|aa<|ai<|bg (ι:={k:Nat // 64*k≤p.length}) (fun x=>[(0,.pointer (some ⟨bm,0,none⟩)),(4,.pointer (some ⟨b4,0,none⟩)),(5,.pointer (some ⟨b5,0,none⟩)),(6,.slice (some ⟨b6,0,none⟩) p.length cap6),(7,I ((64*x.1:Nat):Int))]) (fun x=>[(4,b4,(List.replicate 32 0#8).map U8,134),(6,b6,p.map U8++tail,5),(5,b5,(RK p x.1).map U32,74)]) (fun x=>p.length-x.1) ⟨0,by omega⟩ hGF ⟨rfl,rfl,rfl,rfl,rfl,trivial⟩ ⟨rfl,rfl,rfl,trivial⟩<|?_
 rintro ⟨k,hk⟩
 dsimp only
 refine ah<|ae (E:=EE [147])<|Mv rfl<|Mv rfl<|aZ rfl (fun _=>aC underlying22 _ _ _ _) rfl rfl<|Bnr rfl rfl (fun _=>av _ _ _)<|aa<|?_
 refine ba rfl (fun hc=> ?_) (fun hc=> ?_)
 ·simp only[decide_eq_true_eq]at hc
  have hk64:64*k+64≤p.length:=by omega
  refine au<|ah<|ai<|ae (E:=EE [147])<|Al 8 hGF zv75<|fun b8=>aa<|ah<|ae (E:=EE [147])<|Asg rfl<|aa<|ai<|bg (ι:={i:Nat // i≤16}) (fun x=>[(0,.pointer (some ⟨bm,0,none⟩)),(4,.pointer (some ⟨b4,0,none⟩)),(5,.pointer (some ⟨b5,0,none⟩)),(6,.slice (some ⟨b6,0,none⟩) p.length cap6),(7,I ((64*k:Nat):Int)),(8,.pointer (some ⟨b8,0,none⟩)),(9,I (x.1:Int))]) (fun x=>[(4,b4,(List.replicate 32 0#8).map U8,134),(6,b6,p.map U8++tail,5),(5,b5,(RK p k).map U32,74),(8,b8,(V1 p (64*k) x.1).map U32,75)]) (fun x=>16-x.1) ⟨0,by omega⟩ hGF ⟨rfl,rfl,rfl,rfl,rfl,rfl,rfl,trivial⟩ ⟨rfl,rfl,rfl,rfl,trivial⟩<|?_
  rintro ⟨i,hi⟩
  dsimp only
  refine ah<|ae (E:=EE [147])<|Mv rfl<|Bnr rfl rfl (fun _=>av _ _ _)<|aa<|?_
  refine ba rfl (fun hc=> ?_) (fun hc=> ?_)
  ·simp only[decide_eq_true_eq]at hc
   refine au<|ah<|ai<|ae (E:=EE [147])<|Asg rfl<|aa<|ai<|bg (ι:={m:Nat // m≤4}) (fun x=>[(0,.pointer (some ⟨bm,0,none⟩)),(4,.pointer (some ⟨b4,0,none⟩)),(5,.pointer (some ⟨b5,0,none⟩)),(6,.slice (some ⟨b6,0,none⟩) p.length cap6),(7,I ((64*k:Nat):Int)),(8,.pointer (some ⟨b8,0,none⟩)),(9,I (i:Int)),(10,I (x.1:Int))]) (fun x=>[(4,b4,(List.replicate 32 0#8).map U8,134),(6,b6,p.map U8++tail,5),(5,b5,(RK p k).map U32,74),(8,b8,((V1 p (64*k) i).set i (wk p (64*k+4*i) ((V1 p (64*k) i).getD i 0) x.1)).map U32,75)]) (fun x=>4-x.1) ⟨0,by omega⟩ hGF ⟨rfl,rfl,rfl,rfl,rfl,rfl,rfl,rfl,trivial⟩ ⟨rfl,rfl,rfl,congrArg (fun l=>some (b8,List.map U32 l,75)) (mg _ i (by rw[kI];omega)),trivial⟩<|?_
   rintro ⟨m,hm⟩
   dsimp only
   refine ah<|ae (E:=EE [147])<|Mv rfl<|Bnr rfl rfl (fun _=>av _ _ _)<|aa<|?_
   refine ba rfl (fun hc=> ?_) (fun hc=> ?_)
   ·simp only[decide_eq_true_eq]at hc
    have hq:64*k+4*i+m<p.length:=by omega
    refine au<|ah<|ai<|Xe [147]<|Mv rfl<|Mv rfl<|Ia (i) rfl rfl underlying75 sizeOf73<|Lm 8 U32 0 rfl rfl isAgg73 (by rw[List.length_set,kI];omega)<|?_
    rw[mY _ _ _ (by rw[kI];omega)]
    refine Bnr rfl rfl (fun _=>eZ _ _ _)<|Mv rfl<|Mv rfl<|Mv rfl<|Bnr rfl rfl (fun _=>aT _ _ _ (by unfold inI;omega))<|Bnr rfl rfl (fun _=>ap _ _ _ (by unfold inI;omega))<|Mv rfl<|Bnr rfl rfl (fun _=>ap _ _ _ (by unfold inI;omega))<|yF (64*k+4*i+m) rfl rfl underlying22 sizeOf5 (by omega) hq rfl rfl<|?_
    rw[Nat.zero_add]
    refine gx 6 rfl rfl (xp p tail (64*k+4*i+m) hq) isAgg5 rfl rfl<|bt rfl rfl (fun _=>e8 underlying5 underlying73 _) rfl rfl<|Bnr rfl rfl (fun _=>eN _ _ _)<|Ia (i) rfl rfl underlying75 sizeOf73<|aK 8 U32 hGF rfl rfl rfl sizeOf73 rfl (by rw[List.length_set,kI];omega) rfl<|?_
    rw[List.set_set]
    refine aa<|bM (E:=EE [147])<|Mv rfl<|Bnr rfl rfl (fun _=>ap _ _ _ (by unfold inI;omega))<|Asg rfl<|aa<|?_
    repeat (refine aJ ?_)
    exact aA<|⟨rfl,⟨m+1,by omega⟩,_,by show 4-(m+1)<4-m;omega,rfl,⟨rfl,rfl,rfl,rfl,rfl,rfl,rfl,rfl,trivial⟩,⟨rfl,rfl,rfl,rfl,trivial⟩⟩
   ·obtain rfl:m=4:=by simp at hc;omega
    refine aM<|bM (E:=EE [147])<|Mv rfl<|Bnr rfl rfl (fun _=>ap _ _ _ (by unfold inI;omega))<|Asg rfl<|aa<|?_
    repeat (refine aJ ?_)
    exact aA<|⟨rfl,⟨i+1,by omega⟩,_,by show 16-(i+1)<16-i;omega,rfl,⟨rfl,rfl,rfl,rfl,rfl,rfl,rfl,trivial⟩,⟨rfl,rfl,rfl,rfl,trivial⟩⟩
  ·obtain rfl:i=16:=by simp at hc;omega
   refine aM<|ah<|ae (E:=EE [147])<|Asg rfl<|aa<|ai<|bg (ι:={j:Nat // j≤48}) (fun x=>[(0,.pointer (some ⟨bm,0,none⟩)),(4,.pointer (some ⟨b4,0,none⟩)),(5,.pointer (some ⟨b5,0,none⟩)),(6,.slice (some ⟨b6,0,none⟩) p.length cap6),(7,I ((64*k:Nat):Int)),(8,.pointer (some ⟨b8,0,none⟩)),(11,I ((16+x.1:Nat):Int))]) (fun x=>[(4,b4,(List.replicate 32 0#8).map U8,134),(6,b6,p.map U8++tail,5),(5,b5,(RK p k).map U32,74),(8,b8,(V2 p (64*k) x.1).map U32,75)]) (fun x=>48-x.1) ⟨0,by omega⟩ hGF ⟨rfl,rfl,rfl,rfl,rfl,rfl,rfl,trivial⟩ ⟨rfl,rfl,rfl,rfl,trivial⟩<|?_
   rintro ⟨j,hj⟩
   dsimp only
   refine ah<|ae (E:=EE [147])<|Mv rfl<|Bnr rfl rfl (fun _=>av _ _ _)<|aa<|?_
   refine ba rfl (fun hc=> ?_) (fun hc=> ?_)
   ·simp only[decide_eq_true_eq]at hc
    refine au<|ah<|ai<|Xd [147]<|Mv rfl<|Bnr rfl rfl (fun _=>aL _ _ _ (by unfold inI;omega))<|Ia (((16+j)-15)) rfl rfl underlying75 sizeOf73<|Lm 8 U32 0 rfl rfl isAgg73 (by rw[ju];omega)<|Mv rfl<|Bnr rfl rfl (fun _=>aL _ _ _ (by unfold inI;omega))<|Ia (((16+j)-2)) rfl rfl underlying75 sizeOf73<|Lm 8 U32 0 rfl rfl isAgg73 (by rw[ju];omega)<|Asg rfl<|Asg rfl<|aa<|Xe [147]<|Mv rfl<|Mv rfl<|Bnr rfl rfl (fun _=>aL _ _ _ (by unfold inI;omega))<|Ia (((16+j)-16)) rfl rfl underlying75 sizeOf73<|Lm 8 U32 0 rfl rfl isAgg73 (by rw[ju];omega)<|Mv rfl<|Ca rfl (dd _ _ (by omega) (by omega))<|Mv rfl<|Ca rfl (dd _ _ (by omega) (by omega))<|Bnr rfl rfl (fun _=>a7 _ _ _)<|Mv rfl<|Bnr rfl rfl (fun _=>cX _ _ _)<|Bnr rfl rfl (fun _=>a7 _ _ _)<|Bnr rfl rfl (fun _=>aR _ _ _)<|Mv rfl<|Bnr rfl rfl (fun _=>aL _ _ _ (by unfold inI;omega))<|Ia (((16+j)-7)) rfl rfl underlying75 sizeOf73<|Lm 8 U32 0 rfl rfl isAgg73 (by rw[ju];omega)<|Bnr rfl rfl (fun _=>aR _ _ _)<|Mv rfl<|Ca rfl (dd _ _ (by omega) (by omega))<|Mv rfl<|Ca rfl (dd _ _ (by omega) (by omega))<|Bnr rfl rfl (fun _=>a7 _ _ _)<|?_
    refine Mv rfl<|Bnr rfl rfl (fun _=>cX _ _ _)<|Bnr rfl rfl (fun _=>a7 _ _ _)<|Bnr rfl rfl (fun _=>aR _ _ _)<|Ia ((16+j)) rfl rfl underlying75 sizeOf73<|aK 8 U32 hGF rfl rfl rfl sizeOf73 rfl (by rw[ju];omega) rfl<|aa<|bM (E:=EE [147])<|Mv rfl<|Bnr rfl rfl (fun _=>ap _ _ _ (by unfold inI;omega))<|Asg rfl<|aa<|?_
    repeat (refine aJ ?_)
    exact aA<|⟨rfl,⟨j+1,by omega⟩,_,by show 48-(j+1)<48-j;omega,rfl,⟨rfl,rfl,rfl,rfl,rfl,rfl,rfl,trivial⟩,⟨rfl,rfl,rfl,rfl,trivial⟩⟩
   ·obtain rfl:j=48:=by simp at hc;omega
    refine aM<|ae (E:=EE [147])<|Lw 5 rfl rfl nE (ce _ _)<|Al 14 hGF zv74<|fun b14=>Sx 14 hGF rfl rfl rfl nE (ce p k) (dh _)<|aa<|ah<|ae (E:=EE [147])<|Asg rfl<|aa<|ai<|bg (ι:={r:Nat // r≤64}) (fun x=>[(0,.pointer (some ⟨bm,0,none⟩)),(4,.pointer (some ⟨b4,0,none⟩)),(5,.pointer (some ⟨b5,0,none⟩)),(6,.slice (some ⟨b6,0,none⟩) p.length cap6),(7,I ((64*k:Nat):Int)),(8,.pointer (some ⟨b8,0,none⟩)),(14,.pointer (some ⟨b14,0,none⟩)),(15,I (x.1:Int))]) (fun x=>[(4,b4,(List.replicate 32 0#8).map U8,134),(6,b6,p.map U8++tail,5),(5,b5,(RK p k).map U32,74),(8,b8,(V2 p (64*k) 48).map U32,75),(14,b14,(RRs (RK p k) (V2 p (64*k) 48) x.1).map U32,74)]) (fun x=>64-x.1) ⟨0,by omega⟩ hGF ⟨rfl,rfl,rfl,rfl,rfl,rfl,rfl,rfl,trivial⟩ ⟨rfl,rfl,rfl,rfl,rfl,trivial⟩<|?_
    rintro ⟨r,hr⟩
    dsimp only
    refine ah<|ae (E:=EE [147])<|Mv rfl<|Bnr rfl rfl (fun _=>av _ _ _)<|aa<|?_
    refine ba rfl (fun hc=> ?_) (fun hc=> ?_)
    ·simp only[decide_eq_true_eq]at hc
     refine au<|ah<|ai<|Xd [147]<|Ia (4) rfl rfl underlying74 sizeOf73<|Lm 14 U32 0 rfl rfl isAgg73 (by rw[cF _ _ (ce p k)];omega)<|Ia (0) rfl rfl underlying74 sizeOf73<|Lm 14 U32 0 rfl rfl isAgg73 (by rw[cF _ _ (ce p k)];omega)<|Asg rfl<|Asg rfl<|aa<|Xd [147]<|Ia (7) rfl rfl underlying74 sizeOf73<|Lm 14 U32 0 rfl rfl isAgg73 (by rw[cF _ _ (ce p k)];omega)<|Mv rfl<|Ca rfl (dd _ _ (by omega) (by omega))<|Mv rfl<|Ca rfl (dd _ _ (by omega) (by omega))<|Bnr rfl rfl (fun _=>a7 _ _ _)<|Mv rfl<|Ca rfl (dd _ _ (by omega) (by omega))<|Bnr rfl rfl (fun _=>a7 _ _ _)<|Bnr rfl rfl (fun _=>aR _ _ _)<|Mv rfl<|Ia (5) rfl rfl underlying74 sizeOf73<|Lm 14 U32 0 rfl rfl isAgg73 (by rw[cF _ _ (ce p k)];omega)<|Bnr rfl rfl (fun _=>cx _ _ _)<|Mv rfl<|bT rfl (fun _=>mO _) rfl rfl<|Ia (6) rfl rfl underlying74 sizeOf73<|Lm 14 U32 0 rfl rfl isAgg73 (by rw[cF _ _ (ce p k)];omega)<|Bnr rfl rfl (fun _=>cx _ _ _)<|Bnr rfl rfl (fun _=>a7 _ _ _)<|Bnr rfl rfl (fun _=>aR _ _ _)<|Mv rfl<|Mv rfl<|cG rfl rfl rfl<|Fa 8 rfl underlying77 rfl sizeOf75<|IG (r) rfl rfl underlying75 sizeOf73 (by omega) (by omega) rfl rfl<|bC rfl isAgg73 (jz (B:=pl w) ((ho.cell (8+r)).trans (gm U32 MK 0 (8+r) (by rw[iC];omega))) (fun h=>h)) rfl rfl<|?_
     refine Bnr rfl rfl (fun _=>aR _ _ _)<|Mv rfl<|Ia (r) rfl rfl underlying75 sizeOf73<|Lm 8 U32 0 rfl rfl isAgg73 (by rw[ju];omega)<|Bnr rfl rfl (fun _=>aR _ _ _)<|Asg rfl<|aa<|Xd [147]<|Mv rfl<|Ca rfl (dd _ _ (by omega) (by omega))<|Mv rfl<|Ca rfl (dd _ _ (by omega) (by omega))<|Bnr rfl rfl (fun _=>a7 _ _ _)<|Mv rfl<|Ca rfl (dd _ _ (by omega) (by omega))<|Bnr rfl rfl (fun _=>a7 _ _ _)<|Mv rfl<|Ia (1) rfl rfl underlying74 sizeOf73<|Lm 14 U32 0 rfl rfl isAgg73 (by rw[cF _ _ (ce p k)];omega)<|Bnr rfl rfl (fun _=>cx _ _ _)<|Mv rfl<|Ia (2) rfl rfl underlying74 sizeOf73<|Lm 14 U32 0 rfl rfl isAgg73 (by rw[cF _ _ (ce p k)];omega)<|Bnr rfl rfl (fun _=>cx _ _ _)<|Bnr rfl rfl (fun _=>a7 _ _ _)<|Ia (1) rfl rfl underlying74 sizeOf73<|Lm 14 U32 0 rfl rfl isAgg73 (by rw[cF _ _ (ce p k)];omega)<|Ia (2) rfl rfl underlying74 sizeOf73<|Lm 14 U32 0 rfl rfl isAgg73 (by rw[cF _ _ (ce p k)];omega)<|Bnr rfl rfl (fun _=>cx _ _ _)<|Bnr rfl rfl (fun _=>a7 _ _ _)<|Bnr rfl rfl (fun _=>aR _ _ _)<|Asg rfl<|aa<|bM (E:=EE [147])<|Mv rfl<|Mv rfl<|Bnr rfl rfl (fun _=>aR _ _ _)<|Ia (0) rfl rfl underlying74 sizeOf73<|Lm 14 U32 0 rfl rfl isAgg73 (by rw[cF _ _ (ce p k)];omega)<|?_
     refine Ia (1) rfl rfl underlying74 sizeOf73<|Lm 14 U32 0 rfl rfl isAgg73 (by rw[cF _ _ (ce p k)];omega)<|Ia (2) rfl rfl underlying74 sizeOf73<|Lm 14 U32 0 rfl rfl isAgg73 (by rw[cF _ _ (ce p k)];omega)<|Ia (3) rfl rfl underlying74 sizeOf73<|Lm 14 U32 0 rfl rfl isAgg73 (by rw[cF _ _ (ce p k)];omega)<|Mv rfl<|Bnr rfl rfl (fun _=>aR _ _ _)<|Ia (4) rfl rfl underlying74 sizeOf73<|Lm 14 U32 0 rfl rfl isAgg73 (by rw[cF _ _ (ce p k)];omega)<|Ia (5) rfl rfl underlying74 sizeOf73<|Lm 14 U32 0 rfl rfl isAgg73 (by rw[cF _ _ (ce p k)];omega)<|Ia (6) rfl rfl underlying74 sizeOf73<|Lm 14 U32 0 rfl rfl isAgg73 (by rw[cF _ _ (ce p k)];omega)<|bi (n:=8) rfl rfl underlying74 sizeOf73 zeroValue74 rfl rfl rfl rfl<|aF 14 hGF rfl rfl rfl sizeOf74 rfl (by rw[List.length_map,cF _ _ (ce p k)]) rfl rfl<|aa<|bM (E:=EE [147])<|Mv rfl<|Bnr rfl rfl (fun _=>ap _ _ _ (by unfold inI;omega))<|Asg rfl<|aa<|?_
     repeat (refine aJ ?_)
     exact aA<|⟨rfl,⟨r+1,by omega⟩,_,by show 64-(r+1)<64-r;omega,rfl,⟨rfl,rfl,rfl,rfl,rfl,rfl,rfl,rfl,trivial⟩,⟨rfl,rfl,rfl,rfl,rfl,trivial⟩⟩
    ·obtain rfl:r=64:=by simp at hc;omega
     refine aM<|ae (E:=EE [147])<|Asg rfl<|aa<|ai<|bg (ι:={t:Nat // t≤8}) (fun x=>[(0,.pointer (some ⟨bm,0,none⟩)),(4,.pointer (some ⟨b4,0,none⟩)),(5,.pointer (some ⟨b5,0,none⟩)),(6,.slice (some ⟨b6,0,none⟩) p.length cap6),(7,I ((64*k:Nat):Int)),(8,.pointer (some ⟨b8,0,none⟩)),(14,.pointer (some ⟨b14,0,none⟩)),(20,I (x.1:Int))]) (fun x=>[(4,b4,(List.replicate 32 0#8).map U8,134),(6,b6,p.map U8++tail,5),(5,b5,(HAs (RK p k) (RRs (RK p k) (V2 p (64*k) 48) 64) x.1).map U32,74),(14,b14,(RRs (RK p k) (V2 p (64*k) 48) 64).map U32,74)]) (fun x=>8-x.1) ⟨0,by omega⟩ hGF ⟨rfl,rfl,rfl,rfl,rfl,rfl,rfl,rfl,trivial⟩ ⟨rfl,rfl,rfl,rfl,trivial⟩<|?_
     rintro ⟨t,ht⟩
     dsimp only
     refine ah<|ae (E:=EE [147])<|Mv rfl<|Bnr rfl rfl (fun _=>av _ _ _)<|aa<|?_
     refine ba rfl (fun hc=> ?_) (fun hc=> ?_)
     ·simp only[decide_eq_true_eq]at hc
      refine au<|ah<|ai<|Xe [147]<|Mv rfl<|Ia (t) rfl rfl underlying74 sizeOf73<|Lm 5 U32 0 rfl rfl isAgg73 (by rw[lH,ce];omega)<|Mv rfl<|Ia (t) rfl rfl underlying74 sizeOf73<|Lm 14 U32 0 rfl rfl isAgg73 (by rw[cF _ _ (ce p k)];omega)<|Bnr rfl rfl (fun _=>aR _ _ _)<|Ia (t) rfl rfl underlying74 sizeOf73<|aK 5 U32 hGF rfl rfl rfl sizeOf73 rfl (by rw[lH,ce];omega) rfl<|aa<|bM (E:=EE [147])<|Mv rfl<|Bnr rfl rfl (fun _=>ap _ _ _ (by unfold inI;omega))<|Asg rfl<|aa<|?_
      repeat (refine aJ ?_)
      exact aA<|⟨rfl,⟨t+1,by omega⟩,_,by show 8-(t+1)<8-t;omega,rfl,⟨rfl,rfl,rfl,rfl,rfl,rfl,rfl,rfl,trivial⟩,⟨rfl,rfl,rfl,rfl,trivial⟩⟩
     ·obtain rfl:t=8:=by simp at hc;omega
      refine aM<|bM (E:=EE [147])<|Mv rfl<|Bnr rfl rfl (fun _=>ap _ _ _ (by unfold inI;omega))<|Asg rfl<|aa<|?_
      repeat (refine aJ ?_)
      exact aA<|⟨rfl,⟨k+1,by omega⟩,_,by show p.length-(k+1)<p.length-k;omega,rfl,⟨rfl,rfl,rfl,rfl,rfl,trivial⟩,⟨rfl,rfl,rfl,trivial⟩⟩
 ·simp only[decide_eq_false_iff_not]at hc
  obtain rfl:k=p.length / 64:=by omega
  clear hc hk
  refine aM<|ae (E:=EE [147])<|Al 21 hGF zv134<|fun b21=>aa<|ah<|ae (E:=EE [147])<|Asg rfl<|aa<|ai<|bg (ι:={i:Nat // i≤32}) (fun x=>[(4,.pointer (some ⟨b4,0,none⟩)),(5,.pointer (some ⟨b5,0,none⟩)),(21,.pointer (some ⟨b21,0,none⟩)),(22,I (x.1:Int))]) (fun x=>[(4,b4,(List.replicate 32 0#8).map U8,134),(5,b5,(RK p (p.length / 64)).map U32,74),(21,b21,(OD (RK p (p.length / 64)) x.1).map U8,134)]) (fun x=>32-x.1) ⟨0,by omega⟩ hGF ⟨rfl,rfl,rfl,rfl,trivial⟩ ⟨rfl,rfl,rfl,trivial⟩<|?_
  rintro ⟨i,hi⟩
  dsimp only
  refine ah<|ae (E:=EE [147])<|Mv rfl<|Bnr rfl rfl (fun _=>av _ _ _)<|aa<|?_
  refine ba rfl (fun hc=> ?_) (fun hc=> ?_)
  ·simp only[decide_eq_true_eq]at hc
   refine au<|ah<|ai<|bM (E:=EE [147])<|Mv rfl<|Mv rfl<|Bnr (v:=I ((i / 4:Nat):Int)) rfl rfl (fun _=>dS _ _ _ (by decide) (show inI ((i / 4:Nat):Int) by unfold inI;omega))<|Ia ((i / 4)) rfl rfl underlying74 sizeOf73<|Lm 5 U32 0 rfl rfl isAgg73 (by rw[ce];omega)<|Mv rfl<|Bnr (v:=I ((i % 4:Nat):Int)) rfl rfl (fun _=>cV _ _ _ (by decide))<|Bnr rfl rfl (fun _=>aT _ _ _ (by unfold inI;omega))<|Bnr rfl rfl (fun _=>aL _ _ _ (by unfold inI;omega))<|Bnr rfl rfl (fun _=>jc _ _ _ (by omega))<|bt rfl rfl (fun _=>fh underlying73 underlying5 _) rfl rfl<|Ia (i) rfl rfl underlying134 sizeOf5<|aK 21 U8 hGF rfl rfl rfl sizeOf5 rfl (by rw[mN];omega) rfl<|aa<|bM (E:=EE [147])<|Mv rfl<|Bnr rfl rfl (fun _=>ap _ _ _ (by unfold inI;omega))<|Asg rfl<|aa<|?_
   repeat (refine aJ ?_)
   exact aA<|⟨rfl,⟨i+1,by omega⟩,_,by show 32-(i+1)<32-i;omega,rfl,⟨rfl,rfl,rfl,rfl,trivial⟩,⟨rfl,rfl,rfl,trivial⟩⟩
  ·obtain rfl:i=32:=by simp at hc;omega
   refine aM<|ae (E:=EE [147])<|Lw 21 rfl rfl lm (mN _ _)<|Sx 4 hGF rfl rfl rfl lm (mN _ _) (ca _)<|aa<|aq<|Rr<|?_
   exact aw 4 rfl rfl rfl isAgg134 sizeOf134 (by rw[List.length_map,mN]) (fun w hw=>⟨rfl,ac hw⟩)
end Sh
end
section
open Go.RowKit
namespace Sh
theorem Kh(p:List (BitVec 8))(o:Nat):wk p o 0 4=((p.getD o 0).setWidth 32<<<24)|||((p.getD (o+1) 0).setWidth 32<<<16)|||((p.getD (o+2) 0).setWidth 32<<<8)|||(p.getD (o+3) 0).setWidth 32:=by
 simp only[wk,BitVec.shiftLeft_or_distrib,←BitVec.shiftLeft_add,Nat.add_zero,Nat.reduceAdd]
 simp
def bk(p:List (BitVec 8))(k:Nat):List (BitVec 8):=(p.drop (64*k)).take 64
theorem lT(p:List (BitVec 8))(k i:Nat)(h:i<64):(bk p k).getD i 0=p.getD (64*k+i) 0:=by
 simp[bk,List.getD_eq_getElem?_getD,h,List.getElem?_drop]
theorem vB(p:List (BitVec 8))(q:Nat): ∀i j,i≤j→(V1 p q i).getD j 0=0
 |0,j,_=>by
  simp only[V1,List.getD_eq_getElem?_getD,List.getElem?_replicate]
  split<;>rfl
 |i+1,j,h=>by
  have:=vB p q i j (by omega)
  rw[List.getD_eq_getElem?_getD]at this⊢
  rw[V1,List.getElem?_set_ne (by omega)]
  exact this
theorem FU(p:List (BitVec 8))(k:Nat): ∀i,i≤16→V1 p (64*k) i=W1 (bk p k) i
 |0,_=>rfl
 |i+1,h=>by
  rw[V1,vB p _ i i (Nat.le_refl _),Kh,FU p k i (by omega),W1,w4,lT _ _ _ (by omega),lT _ _ _ (by omega),lT _ _ _ (by omega),lT _ _ _ (by omega)]
  rfl
theorem d6(x:BitVec 32)(k:Int)(m:Nat)(h1:(BitVec.ofInt 64 k &&& 31#64).toNat=32-m)(h2:(32#64-(BitVec.ofInt 64 k &&& 31#64)).toNat=m):i6 x k=turn x m:=by
 rw[i6,turn,h1,h2,BitVec.or_comm]
theorem Ek(x:BitVec 32):wL x=r0 x:=by
 rw[wL,r0,d6 x (-7) 7 (by decide) (by decide),d6 x (-18) 18 (by decide) (by decide)]
theorem Dn(x:BitVec 32):wS x=r1 x:=by
 rw[wS,r1,d6 x (-17) 17 (by decide) (by decide),d6 x (-19) 19 (by decide) (by decide)]
theorem Hj(x:BitVec 32):sn x=turn x 2^^^turn x 13^^^turn x 22:=by
 rw[sn,d6 x (-2) 2 (by decide) (by decide),d6 x (-13) 13 (by decide) (by decide),d6 x (-22) 22 (by decide) (by decide)]
theorem JL(x:BitVec 32):lY x=turn x 6^^^turn x 11^^^turn x 25:=by
 rw[lY,d6 x (-6) 6 (by decide) (by decide),d6 x (-11) 11 (by decide) (by decide),d6 x (-25) 25 (by decide) (by decide)]
theorem Oo(ws:List (BitVec 32))(i:Nat):r5 ws i=w5 ws i:=by
 rw[r5,w5,Ek,Dn]
 ac_rfl
theorem FQ(p:List (BitVec 8))(k:Nat): ∀j,V2 p (64*k) j=W2 (bk p k) j
 |0=>FU p k 16 (by omega)
 |j+1=>by rw[V2,W2,FQ p k j,Oo]
def toL(v:V8):List (BitVec 32):=[v.a,v.b,v.c,v.d,v.e,v.f,v.g,v.h]
theorem Ht(v:V8)(k w:BitVec 32):rr (toL v) k w=toL (rnd v k w):=by
 have e1:rt (toL v) k w=v.h+lY v.e+(v.e &&& v.f^^^ ~~~v.e &&& v.g)+k+w:=by rw[JL];rfl
 have e2:ru (toL v)=sn v.a+(v.a &&& v.b^^^v.a &&& v.c^^^v.b &&& v.c):=by rw[Hj];rfl
 rw[rr,e1,e2]
 rfl
theorem NJ(j:Nat):MK.getD (8+j) 0=KW.getD j 0:=by
 rw[MK,List.getD_eq_getElem?_getD,List.getElem?_append_right (by show 8≤8+j;omega),show 8+j-IV.length=j from by show 8+j-8=j;omega,←List.getD_eq_getElem?_getD]
theorem Js(h:List (BitVec 32))(hh:h.length=8):toL (v8 h)=h:=by
 match h,hh with
 |[_,_,_,_,_,_,_,_],_=>rfl
theorem qI(h ws:List (BitVec 32))(hh:h.length=8): ∀j,RRs h ws j=toL (jL (v8 h) ws j)
 |0=>(Js h hh).symm
 |j+1=>by rw[RRs,qI h ws hh j,Ht,NJ,jL]
theorem AP(h:List (BitVec 32))(v:V8)(hh:h.length=8):HAs h (toL v) 8=Ih h v:=by
 match h,hh with
 |[_,_,_,_,_,_,_,_],_=>rfl
theorem DQ(p:List (BitVec 8))(k:Nat):RK p (k+1)=nu (RK p k) (bk p k):=by
 rw[RK,nu,qI _ _ (ce p k),AP _ _ (ce p k),FQ]
theorem Nt(h:List (BitVec 32))(hh:h.length=8):OD h 32=DG h 8:=by
 match h,hh with
 |[a,b,c,d,e,f,g,i],_=>
  have z: ∀x:BitVec 32,x>>>(0:Nat)=x:=fun x=>by simp
  simp only[OD,DG,List.replicate,List.set,List.getD,Nat.reduceDiv,Nat.reduceMod,Nat.reduceMul,Nat.reduceAdd]
  simp
theorem vJ(p:List (BitVec 8))(L:List (List (BitVec 8))): ∀k,k≤L.length→(∀i,i<L.length→bk p i=L.getD i [])→RK p k=fk IV L k
 |0,_,_=>rfl
 |k+1,h,hb=>by rw[DQ,fk,vJ p L k (by omega) hb,hb k (by omega)]
theorem BC(L:List (List (BitVec 8)))(h: ∀l∈L,l.length=64):L.flatten.length=64*L.length:=by
 induction L with
 |nil=>rfl
 |cons x r ih=>
  rw[List.flatten_cons,List.length_append,ih (fun l hl=>h l (by simp[hl])),h x (by simp),List.length_cons]
  omega
theorem Ez(L:List (List (BitVec 8)))(h: ∀l∈L,l.length=64): ∀i,i<L.length→bk L.flatten i=L.getD i []:=by
 induction L with
 |nil=>intro i hi;simp at hi
 |cons x r ih=>
  intro i hi
  have hx:x.length=64:=h x (by simp)
  cases i with
  |zero=>simp[bk,hx]
  |succ i=>
   have e:=ih (fun l hl=>h l (by simp[hl])) i (by simpa using hi)
   rw[List.getD_cons_succ,←e,bk,bk,List.flatten_cons,show 64*(i+1)=x.length+64*i from by omega,List.drop_append,List.drop_eq_nil_of_le (by omega:x.length≤x.length+64*i),List.nil_append,Nat.add_sub_cancel_left]
theorem mh(bs:List (BitVec 8)): ∀m,64*m≤bs.length→((List.range m).map fun k=>(bs.drop (64*k)).take 64).flatten=bs.take (64*m)
 |0,_=>by simp
 |m+1,h=>by
  rw[List.range_succ,List.map_append,List.flatten_append,mh bs m (by omega)]
  simp only[List.map_cons,List.map_nil,List.flatten_cons,List.flatten_nil,List.append_nil]
  rw[show 64*(m+1)=64*m+64 from by omega,List.take_add]
theorem E3(rs:List (BitVec 8))(h:rs.length<64):e1 rs=rs++([128#8]++List.replicate (63-rs.length) 0#8):=by
 rw[e1,List.set_append_right _ _ (Nat.le_refl _),Nat.sub_self,show 64-rs.length=(63-rs.length)+1 from by omega,List.replicate_succ]
 rfl
def b8s(n:BitVec 64):Nat→List (BitVec 8)
 |0=>[]
 |k+1=>b8s n k++[((8#64*n)>>>(56-8*(k:Int)).toNat).setWidth 8]
theorem pS(n:BitVec 64): ∀k,(b8s n k).length=k
 |0=>rfl
 |k+1=>by rw[b8s,List.length_append,pS n k];rfl
theorem xW(bl:List (BitVec 8))(n:BitVec 64)(h:bl.length=64): ∀k,k≤8→LB bl n k=bl.take 56++(b8s n k++bl.drop (56+k))
 |0,_=>by simp[LB,b8s]
 |k+1,hk=>by
  have hd:bl.drop (56+k)=bl[56+k]::bl.drop (56+(k+1)):=by rw[List.drop_eq_getElem_cons (by omega)];rfl
  rw[LB,xW bl n h k (by omega),hd,List.set_append_right _ _ (by simp[h]),List.set_append_right _ _ (by simp[h,pS]),b8s]
  simp[h,pS]
theorem F8(bs:List (BitVec 8))(n:BitVec 64): ∀j,j≤8→PE bs (n*8#64) j=PD bs (nz bs)++b8s n j
 |0,_=>by simp[PE,b8s]
 |j+1,h=>by
  rw[PE,F8 bs n j (by omega),b8s,nb,BitVec.mul_comm,show (8*(7-(j:Int))).toNat=(56-8*(j:Int)).toNat from by omega,List.append_assoc]
theorem Ao(bs:List (BitVec 8)):PAD bs=(mK bs).flatten:=by
 rw[PAD,F8 bs _ 8 (Nat.le_refl _),mK,List.flatten_append,fO,mh bs _ (by omega),PD]
 have hr:=sr bs
 have hrl:(bs.drop (64*(bs.length / 64))).length=bs.length % 64:=by rw[List.length_drop];omega
 generalize hrs:bs.drop (64*(bs.length / 64))=rs at hr hrl
 have hbs:bs=bs.take (64*(bs.length / 64))++rs:=by rw[←hrs,List.take_append_drop]
 generalize hn:BitVec.ofInt 64 (bs.length:Int)=n
 have key:(dP rs n).flatten=rs++([128#8]++(List.replicate (nz bs) 0#8++b8s n 8)):=by
  unfold dP
  split
  ·rename_i h56
   have hz:nz bs=55-rs.length:=by unfold nz;omega
   rw[List.flatten_cons,List.flatten_nil,List.append_nil,xW _ _ (tK rs (by omega)) 8 (Nat.le_refl _),E3 rs hr,hz]
   rw[List.drop_eq_nil_of_le (by simp;omega),List.append_nil,List.take_append,List.take_of_length_le (by omega:rs.length≤56)]
   rw[List.take_append,List.take_of_length_le (by simp;omega),List.take_replicate]
   simp only[List.append_assoc,List.length_cons,List.length_nil]
   rw[show min (56-rs.length-(0+1)) (63-rs.length)=55-rs.length from by omega]
  ·rename_i h56
   have hz:nz bs=(63-rs.length)+56:=by unfold nz;omega
   rw[List.flatten_cons,List.flatten_cons,List.flatten_nil,List.append_nil,xW _ _ (by simp) 8 (Nat.le_refl _),E3 rs hr,hz,←List.replicate_append_replicate]
   simp
 rw[key]
 conv=>lhs;lhs;lhs;rw[hbs]
 simp only[List.append_assoc]
theorem Ae(bs:List (BitVec 8)):DF bs=SHA bs:=by
 have hb:=zv bs
 have hl:=BC (mK bs) hb
 rw[DF,SHA,Ao,hl,Nat.mul_div_cancel_left _ (by decide),vJ _ (mK bs) _ (Nat.le_refl _) (Ez _ hb),Nt _ (fg _ _ rfl _)]
end Sh
end
section
namespace Sh
abbrev tN:BitVec 32→Nat:=BitVec.toNat
abbrev M32:Nat:=4294967296
def tn(x a b:Nat):Nat:=Nat.lor (Nat.mod (Nat.shiftLeft x a) M32) (Nat.shiftRight x b)
def s1N(x:Nat):Nat:=Nat.xor (Nat.xor (tn x 26 6) (tn x 21 11)) (tn x 7 25)
def s0N(x:Nat):Nat:=Nat.xor (Nat.xor (tn x 30 2) (tn x 19 13)) (tn x 10 22)
def l0N(x:Nat):Nat:=Nat.xor (Nat.xor (tn x 25 7) (tn x 14 18)) (Nat.shiftRight x 3)
def l1N(x:Nat):Nat:=Nat.xor (Nat.xor (tn x 15 17) (tn x 13 19)) (Nat.shiftRight x 10)
def aN(a b:Nat):Nat:=Nat.mod (Nat.add a b) M32
def w4N(bl:List Nat)(i:Nat):Nat:=Nat.lor (Nat.lor (Nat.lor (Nat.mod (Nat.shiftLeft (Nat.mod (bl.getD (4*i) 0) M32) 24) M32) (Nat.mod (Nat.shiftLeft (Nat.mod (bl.getD (4*i+1) 0) M32) 16) M32)) (Nat.mod (Nat.shiftLeft (Nat.mod (bl.getD (4*i+2) 0) M32) 8) M32)) (Nat.mod (bl.getD (4*i+3) 0) M32)
def W1N(bl:List Nat):Nat→List Nat
 |0=>List.replicate 64 0
 |k+1=>(W1N bl k).set k (w4N bl k)
def w5N(ws:List Nat)(i:Nat):Nat:=aN (aN (aN (l1N (ws.getD (i-2) 0)) (ws.getD (i-7) 0)) (l0N (ws.getD (i-15) 0))) (ws.getD (i-16) 0)
def W2N(bl:List Nat):Nat→List Nat
 |0=>W1N bl 16
 |k+1=>(W2N bl k).set (16+k) (w5N (W2N bl k) (16+k))
structure VN where
 (a b c d e f g h:Nat)
def ttN(v:VN)(k w:Nat):Nat:=aN (aN (aN (aN v.h (s1N v.e)) (Nat.xor (Nat.land v.e v.f) (Nat.land (Nat.sub 4294967295 v.e) v.g))) k) w
def Dr(v:VN)(k w:Nat):VN:=⟨aN (ttN v k w) (aN (s0N v.a) (Nat.xor (Nat.xor (Nat.land v.a v.b) (Nat.land v.a v.c)) (Nat.land v.b v.c))),v.a,v.b,v.c,aN v.d (ttN v k w),v.e,v.f,v.g⟩
def wq(v:VN)(ks ws:List Nat):Nat→VN
 |0=>v
 |k+1=>Dr (wq v ks ws k) (ks.getD k 0) (ws.getD k 0)
def vN(s:List Nat):VN:=⟨s.getD 0 0,s.getD 1 0,s.getD 2 0,s.getD 3 0,s.getD 4 0,s.getD 5 0,s.getD 6 0,s.getD 7 0⟩
def A8(ks s bl:List Nat):List Nat:=
 let v:=wq (vN s) ks (W2N bl 48) 64
 [aN (s.getD 0 0) v.a,aN (s.getD 1 0) v.b,aN (s.getD 2 0) v.c,aN (s.getD 3 0) v.d,aN (s.getD 4 0) v.e,aN (s.getD 5 0) v.f,aN (s.getD 6 0) v.g,aN (s.getD 7 0) v.h]
def JK(ks s:List Nat):List (List Nat)→List Nat
 |[]=>s
 |b::l=>JK ks (A8 ks s b) l
def V8.n(v:V8):VN:=⟨tN v.a,tN v.b,tN v.c,tN v.d,tN v.e,tN v.f,tN v.g,tN v.h⟩
theorem na(x y:BitVec 32):tN (x+y)=aN (tN x) (tN y):=BitVec.toNat_add x y
theorem i8(x:BitVec 32)(k:Int)(a b:Nat)(ha:(BitVec.ofInt 64 k &&& 31#64).toNat=a)(hb:(32#64-(BitVec.ofInt 64 k &&& 31#64)).toNat=b):tN (i6 x k)=tn (tN x) a b:=by
 subst ha hb
 show BitVec.toNat (i6 x k)=_
 rw[i6,BitVec.toNat_or,BitVec.toNat_shiftLeft,BitVec.toNat_ushiftRight]
 rfl
theorem io(x y:BitVec 32):tN (x^^^y)=Nat.xor (tN x) (tN y):=BitVec.toNat_xor x y
theorem q8(x y:BitVec 32):tN (x &&& y)=Nat.land (tN x) (tN y):=BitVec.toNat_and x y
theorem L9(x:BitVec 32):tN (~~~x)=Nat.sub 4294967295 (tN x):=BitVec.toNat_not
theorem s1_e(x:BitVec 32):tN (lY x)=s1N (tN x):=by rw[lY,io,io,i8 x (-6) 26 6 (by decide) (by decide),i8 x (-11) 21 11 (by decide) (by decide),i8 x (-25) 7 25 (by decide) (by decide)];rfl
theorem s0_e(x:BitVec 32):tN (sn x)=s0N (tN x):=by rw[sn,io,io,i8 x (-2) 30 2 (by decide) (by decide),i8 x (-13) 19 13 (by decide) (by decide),i8 x (-22) 10 22 (by decide) (by decide)];rfl
theorem F4(x:BitVec 32)(n:Nat):tN (x>>>n)=Nat.shiftRight (tN x) n:=BitVec.toNat_ushiftRight x n
theorem l0_e(x:BitVec 32):tN (wL x)=l0N (tN x):=by rw[wL,io,io,i8 x (-7) 25 7 (by decide) (by decide),i8 x (-18) 14 18 (by decide) (by decide),F4];rfl
theorem l1_e(x:BitVec 32):tN (wS x)=l1N (tN x):=by rw[wS,io,io,i8 x (-17) 15 17 (by decide) (by decide),i8 x (-19) 13 19 (by decide) (by decide),F4];rfl
theorem ls{n:Nat}(l:List (BitVec n))(i:Nat):(l.map BitVec.toNat).getD i 0=(l.getD i 0).toNat:=by
 rw[List.getD_eq_getElem?_getD,List.getD_eq_getElem?_getD,List.getElem?_map]
 cases l[i]? with
 |none=>rfl
 |some x=>rfl
theorem w4_e(bl:List (BitVec 8))(i:Nat):tN (w4 bl i)=w4N (bl.map BitVec.toNat) i:=by
 have s: ∀(x:BitVec 8) (k:Nat),BitVec.toNat (x.setWidth 32<<<k)=Nat.mod (Nat.shiftLeft (Nat.mod x.toNat M32) k) M32:=fun x k=>by
  rw[BitVec.toNat_shiftLeft,BitVec.toNat_setWidth];rfl
 show BitVec.toNat (w4 bl i)=_
 rw[w4,w4N,BitVec.toNat_or,BitVec.toNat_or,BitVec.toNat_or,s,s,s,BitVec.toNat_setWidth,ls,ls,ls,ls]
 rfl
theorem NE(bl:List (BitVec 8)): ∀k,(W1 bl k).map tN=W1N (bl.map BitVec.toNat) k
 |0=>by rw[W1,W1N,List.map_replicate];rfl
 |k+1=>by rw[W1,W1N,List.map_set,NE bl k,w4_e]
theorem w5_e(ws:List (BitVec 32))(i:Nat):tN (w5 ws i)=w5N (ws.map tN) i:=by
 rw[w5,w5N,na,na,na,l1_e,l0_e,ls,ls,ls,ls]
theorem H6(bl:List (BitVec 8)): ∀k,(W2 bl k).map tN=W2N (bl.map BitVec.toNat) k
 |0=>NE bl 16
 |k+1=>by rw[W2,W2N,List.map_set,H6 bl k,w5_e,H6 bl k]
theorem MS(v:V8)(k w:BitVec 32):(rnd v k w).n=Dr v.n (tN k) (tN w):=by
 have t:tN (v.h+lY v.e+(v.e &&& v.f^^^ ~~~v.e &&& v.g)+k+w)=ttN v.n (tN k) (tN w):=by
  rw[na,na,na,na,s1_e,io,q8,q8,L9];rfl
 have e1:tN (rnd v k w).a=(Dr v.n (tN k) (tN w)).a:=by
  show tN ((v.h+lY v.e+(v.e &&& v.f^^^ ~~~v.e &&& v.g)+k+w)+(sn v.a+(v.a &&& v.b^^^v.a &&& v.c^^^v.b &&& v.c)))=_
  rw[na,t,na,s0_e,io,io,q8,q8,q8];rfl
 have e2:tN (rnd v k w).e=(Dr v.n (tN k) (tN w)).e:=by
  show tN (v.d+(v.h+lY v.e+(v.e &&& v.f^^^ ~~~v.e &&& v.g)+k+w))=_
  rw[na,t];rfl
 show VN.mk (tN (rnd v k w).a) _ _ _ (tN (rnd v k w).e) _ _ _=_
 rw[e1,e2];rfl
theorem B8(v:V8)(ws:List (BitVec 32)): ∀k,(jL v ws k).n=wq v.n (KW.map tN) (ws.map tN) k
 |0=>rfl
 |k+1=>by rw[jL,wq,MS,B8 v ws k,ls,ls]
theorem vN_e(st:List (BitVec 32)):(v8 st).n=vN (st.map tN):=by
 simp only[vN,ls];rfl
theorem JR(st:List (BitVec 32))(bl:List (BitVec 8)):(nu st bl).map tN=A8 (KW.map tN) (st.map tN) (bl.map BitVec.toNat):=by
 have h:=B8 (v8 st) (W2 bl 48) 64
 rw[vN_e,H6]at h
 rw[A8,←h]
 simp only[nu,Ih,List.map_cons,List.map_nil,ls,na]
 rfl
theorem zQ(st:List (BitVec 32))(b:List (BitVec 8))(l:List (List (BitVec 8))): ∀k,fk st (b::l) (k+1)=fk (nu st b) l k
 |0=>rfl
 |k+1=>by rw[fk,zQ st b l k];rfl
theorem EO: ∀(l:List (List (BitVec 8))) (st:List (BitVec 32)),(fk st l l.length).map tN=JK (KW.map tN) (st.map tN) (l.map (·.map BitVec.toNat))
 |[],_=>rfl
 |b::l,st=>by
  rw[List.length_cons,zQ,EO l,JR];rfl
theorem G3(l:List (BitVec 32)):(l.map tN).map (BitVec.ofNat 32)=l:=by
 rw[List.map_map]
 exact (List.map_congr_left fun x _=>BitVec.ofNat_toNat 32 x|>.trans (BitVec.setWidth_eq x)).trans (List.map_id l)
theorem kt(bs r:List (BitVec 8))(h:DG ((JK (KW.map tN) (IV.map tN) ((mK bs).map (·.map BitVec.toNat))).map (BitVec.ofNat 32)) 8=r):SHA bs=r:=by
 rw[SHA,←G3 (fk IV (mK bs) (mK bs).length),EO];exact h
end Sh
end
end Go.Proofs.YtodgbdcjjhmnkaaGreatDoor
