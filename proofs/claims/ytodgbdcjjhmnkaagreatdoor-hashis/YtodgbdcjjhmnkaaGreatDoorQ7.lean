/-
 The document's texts made long.
 The walk of the document's Expand.
 The law XmdExpands.
-/
import Derived.Test.YtodgbdcjjhmnkaaGreatDoorP3
import Derived.Test.YtodgbdcjjhmnkaaGreatDoorX3
import Derived.Test.YtodgbdcjjhmnkaaGreatDoorXW
import Derived.Test.YtodgbdcjjhmnkaaGreatDoorX2
set_option maxRecDepth 100000
set_option maxHeartbeats 1000000
namespace Go.Proofs.YtodgbdcjjhmnkaaGreatDoor
open Go.Proofs.Tryz
section
open Go.RowKit
theorem ent60:am Tryz.prog 60:=fun _ _=>by kernel_rfl
namespace Xm
theorem zv134(w:World):(zeroValue 134).run Tryz.prog w=.ok (.agg ((List.replicate 32 (0#8)).map U8).toArray) w:=Sh.zv134 w
theorem ti5:TI Tryz.prog 5 (.int .u8 0) 1 1:=Sh.ti5
def D(dst:List (BitVec 8)):List (BitVec 8):=dst++[BitVec.ofInt 8 (dst.length:Int)]
theorem g9(dst:List (BitVec 8)):(D dst).length=dst.length+1:=by simp[D]
def F(msg dst:List (BitVec 8))(n:Nat):List (BitVec 8):=((List.replicate 64 0#8++msg)++[BitVec.ofInt 8 ((n / 256:Nat):Int),BitVec.ofInt 8 (n:Int),0#8])++D dst
theorem my(msg dst:List (BitVec 8))(n:Nat):(F msg dst n).length=64+msg.length+3+(dst.length+1):=by
 rw[F,List.length_append,List.length_append,List.length_append,List.length_replicate,g9];rfl
def B0(msg dst:List (BitVec 8))(n:Nat):List (BitVec 8):=Sh.SHA (F msg dst n)
theorem iw(msg dst:List (BitVec 8))(n:Nat):(B0 msg dst n).length=32:=Sh.eX _
def R(b l:List (BitVec 8)):Nat→List (BitVec 8)
 |0=>b
 |j+1=>(R b l j).set j (b.getD j 0^^^l.getD j 0)
theorem ic(b l:List (BitVec 8)): ∀j,(R b l j).length=b.length
 |0=>rfl
 |j+1=>by rw[R,List.length_set,ic b l j]
def Xk(b d:List (BitVec 8)):Nat→List (BitVec 8)
 |0=>List.replicate 32 0#8
 |k+1=>Sh.SHA (((if k=0 then b else R b (Xk b d k) 32)++[BitVec.ofInt 8 ((k+1:Nat):Int)])++d)
theorem dW(b d:List (BitVec 8)): ∀k,(Xk b d k).length=32
 |0=>List.length_replicate
 |_+1=>Sh.eX _
def O(b d:List (BitVec 8)):Nat→List (BitVec 8)
 |0=>[]
 |k+1=>O b d k++Xk b d (k+1)
theorem ez(b d:List (BitVec 8)): ∀k,(O b d k).length=32*k
 |0=>rfl
 |k+1=>by rw[O,List.length_append,ez b d k,dW];omega
def E(msg dst:List (BitVec 8))(n:Nat):List (BitVec 8):=(O (B0 msg dst n) (D dst) ((n+31) / 32)).take n
theorem h9(msg dst:List (BitVec 8))(n:Nat):(E msg dst n).length=n:=by rw[E,List.length_take,ez];omega
structure Bk(xs:List (BitVec 8)) where
 (b:Nat) (c:List Value)
 h1:xs.length≤c.length
 h2:c.take xs.length=xs.map U8
theorem oH(bm:Nat)(a:Option Addr)(len cap:Nat)(bs:List (BitVec 8))(hb:bs.length=len)(hl:len≤100000)(w:World)(hw:Gt w)(ho:OwnB w bm (Sh.MK.map U32) 77)(hby:BytesAt w a bs):Calls Tryz.prog 102 [.pointer (some ⟨bm,0,none⟩),.slice a len cap].toArray w (fun e w'=>e=.returned (.agg ((Sh.SHA bs).map U8).toArray)∧Grow w w'):=by
 subst hb
 rw[←Sh.Ae]
 exact Sh.s8 bm a cap bs (by omega) w hw ho hby
theorem own_grow{w w':World}{b:Nat}{c:List Value}{t:TypeId}(h:OwnB w b c t)(hg:Grow w w'):OwnB w' b c t:=h.of_same (hg.block b h.lt)
theorem hmc{i:TypeInfo}(k:Nat)(h:Tryz.prog.info? 5=some i∧i.zero=some (.int .u8 0)∧i.size=1∧i.bytes=1)(hk:(madeCells (Value.int .u8 0).cells (k*1)).toList=(List.replicate k 0#8).map U8):(madeCells (Value.int .u8 0).cells (k*i.size)).toList=(List.replicate k 0#8).map U8:=by
 rw[h.2.2.1];exact hk
theorem hmk(k:Nat)(h:k≤1000):k*ti5.choose.size≤16777216∧ti5.choose.bytes*k≤281474976710656∧k≤1000000:=by
 rw[ti5.choose_spec.2.2.1,ti5.choose_spec.2.2.2];omega
theorem No:(madeCells (Value.int .u8 0).cells (64*1)).toList=(List.replicate 64 0#8).map U8:=by kernel_rfl
end Xm
end
section
open Go.RowKit
namespace Xm
attribute [local simp] Sh.eX iw my ic dW ez Sh.iC g9
theorem Nr(bm:Nat)(a1:Option Addr)(cap1:Nat)(msg:List (BitVec 8))(a2:Option Addr)(cap2:Nat)(dst:List (BitVec 8))(z:Int)(h:z<0)(w:World)(hw:Gt w):Calls Tryz.prog 60 [.pointer (some ⟨bm,0,none⟩),.slice a1 msg.length cap1,.slice a2 dst.length cap2,I z].toArray w (fun e w'=>e=.returned (.tuple #[.slice none 0 0,I 130])∧Grow w w'):=by
 refine Hf func60 rfl hw<|fun hGF=>Xp<|Asg rfl<|Asg rfl<|aa<|ah<|Xp<|Mv rfl<|Bnb true rfl rfl (fun _=>av _ _ _) (decide_eq_true (by omega))<|Mv rfl<|Sk<|Sk<|Pk rfl rfl rfl<|Mv rfl<|Sk<|Sk<|Sk<|Pk rfl rfl rfl<|Mv rfl<|Sk<|Sk<|Sk<|Pk rfl rfl rfl<|aa<|bf rfl<|Xp<|Asg rfl<|Asg rfl<|aa<|aq<|Rr<|?_
 exact bL rfl rfl rfl (fun w hw=>⟨rfl,ac hw⟩)
theorem K7(bm:Nat)(a1:Option Addr)(cap1:Nat)(msg:List (BitVec 8))(a2:Option Addr)(cap2:Nat)(dst:List (BitVec 8))(z:Int)(h:8160<z)(w:World)(hw:Gt w):Calls Tryz.prog 60 [.pointer (some ⟨bm,0,none⟩),.slice a1 msg.length cap1,.slice a2 dst.length cap2,I z].toArray w (fun e w'=>e=.returned (.tuple #[.slice none 0 0,I 130])∧Grow w w'):=by
 refine Hf func60 rfl hw<|fun hGF=>Xp<|Asg rfl<|Asg rfl<|aa<|ah<|Xp<|Mv rfl<|Bnb false rfl rfl (fun _=>av _ _ _) (decide_eq_false (by omega))<|Mv rfl<|Mv rfl<|Bnb true rfl rfl (fun _=>aP _ _ _) (decide_eq_true (by omega))<|Pk rfl rfl rfl<|Mv rfl<|Sk<|Sk<|Sk<|Pk rfl rfl rfl<|Mv rfl<|Sk<|Sk<|Sk<|Pk rfl rfl rfl<|aa<|bf rfl<|Xp<|Asg rfl<|Asg rfl<|aa<|aq<|Rr<|?_
 exact bL rfl rfl rfl (fun w hw=>⟨rfl,ac hw⟩)
theorem Lz(bm:Nat)(a1:Option Addr)(cap1:Nat)(msg:List (BitVec 8))(a2:Option Addr)(cap2:Nat)(dst:List (BitVec 8))(z:Int)(h0: ¬z<0)(h1: ¬8160<z)(h:255<dst.length)(w:World)(hw:Gt w):Calls Tryz.prog 60 [.pointer (some ⟨bm,0,none⟩),.slice a1 msg.length cap1,.slice a2 dst.length cap2,I z].toArray w (fun e w'=>e=.returned (.tuple #[.slice none 0 0,I 130])∧Grow w w'):=by
 refine Hf func60 rfl hw<|fun hGF=>Xp<|Asg rfl<|Asg rfl<|aa<|ah<|Xp<|Mv rfl<|Bnb false rfl rfl (fun _=>av _ _ _) (decide_eq_false (by omega))<|Mv rfl<|Mv rfl<|Bnb false rfl rfl (fun _=>aP _ _ _) (decide_eq_false (by omega))<|Pk rfl rfl rfl<|Mv rfl<|Mv rfl<|aZ rfl (fun _=>aC underlying22 _ _ _ _) rfl rfl<|Bnb true rfl rfl (fun _=>aP _ _ _) (decide_eq_true (by omega))<|Pk rfl rfl rfl<|Mv rfl<|Sk<|Sk<|Sk<|Pk rfl rfl rfl<|aa<|bf rfl<|Xp<|Asg rfl<|Asg rfl<|aa<|aq<|Rr<|?_
 exact bL rfl rfl rfl (fun w hw=>⟨rfl,ac hw⟩)
theorem MQ(bm:Nat)(a1:Option Addr)(cap1:Nat)(msg:List (BitVec 8))(a2:Option Addr)(cap2:Nat)(dst:List (BitVec 8))(z:Int)(h0: ¬z<0)(h1: ¬8160<z)(h2: ¬255<dst.length)(h:65536<msg.length)(w:World)(hw:Gt w):Calls Tryz.prog 60 [.pointer (some ⟨bm,0,none⟩),.slice a1 msg.length cap1,.slice a2 dst.length cap2,I z].toArray w (fun e w'=>e=.returned (.tuple #[.slice none 0 0,I 130])∧Grow w w'):=by
 refine Hf func60 rfl hw<|fun hGF=>Xp<|Asg rfl<|Asg rfl<|aa<|ah<|Xp<|Mv rfl<|Bnb false rfl rfl (fun _=>av _ _ _) (decide_eq_false (by omega))<|Mv rfl<|Mv rfl<|Bnb false rfl rfl (fun _=>aP _ _ _) (decide_eq_false (by omega))<|Pk rfl rfl rfl<|Mv rfl<|Mv rfl<|aZ rfl (fun _=>aC underlying22 _ _ _ _) rfl rfl<|Bnb false rfl rfl (fun _=>aP _ _ _) (decide_eq_false (by omega))<|Pk rfl rfl rfl<|Mv rfl<|Mv rfl<|aZ rfl (fun _=>aC underlying22 _ _ _ _) rfl rfl<|Bnb true rfl rfl (fun _=>aP _ _ _) (decide_eq_true (by omega))<|Pk rfl rfl rfl<|aa<|bf rfl<|Xp<|Asg rfl<|Asg rfl<|aa<|aq<|Rr<|?_
 exact bL rfl rfl rfl (fun w hw=>⟨rfl,ac hw⟩)
theorem mS{w:World}{b:Nat}{c:List Value}{xs:List (BitVec 8)}(h:w.rangeAt b 0 c)(h2:c.take xs.length=xs.map U8):BytesAt w (some ⟨b,0,none⟩) xs:=BytesAt.range fun j v hv=>h j v (by
 rw[←h2,List.getElem?_take]at hv
 split at hv
 ·exact hv
 ·cases hv)
structure LpV(b d:List (BitVec 8))(m:Nat) where
 (k:Nat) (a0:Option Addr) (cap:Nat) (own:Hl)
 hk:k≤m
 hs:OwnSl own 50 5 a0 cap (O b d k)
 ho:own=[]∨∃z,own=[(50,z)]
theorem pT{own L:Hl}(ho:own=[]∨∃z,own=[(50,z)])(h:lkB L 50=lkB own 50):lw L own:=by
 rcases ho with rfl|⟨z,rfl⟩
 ·exact trivial
 ·exact ⟨h,trivial⟩
theorem Ef{own:Hl}{a0:Option Addr}{cap:Nat}{xs:List (BitVec 8)}(h:OwnSl own 50 5 a0 cap xs):xs.length≤cap:=by
 rcases h with ⟨_,rfl,rfl⟩|⟨_,_,_,_,_,h,_⟩
 ·exact Nat.le_refl _
 ·exact h
def X16(b l:List (BitVec 8))(k:Nat):List (BitVec 8):=if k=0 then b else R b l 32
theorem pq{b l:List (BitVec 8)}(hb:b.length=32)(k:Nat):(X16 b l k).length=32:=by
 unfold X16
 split
 ·exact hb
 ·rw[ic];exact hb
theorem sZ{xs ys:List (BitVec 8)}(h:ys.length=32)(e:xs++ys=[]):False:=by
 have:=congrArg List.length e
 rw[List.length_append,h,List.length_nil]at this
 omega
theorem r8{c:List Value}{xs:List (BitVec 8)}{n:Nat}(h:c.take xs.length=xs.map U8)(hn:n≤xs.length):c.take n=(xs.take n).map U8:=by
 have e:=congrArg (List.take n) h
 rw[List.take_take,Nat.min_eq_left hn]at e
 rw[e,List.map_take]
attribute [local simp] pq
theorem IK(bm:Nat)(a1:Option Addr)(cap1:Nat)(msg:List (BitVec 8))(a2:Option Addr)(cap2:Nat)(dst:List (BitVec 8))(n:Nat)(hn:n≤8160)(hd:dst.length≤255)(hm:msg.length≤65536)(w:World)(hw:Gt w)(ho:OwnB w bm (Sh.MK.map U32) 77)(hb1:BytesAt w a1 msg)(hb2:BytesAt w a2 dst):Calls Tryz.prog 60 [.pointer (some ⟨bm,0,none⟩),.slice a1 msg.length cap1,.slice a2 dst.length cap2,I (n:Int)].toArray w (fun e w'=> ∃sv,e=.returned (.tuple #[sv,I 0])∧Grow w w'∧Sh.Cln w w' (E msg dst n) sv):=by
 refine Hf func60 rfl hw<|fun hGF=>Xp<|Asg rfl<|Asg rfl<|aa<|ah<|Xp<|Mv rfl<|Bnb false rfl rfl (fun _=>av _ _ _) (decide_eq_false (by omega))<|Mv rfl<|Mv rfl<|Bnb false rfl rfl (fun _=>aP _ _ _) (decide_eq_false (by omega))<|Pk rfl rfl rfl<|Mv rfl<|Mv rfl<|aZ rfl (fun _=>aC underlying22 _ _ _ _) rfl rfl<|Bnb false rfl rfl (fun _=>aP _ _ _) (decide_eq_false (by omega))<|Pk rfl rfl rfl<|Mv rfl<|Mv rfl<|aZ rfl (fun _=>aC underlying22 _ _ _ _) rfl rfl<|Bnb false rfl rfl (fun _=>aP _ _ _) (decide_eq_false (by omega))<|Pk rfl rfl rfl<|aa<|aV rfl<|au<|?_
 refine f8 (ι:=Bk (D dst)) (fun z=>[(0,.pointer (some ⟨bm,0,none⟩)),(1,.slice a1 msg.length cap1),(3,I (n:Int)),(10,.slice (some ⟨z.b,0,none⟩) (D dst).length z.c.length)]) (fun z=>[(10,z.b,z.c,5)]) hGF ?_ ?_
 ·refine Xq<|Mv rfl<|?_
  refine bF (xs:=[]) (ys:=dst) 10 hGF rfl rfl underlying22 underlying22 ti5 (fI _ _ _) (fun w' h=>hb2.grow (ac h)) (by first|omega|(simp<;>omega)) rfl rfl (fun h0=> ?_) (fun b35 c35 cap35 e35 l35 t35=> ?_)
  ·have hd:dst=[]:=h0
   subst hd
   clear h0
   refine Mv rfl<|aZ rfl (fun _=>aC underlying22 _ _ _ _) rfl rfl<|bt rfl rfl (fun _=>dR underlying3 underlying5 _) rfl rfl<|dX 39 [BitVec.ofInt 8 ((List.length ([]:List (BitVec 8)):Nat):Int)] hGF rfl rfl rfl (by decide) (by decide) underlying22 sizeOf5 zeroValue5 rfl rfl<|?_
   intro b39
   refine bF (xs:=[]) (ys:=[BitVec.ofInt 8 ((List.length ([]:List (BitVec 8)):Nat):Int)]) 10 hGF rfl rfl underlying22 underlying22 ti5 (fI _ _ _) (fun w' h=>BytesAt.range (aU (n:=39) rfl w' h)) (by first|omega|(simp<;>omega)) rfl rfl (fun h0=> ?_) (fun b40 c40 cap40 e40 l40 t40=> ?_)
   ·simp at h0
   subst e40
   exact Asg rfl<|aa<|aA<|⟨rfl,⟨b40,c40,l40,t40⟩,_,rfl,⟨rfl,rfl,rfl,rfl,trivial⟩,⟨rfl,trivial⟩⟩
  ·subst e35
   refine Mv rfl<|aZ rfl (fun _=>aC underlying22 _ _ _ _) rfl rfl<|bt rfl rfl (fun _=>dR underlying3 underlying5 _) rfl rfl<|dX 39 [BitVec.ofInt 8 (dst.length:Int)] hGF rfl rfl rfl (by decide) (by decide) underlying22 sizeOf5 zeroValue5 rfl rfl<|?_
   intro b39
   refine bF (xs:=dst) (ys:=[BitVec.ofInt 8 (dst.length:Int)]) 10 hGF rfl rfl underlying22 underlying22 ti5 (.inr ⟨b35,c35,rfl,rfl,rfl,l35,t35⟩) (fun w' h=>BytesAt.range (aU (n:=39) rfl w' h)) (by first|omega|(simp<;>omega)) rfl rfl (fun h0=> ?_) (fun b40 c40 cap40 e40 l40 t40=> ?_)
   ·simp at h0
   subst e40
   exact Asg rfl<|aa<|aA<|⟨rfl,⟨b40,c40,l40,t40⟩,_,rfl,⟨rfl,rfl,rfl,rfl,trivial⟩,⟨rfl,trivial⟩⟩
 ·intro z
  obtain ⟨bd,cd,hd1,hd2⟩:=z
  dsimp only
  refine Xp<|v6 41 hGF rfl rfl underlying22 ti5.choose_spec.1 ti5.choose_spec.2.1 (hmk 64 (by decide)) (hmc 64 ti5.choose_spec No) rfl rfl<|fun b41=>Mv rfl<|?_
  refine bF (xs:=List.replicate 64 0#8) (ys:=msg) 41 hGF rfl rfl underlying22 underlying22 ti5 (.inr ⟨b41,_,rfl,rfl,by simp,by simp,by simp⟩) (fun w' h=>hb1.grow (ac h)) (by first|omega|(simp<;>omega)) rfl rfl (fun h0=> ?_) (fun b43 c43 cap43 e43 l43 t43=> ?_)
  ·simp at h0
  subst e43
  refine Asg rfl<|aa<|Xp<|Mv rfl<|Mv rfl<|Bnr rfl rfl (fun _=>rD _ _)<|bt rfl rfl (fun _=>dR underlying3 underlying5 _) rfl rfl<|Mv rfl<|bt rfl rfl (fun _=>dR underlying3 underlying5 _) rfl rfl<|dX 50 [BitVec.ofInt 8 ((n / 256:Nat):Int),BitVec.ofInt 8 (n:Int),0#8] hGF rfl rfl rfl (by decide) (by decide) underlying22 sizeOf5 zeroValue5 rfl rfl<|?_
  intro b50
  refine bF (xs:=List.replicate 64 0#8++msg) (ys:=[BitVec.ofInt 8 ((n / 256:Nat):Int),BitVec.ofInt 8 (n:Int),0#8]) 41 hGF rfl rfl underlying22 underlying22 ti5 (.inr ⟨b43,c43,rfl,rfl,rfl,l43,t43⟩) (fun w' h=>BytesAt.range (aU (n:=50) rfl w' h)) (by first|omega|(simp<;>omega)) rfl rfl (fun h0=> ?_) (fun b51 c51 cap51 e51 l51 t51=> ?_)
  ·simp at h0
  subst e51
  refine Mv rfl ?_
  refine bF (xs:=(List.replicate 64 0#8++msg)++[BitVec.ofInt 8 ((n / 256:Nat):Int),BitVec.ofInt 8 (n:Int),0#8]) (ys:=(D dst)) 41 hGF rfl rfl underlying22 underlying22 ti5 (.inr ⟨b51,c51,rfl,rfl,rfl,l51,t51⟩) (fun w' h=>mS (aU (n:=10) rfl w' h) hd2) (by first|omega|(simp<;>omega)) rfl rfl (fun h0=> ?_) (fun b53 c53 cap53 e53 l53 t53=> ?_)
  ·simp at h0
  subst e53
  refine Asg rfl<|aa<|Xp<|Mv rfl<|Mv rfl<|Cc rfl ent102 (fun w' hC hG=>oH bm (some ⟨b53,0,none⟩) _ _ (F msg dst n) rfl (by first|omega|(simp<;>omega)) w' hG (own_grow ho (ac hC)) (mS (aU (n:=41) rfl w' hC) t53))<|Al 12 hGF zv134<|fun b12=>aF 12 hGF rfl rfl rfl sizeOf134 (by simp) (by simp) (ca _) rfl<|aa<|Xp<|Asg rfl<|aa<|Xp<|Al 14 hGF zv134<|fun b14=>aa<|ah<|Xp<|Asg rfl<|aa<|ai<|bg (ι:=LpV (B0 msg dst n) (D dst) ((n+31) / 32)) (fun z=>[(0,.pointer (some ⟨bm,0,none⟩)),(3,I (n:Int)),(10,.slice (some ⟨bd,0,none⟩) (D dst).length cd.length),(12,.pointer (some ⟨b12,0,none⟩)),(13,.slice z.a0 (O (B0 msg dst n) (D dst) z.k).length z.cap),(14,.pointer (some ⟨b14,0,none⟩)),(15,I ((z.k+1:Nat):Int))]) (fun z=>(10,bd,cd,5)::(12,b12,(B0 msg dst n).map U8,134)::(14,b14,(Xk (B0 msg dst n) (D dst) z.k).map U8,134)::z.own) (fun z=>((n+31) / 32)-z.k) ⟨0,none,0,[],by omega,fI _ _ _,.inl rfl⟩ hGF ⟨rfl,rfl,rfl,rfl,rfl,rfl,rfl,trivial⟩ ⟨rfl,rfl,rfl,trivial⟩<|?_
  rintro ⟨k,a0,cap,own,hk,hs,hown⟩
  dsimp only at hs hown⊢
  have hx:(X16 (B0 msg dst n) (Xk (B0 msg dst n) (D dst) k) k).length=32:=pq (Sh.eX _) k
  have hcap:=Ef hs
  rw[ez]at hcap
  refine ah<|Xp<|Mv rfl<|aZ rfl (fun _=>aC underlying22 _ _ _ _) rfl rfl<|Mv rfl<|Bnr rfl rfl (fun _=>av _ _ _)<|aa<|?_
  refine ba rfl (fun hc=> ?_) (fun hc=> ?_)
  ·have hlt:32*k<n:=by rw[ez]at hc;simp at hc;omega
   clear hc
   refine au<|ah<|ai<|Xp<|La 12 rfl rfl lm<|Al 16 hGF zv134<|fun b16=>aF 16 hGF rfl rfl rfl sizeOf134 (by simp) (by simp) (ca _) rfl<|aa<|?_
   refine f8 (ι:=Unit) (fun _=>[(0,.pointer (some ⟨bm,0,none⟩)),(3,I (n:Int)),(10,.slice (some ⟨bd,0,none⟩) (D dst).length cd.length),(12,.pointer (some ⟨b12,0,none⟩)),(13,.slice a0 (O (B0 msg dst n) (D dst) k).length cap),(14,.pointer (some ⟨b14,0,none⟩)),(15,I ((k+1:Nat):Int)),(16,.pointer (some ⟨b16,0,none⟩))]) (fun _=>(16,b16,(X16 (B0 msg dst n) (Xk (B0 msg dst n) (D dst) k) k).map U8,134)::(10,bd,cd,5)::(12,b12,(B0 msg dst n).map U8,134)::(14,b14,(Xk (B0 msg dst n) (D dst) k).map U8,134)::own) hGF ?_ ?_
   ·by_cases hk0:k=0
    ·refine Xp<|Mv rfl<|Bnb false rfl rfl (fun _=>aP _ _ _) (decide_eq_false (by omega))<|aa<|aV rfl<|au<|?_
     repeat (refine aJ ?_)
     exact aA<|⟨rfl,(),_,rfl,⟨rfl,rfl,rfl,rfl,rfl,rfl,rfl,rfl,trivial⟩,⟨by rw[X16,if_pos hk0];rfl,rfl,rfl,rfl,pT hown rfl⟩⟩
    ·refine Xp<|Mv rfl<|Bnb true rfl rfl (fun _=>aP _ _ _) (decide_eq_true (by omega))<|aa<|bf rfl<|Xp<|Asg rfl<|aa<|ai<|bg (ι:={j:Nat // j≤32}) (fun y=>[(0,.pointer (some ⟨bm,0,none⟩)),(3,I (n:Int)),(10,.slice (some ⟨bd,0,none⟩) (D dst).length cd.length),(12,.pointer (some ⟨b12,0,none⟩)),(13,.slice a0 (O (B0 msg dst n) (D dst) k).length cap),(14,.pointer (some ⟨b14,0,none⟩)),(15,I ((k+1:Nat):Int)),(16,.pointer (some ⟨b16,0,none⟩)),(17,I (y.1:Int))]) (fun y=>(16,b16,(R (B0 msg dst n) (Xk (B0 msg dst n) (D dst) k) y.1).map U8,134)::(10,bd,cd,5)::(12,b12,(B0 msg dst n).map U8,134)::(14,b14,(Xk (B0 msg dst n) (D dst) k).map U8,134)::own) (fun y=>32-y.1) ⟨0,by omega⟩ hGF ⟨rfl,rfl,rfl,rfl,rfl,rfl,rfl,rfl,rfl,trivial⟩ ⟨rfl,rfl,rfl,rfl,pT hown rfl⟩<|?_
     rintro ⟨j,hj⟩
     dsimp only
     refine ah<|Xp<|Mv rfl<|Bnr rfl rfl (fun _=>av _ _ _)<|aa<|?_
     refine ba rfl (fun hc=> ?_) (fun hc=> ?_)
     ·simp only[decide_eq_true_eq]at hc
      refine au<|ah<|ai<|Xe []<|Mv rfl<|Mv rfl<|Ia (j) rfl rfl underlying134 sizeOf5<|Lm 12 U8 0 rfl rfl isAgg5 (by simp;try omega)<|Mv rfl<|Ia (j) rfl rfl underlying134 sizeOf5<|Lm 14 U8 0 rfl rfl isAgg5 (by simp;try omega)<|Bnr rfl rfl (fun _=>mF _ _ _)<|Ia (j) rfl rfl underlying134 sizeOf5<|aK 16 U8 hGF rfl rfl rfl sizeOf5 rfl (by simp;try omega) rfl<|aa<|Xq<|Mv rfl<|Bnr rfl rfl (fun _=>ap _ _ _ (by unfold inI;omega))<|Asg rfl<|aa<|?_
      repeat (refine aJ ?_)
      exact aA<|⟨rfl,⟨j+1,by omega⟩,_,by show 32-(j+1)<32-j;omega,rfl,⟨rfl,rfl,rfl,rfl,rfl,rfl,rfl,rfl,rfl,trivial⟩,⟨rfl,rfl,rfl,rfl,pT hown rfl⟩⟩
     ·obtain rfl:j=32:=by simp at hc;omega
      refine aM ?_
      repeat (first|refine eV ?_|refine dw ?_)
      exact aA<|⟨rfl,(),_,rfl,⟨rfl,rfl,rfl,rfl,rfl,rfl,rfl,rfl,trivial⟩,⟨by rw[X16,if_neg hk0];rfl,rfl,rfl,rfl,pT hown rfl⟩⟩
   ·intro _
    refine Xp<|Mv rfl<|ci (l:=0) (h':=32) rfl underlying134 sizeOf5 rfl rfl (by omega) (by omega) rfl rfl<|?_
    refine bF (xs:=[]) (ys:=X16 (B0 msg dst n) (Xk (B0 msg dst n) (D dst) k) k) 60 hGF rfl (by rw[hx];rfl) underlying22 underlying22 ti5 (fI _ _ _) (fun w' h=>BytesAt.range (aU (n:=16) rfl w' h)) (by rw[hx];decide) rfl rfl (fun h0=> ?_) (fun b81 c81 cap81 e81 l81 t81=> ?_)
    ·exact (sZ hx h0).elim
    subst e81
    refine Mv rfl<|bt rfl rfl (fun _=>dR underlying3 underlying5 _) rfl rfl<|dX 84 [BitVec.ofInt 8 ((k+1:Nat):Int)] hGF rfl rfl rfl (by decide) (by decide) underlying22 sizeOf5 zeroValue5 rfl rfl<|?_
    intro b84
    refine bF (xs:=X16 (B0 msg dst n) (Xk (B0 msg dst n) (D dst) k) k) (ys:=[BitVec.ofInt 8 ((k+1:Nat):Int)]) 60 hGF rfl rfl underlying22 underlying22 ti5 (.inr ⟨b81,c81,rfl,rfl,rfl,l81,t81⟩) (fun w' h=>BytesAt.range (aU (n:=84) rfl w' h)) (by rw[hx];show 32+1≤_;decide) rfl rfl (fun h0=> ?_) (fun b85 c85 cap85 e85 l85 t85=> ?_)
    ·simp at h0
    subst e85
    refine Mv rfl ?_
    refine bF (xs:=(X16 (B0 msg dst n) (Xk (B0 msg dst n) (D dst) k) k)++[BitVec.ofInt 8 ((k+1:Nat):Int)]) (ys:=(D dst)) 60 hGF rfl rfl underlying22 underlying22 ti5 (.inr ⟨b85,c85,rfl,rfl,rfl,l85,t85⟩) (fun w' h=>mS (aU (n:=10) rfl w' h) hd2) (by rw[List.length_append,hx,g9];first|omega|(simp<;>omega)) rfl rfl (fun h0=> ?_) (fun b87 c87 cap87 e87 l87 t87=> ?_)
    ·simp at h0
    subst e87
    refine kf rfl rfl ent102 (fun w' hC hG=>oH bm (some ⟨b87,0,none⟩) _ _ (((X16 (B0 msg dst n) (Xk (B0 msg dst n) (D dst) k) k)++[BitVec.ofInt 8 ((k+1:Nat):Int)])++(D dst)) rfl (by rw[List.length_append,List.length_append,hx,g9];first|omega|(simp<;>omega)) w' hG (own_grow ho (ac hC)) (mS (aU (n:=60) rfl w' hC) t87)) rfl rfl ?_
    rw[show Sh.SHA (((X16 (B0 msg dst n) (Xk (B0 msg dst n) (D dst) k) k)++[BitVec.ofInt 8 ((k+1:Nat):Int)])++(D dst))=Xk (B0 msg dst n) (D dst) (k+1) by rw[Xk];rfl]
    refine aF 14 hGF rfl rfl rfl sizeOf134 (by simp) (by simp) (ca _) rfl<|aa<|Xq<|Mv rfl<|ci (l:=0) (h':=32) rfl underlying134 sizeOf5 rfl rfl (by omega) (by omega) rfl rfl<|?_
    refine bF (xs:=O (B0 msg dst n) (D dst) k) (ys:=Xk (B0 msg dst n) (D dst) (k+1)) 50 hGF rfl (by rw[dW];rfl) underlying22 underlying22 ti5 (OwnSl.of hs rfl) (fun w' h=>BytesAt.range (aU (n:=14) rfl w' h)) (by rw[ez,dW];omega) rfl rfl (fun h0=> ?_) (fun b91 c91 cap91 e91 l91 t91=> ?_)
    ·exact (sZ (dW _ _ _) h0).elim
    subst e91
    refine Asg rfl<|aa<|Xq<|Mv rfl<|Bnr (v:=I ((k+1+1:Nat):Int)) rfl rfl (fun _=>(ap _ _ _ (by unfold inI;omega)).trans (by rfl))<|Asg rfl<|aa<|?_
    repeat (first|refine aJ ?_|refine dw ?_)
    exact aA<|⟨rfl,⟨k+1,some ⟨b91,0,none⟩,c91.length,[(50,b91,c91,5)],by omega,.inr ⟨b91,c91,rfl,rfl,rfl,l91,t91⟩,.inr ⟨_,rfl⟩⟩,_,by show ((n+31) / 32)-(k+1)<((n+31) / 32)-k;omega,rfl,⟨rfl,rfl,rfl,rfl,rfl,rfl,rfl,trivial⟩,⟨rfl,rfl,rfl,rfl,trivial⟩⟩
  ·have hge:n≤32*k:=by rw[ez]at hc;simp at hc;omega
   clear hc
   obtain rfl:k=(n+31) / 32:=by omega
   refine aM<|Xp<|Mv rfl<|Mv rfl<|iP (l:=0) (h':=n) rfl underlying22 sizeOf5 rfl rfl (by omega) rfl rfl<|Asg rfl<|Asg rfl<|aa<|aq<|?_
   repeat (first|refine ck ?_|refine cn ?_|refine iR ?_)
   rcases hs with ⟨rfl,e0,rfl⟩|⟨b,c,rfl,hl,hc,hle,ht⟩
   ·have hn0:n=0:=by have:=congrArg List.length e0;rw[ez,List.length_nil]at this;omega
    subst hn0
    exact bL rfl rfl rfl (fun w hw=>⟨_,rfl,ac hw,.inl ⟨rfl,rfl⟩⟩)
   ·have e1:(if cap=0 then (some ⟨b,0,none⟩:Option Addr)else (some ⟨b,0,none⟩:Option Addr).map (·.add (0*1)))=some ⟨b,0,none⟩:=by split<;>rfl
    rcases hown with rfl|⟨z,rfl⟩
    ·cases hl
    ·have hz:z=(b,c,5):=Option.some.inj hl
     subst hz
     exact bL rfl rfl rfl (fun w hw=>⟨_,rfl,ac hw,.inr ⟨b,c,_,by rw[e1,h9];rfl,(hw.own 50 b _ _ rfl).2.elim id False.elim,(hw.own 50 b _ _ rfl).1,hc,by rw[h9];omega,by rw[h9];exact r8 ht (by rw[ez];omega)⟩⟩)
end Xm
end
section
open Go.RowKit
theorem ent96:am Tryz.prog 96:=fun _ _=>by kernel_rfl
theorem ent56:am Tryz.prog 56:=fun _ _=>by kernel_rfl
namespace Xm
attribute [local simp] Sh.eX iw my ic dW ez Sh.iC g9
def Bad(msg dst:List (BitVec 8))(z:Int):Prop:=z<0∨8160<z∨255<dst.length∨65536<msg.length
structure RT(msg dst:List (BitVec 8))(z:Int)(w:World)(v:Value):Prop where
 bad:Bad msg dst z→v=.tuple #[.slice none 0 0,I 130]
 ok: ¬Bad msg dst z→∃a cap,v=.tuple #[.slice a (E msg dst z.toNat).length cap,I 0]∧BytesAt w a (E msg dst z.toNat)∧(E msg dst z.toNat).length≤cap
theorem GT{w w':World}{bs:List (BitVec 8)}{sv:Value}(h:Sh.Cln w w' bs sv): ∃a cap,sv=.slice a bs.length cap∧BytesAt w' a bs∧bs.length≤cap:=by
 rcases h with ⟨rfl,rfl⟩|⟨b,c,cap,rfl,_,ho,_,hle,ht⟩
 ·exact ⟨none,0,rfl,fun j v hv=>by simp at hv,Nat.le_refl _⟩
 ·exact ⟨_,_,rfl,mS ho.range ht,hle⟩
theorem u1(bm:Nat)(a1:Option Addr)(cap1:Nat)(msg:List (BitVec 8))(a2:Option Addr)(cap2:Nat)(dst:List (BitVec 8))(z:Int)(w:World)(hw:Gt w)(ho:OwnB w bm (Sh.MK.map U32) 77)(hb1:BytesAt w a1 msg)(hb2:BytesAt w a2 dst):Calls Tryz.prog 60 [.pointer (some ⟨bm,0,none⟩),.slice a1 msg.length cap1,.slice a2 dst.length cap2,I z].toArray w (fun e w'=> ∃v,e=.returned v∧Grow w w'∧RT msg dst z w' v):=by
 have err:Bad msg dst z→∀{e:Ending} {w':World},e=.returned (.tuple #[.slice none 0 0,I 130])∧Grow w w'→∃v,e=.returned v∧Grow w w'∧RT msg dst z w' v:=fun hb _ _ h=>⟨_,h.1,h.2,fun _=>rfl,fun hn=>absurd hb hn⟩
 by_cases h0:z<0
 ·exact (Nr bm a1 cap1 msg a2 cap2 dst z h0 w hw).mono fun _ _ h=>err (.inl h0) h
 by_cases h1:8160<z
 ·exact (K7 bm a1 cap1 msg a2 cap2 dst z h1 w hw).mono fun _ _ h=>err (.inr (.inl h1)) h
 by_cases h2:255<dst.length
 ·exact (Lz bm a1 cap1 msg a2 cap2 dst z h0 h1 h2 w hw).mono fun _ _ h=>err (.inr (.inr (.inl h2))) h
 by_cases h3:65536<msg.length
 ·exact (MQ bm a1 cap1 msg a2 cap2 dst z h0 h1 h2 h3 w hw).mono fun _ _ h=>err (.inr (.inr (.inr h3))) h
 obtain ⟨n,rfl⟩: ∃n:Nat,z=(n:Int):=⟨z.toNat,by omega⟩
 refine (IK bm a1 cap1 msg a2 cap2 dst n (by omega) (by omega) (by omega) w hw ho hb1 hb2).mono fun e w' ⟨sv,he,hg,hc⟩=>⟨_,he,hg,fun hb=>absurd hb ?_,fun _=> ?_⟩
 ·rintro (h|h|h|h)<;>omega
 ·obtain ⟨a,cap,rfl,hby,hle⟩:=GT hc
  exact ⟨a,cap,rfl,hby,hle⟩
def PXC:Prop:= ∀(a1:Option Addr) (cap1:Nat) (msg:List (BitVec 8)) (a2:Option Addr) (cap2:Nat) (dst:List (BitVec 8)) (z:Int) (w:World),msg.length≤100000→msg.length≤cap1→dst.length≤100000→dst.length≤cap2→Gt w→BytesAt w a1 msg→BytesAt w a2 dst→Calls Tryz.prog 96 [.slice a1 msg.length cap1,.slice a2 dst.length cap2,I z].toArray w (fun e w'=> ∃v,e=.returned v∧Grow w w'∧RT msg dst z w' v)
end Xm
end
end Go.Proofs.YtodgbdcjjhmnkaaGreatDoor
