/-
 The walk of the reference's product modulo p.
 The walks of the reference's elements of p: sums, differences, products.
 The walk of the reference's numbers of many bytes.
 The walk of the reference's powers.
 The walk of the reference's exponents: p and a small number, by a power of two.
 The walks of the reference's inverses and signs.
-/
import Derived.Test.YtodgbdcjjhmnkaaGreatDoorX6
import Derived.Test.YtodgbdcjjhmnkaaGreatDoorX2
import Derived.Test.YtodgbdcjjhmnkaaGreatDoorX4
import Derived.Test.YtodgbdcjjhmnkaaGreatDoorXW
import Derived.Test.YtodgbdcjjhmnkaaGreatDoorX3
set_option maxRecDepth 100000
set_option maxHeartbeats 1000000
namespace Go.Proofs.YtodgbdcjjhmnkaaGreatDoor
open Go.Proofs.Tryz
section
open Go.RowKit
theorem cd(x y c s:BitVec 64)(hc:c.toNat≤1)(h:(ADC x y c).1=s)(w:World):(callFunc 105 [U64 x,U64 y,U64 c].toArray).run Tryz.prog w=.ok (.value (.tuple #[U64 s,U64 (ADC x y c).2])) w:=by
 subst h;exact bZ x y c hc w
theorem cT:PL.length=6:=rfl
theorem eJ  :Pure Tryz.prog Gt 63 [] (.agg ((PL).map U64).toArray):=by
 intro w hw
 refine Hf func63 rfl hw<|fun hGF=>Xp<|Al 0 hGF zv35<|fun b0=>aa<|Xp<|dP (n:=6) (vs:=(PL).map U64) rfl rfl underlying35 sizeOf24 zeroValue35 rfl rfl rfl rfl<|Sw 0 hGF rfl rfl rfl bu cT<|aa<|ap<|Rr<|?_
 exact av 0 rfl rfl rfl isAgg35 sizeOf35 rfl (fun w hw=>⟨rfl,ac hw⟩)
theorem uA  :Pure Tryz.prog Gt 183 [] (.agg ((ONE).map U64).toArray):=by
 intro w hw
 refine Hf func183 rfl hw<|fun hGF=>Xp<|Al 0 hGF zv35<|fun b0=>aa<|Xp<|dP (n:=6) (vs:=(ONE).map U64) rfl rfl underlying35 sizeOf24 zeroValue35 rfl rfl rfl rfl<|Sw 0 hGF rfl rfl rfl bu n9<|aa<|ap<|Rr<|?_
 exact av 0 rfl rfl rfl isAgg35 sizeOf35 rfl (fun w hw=>⟨rfl,ac hw⟩)
theorem vn  :Pure Tryz.prog Gt 150 [] (.agg ((TWO).map U64).toArray):=by
 intro w hw
 refine Hf func150 rfl hw<|fun hGF=>Xp<|Al 0 hGF zv35<|fun b0=>aa<|Xp<|dP (n:=6) (vs:=(TWO).map U64) rfl rfl underlying35 sizeOf24 zeroValue35 rfl rfl rfl rfl<|Sw 0 hGF rfl rfl rfl bu nX<|aa<|ap<|Rr<|?_
 exact av 0 rfl rfl rfl isAgg35 sizeOf35 rfl (fun w hw=>⟨rfl,ac hw⟩)
theorem iC(a b:List (BitVec 64))(ha:a.length=6)(hb:b.length=6):Pure Tryz.prog Gt 149 [.agg ((a).map U64).toArray,.agg ((b).map U64).toArray] (.agg ((RM a b).map U64).toArray):=by
 intro w hw
 refine Hf func149 rfl hw ?_
 intro hGF
 by_cases h0:(SS (RT a b 6) PL 6).2=0
 ·refine Xp<|Bx 2 hGF rfl<|fun b2=>Bx 3 hGF rfl<|fun b3=>Al 4 hGF zv35<|fun b4=>aa<|Xp<|Asg rfl<|Asg rfl<|Asg rfl<|Asg rfl<|Asg rfl<|Asg rfl<|aa<|ae<|Xp<|Asg rfl<|aa<|ai<|bB (ι:={i:Nat // i≤6}) (fun x=>[(2,.pointer (some ⟨b2,0,none⟩)),(3,.pointer (some ⟨b3,0,none⟩)),(4,.pointer (some ⟨b4,0,none⟩)),(5,U64 ((RT a b x.1).getD 0 0)),(6,U64 ((RT a b x.1).getD 1 0)),(7,U64 ((RT a b x.1).getD 2 0)),(8,U64 ((RT a b x.1).getD 3 0)),(9,U64 ((RT a b x.1).getD 4 0)),(10,U64 ((RT a b x.1).getD 5 0)),(11,I (x.1:Int))]) (fun x=>[(2,b2,a.map U64,35),(3,b3,b.map U64,35),(4,b4,(List.replicate 6 0#64).map U64,35)]) (fun x=>6-x.1) ⟨0,by omega⟩ hGF ⟨rfl,rfl,rfl,rfl,rfl,rfl,rfl,rfl,rfl,rfl,trivial⟩ ⟨rfl,rfl,rfl,trivial⟩<|?_
  rintro ⟨i,hi⟩
  dsimp only
  refine ae<|Xp<|Mv rfl<|Bnr rfl rfl (fun _=>aA _ _ _)<|aa<|?_
  refine bj rfl (fun hc=> ?_) (fun hc=> ?_)
  ·simp only[decide_eq_true_eq]at hc
   refine au<|ae<|ai<|Xp<|Asg rfl<|Asg rfl<|Asg rfl<|Asg rfl<|aa<|Xp<|Mv rfl<|Ia (i) rfl rfl underlying35 sizeOf24<|Lm 3 U64 0 rfl rfl isAgg24 (by rw[hb];omega)<|Asg rfl<|aa<|Xp<|Ia (0) rfl rfl underlying35 sizeOf24<|Lm 2 U64 0 rfl rfl isAgg24 (by rw[ha];omega)<|Mv rfl<|Ca rfl (aV _ _)<|Mv rfl<|Ext rfl rfl<|Ext rfl rfl<|Asg rfl<|Asg rfl<|aa<|Xp<|Mv rfl<|Mv rfl<|aI rfl rfl (fun w=>cd _ _ 0 _ (by decide) (k1z (b.getD i 0) a (RT a b i)) w) rfl rfl<|Mv rfl<|Ext rfl rfl<|Ext rfl rfl<|Asg rfl<|Asg rfl<|aa<|Xp<|Mv rfl<|Mv rfl<|Bnr (v:=U64 (KC (b.getD i 0) a (RT a b i) 1)) rfl rfl (fun w=>(aq _ _ _).trans (congrArg (fun z=>Result.ok (U64 z) w) (k2z (b.getD i 0) a (RT a b i))))<|?_
   refine Asg rfl<|aa<|Xp<|Ia (1) rfl rfl underlying35 sizeOf24<|Lm 2 U64 0 rfl rfl isAgg24 (by rw[ha];omega)<|Mv rfl<|Ca rfl (aV _ _)<|Mv rfl<|Ext rfl rfl<|Ext rfl rfl<|Asg rfl<|Asg rfl<|aa<|Xp<|Mv rfl<|Mv rfl<|aI rfl rfl (fun w=>bZ _ _ 0 (by decide) w) rfl rfl<|Mv rfl<|Ext rfl rfl<|Ext rfl rfl<|Asg rfl<|Asg rfl<|aa<|Xp<|Mv rfl<|Mv rfl<|Bnr rfl rfl (fun _=>aq _ _ _)<|Asg rfl<|aa<|Xp<|Mv rfl<|Mv rfl<|aI rfl rfl (fun w=>cd _ _ 0 _ (by decide) (k1s (b.getD i 0) a (RT a b i) 1) w) rfl rfl<|Mv rfl<|Ext rfl rfl<|Ext rfl rfl<|Asg rfl<|Asg rfl<|aa<|Xp<|?_
   refine Mv rfl<|Mv rfl<|Bnr (v:=U64 (KC (b.getD i 0) a (RT a b i) 2)) rfl rfl (fun w=>(aq _ _ _).trans (congrArg (fun z=>Result.ok (U64 z) w) (k2s (b.getD i 0) a (RT a b i) 1)))<|Asg rfl<|aa<|Xp<|Ia (2) rfl rfl underlying35 sizeOf24<|Lm 2 U64 0 rfl rfl isAgg24 (by rw[ha];omega)<|Mv rfl<|Ca rfl (aV _ _)<|Mv rfl<|Ext rfl rfl<|Ext rfl rfl<|Asg rfl<|Asg rfl<|aa<|Xp<|Mv rfl<|Mv rfl<|aI rfl rfl (fun w=>bZ _ _ 0 (by decide) w) rfl rfl<|Mv rfl<|Ext rfl rfl<|Ext rfl rfl<|Asg rfl<|Asg rfl<|aa<|Xp<|Mv rfl<|Mv rfl<|Bnr rfl rfl (fun _=>aq _ _ _)<|Asg rfl<|aa<|Xp<|Mv rfl<|Mv rfl<|aI rfl rfl (fun w=>cd _ _ 0 _ (by decide) (k1s (b.getD i 0) a (RT a b i) 2) w) rfl rfl<|Mv rfl<|Ext rfl rfl<|Ext rfl rfl<|Asg rfl<|?_
   refine Asg rfl<|aa<|Xp<|Mv rfl<|Mv rfl<|Bnr (v:=U64 (KC (b.getD i 0) a (RT a b i) 3)) rfl rfl (fun w=>(aq _ _ _).trans (congrArg (fun z=>Result.ok (U64 z) w) (k2s (b.getD i 0) a (RT a b i) 2)))<|Asg rfl<|aa<|Xp<|Ia (3) rfl rfl underlying35 sizeOf24<|Lm 2 U64 0 rfl rfl isAgg24 (by rw[ha];omega)<|Mv rfl<|Ca rfl (aV _ _)<|Mv rfl<|Ext rfl rfl<|Ext rfl rfl<|Asg rfl<|Asg rfl<|aa<|Xp<|Mv rfl<|Mv rfl<|aI rfl rfl (fun w=>bZ _ _ 0 (by decide) w) rfl rfl<|Mv rfl<|Ext rfl rfl<|Ext rfl rfl<|Asg rfl<|Asg rfl<|aa<|Xp<|Mv rfl<|Mv rfl<|Bnr rfl rfl (fun _=>aq _ _ _)<|Asg rfl<|aa<|Xp<|Mv rfl<|Mv rfl<|aI rfl rfl (fun w=>cd _ _ 0 _ (by decide) (k1s (b.getD i 0) a (RT a b i) 3) w) rfl rfl<|Mv rfl<|?_
   refine Ext rfl rfl<|Ext rfl rfl<|Asg rfl<|Asg rfl<|aa<|Xp<|Mv rfl<|Mv rfl<|Bnr (v:=U64 (KC (b.getD i 0) a (RT a b i) 4)) rfl rfl (fun w=>(aq _ _ _).trans (congrArg (fun z=>Result.ok (U64 z) w) (k2s (b.getD i 0) a (RT a b i) 3)))<|Asg rfl<|aa<|Xp<|Ia (4) rfl rfl underlying35 sizeOf24<|Lm 2 U64 0 rfl rfl isAgg24 (by rw[ha];omega)<|Mv rfl<|Ca rfl (aV _ _)<|Mv rfl<|Ext rfl rfl<|Ext rfl rfl<|Asg rfl<|Asg rfl<|aa<|Xp<|Mv rfl<|Mv rfl<|aI rfl rfl (fun w=>bZ _ _ 0 (by decide) w) rfl rfl<|Mv rfl<|Ext rfl rfl<|Ext rfl rfl<|Asg rfl<|Asg rfl<|aa<|Xp<|Mv rfl<|Mv rfl<|Bnr rfl rfl (fun _=>aq _ _ _)<|Asg rfl<|aa<|Xp<|Mv rfl<|?_
   refine Mv rfl<|aI rfl rfl (fun w=>cd _ _ 0 _ (by decide) (k1s (b.getD i 0) a (RT a b i) 4) w) rfl rfl<|Mv rfl<|Ext rfl rfl<|Ext rfl rfl<|Asg rfl<|Asg rfl<|aa<|Xp<|Mv rfl<|Mv rfl<|Bnr (v:=U64 (KC (b.getD i 0) a (RT a b i) 5)) rfl rfl (fun w=>(aq _ _ _).trans (congrArg (fun z=>Result.ok (U64 z) w) (k2s (b.getD i 0) a (RT a b i) 4)))<|Asg rfl<|aa<|Xp<|Ia (5) rfl rfl underlying35 sizeOf24<|Lm 2 U64 0 rfl rfl isAgg24 (by rw[ha];omega)<|Mv rfl<|Ca rfl (aV _ _)<|Mv rfl<|Ext rfl rfl<|Ext rfl rfl<|Asg rfl<|Asg rfl<|aa<|Xp<|Mv rfl<|Mv rfl<|aI rfl rfl (fun w=>bZ _ _ 0 (by decide) w) rfl rfl<|Mv rfl<|Ext rfl rfl<|Ext rfl rfl<|Asg rfl<|Asg rfl<|aa<|Xp<|Mv rfl<|Mv rfl<|Bnr rfl rfl (fun _=>aq _ _ _)<|Asg rfl<|?_
   refine aa<|Xp<|Mv rfl<|Mv rfl<|aI rfl rfl (fun w=>cd _ _ 0 _ (by decide) (k1s (b.getD i 0) a (RT a b i) 5) w) rfl rfl<|Mv rfl<|Ext rfl rfl<|Ext rfl rfl<|Asg rfl<|Asg rfl<|aa<|Xp<|Mv rfl<|Mv rfl<|Bnr (v:=U64 (KC (b.getD i 0) a (RT a b i) 6)) rfl rfl (fun w=>(aq _ _ _).trans (congrArg (fun z=>Result.ok (U64 z) w) (k2s (b.getD i 0) a (RT a b i) 5)))<|Asg rfl<|aa<|Xp<|Mv rfl<|Asg rfl<|aa<|Xp<|Mv rfl<|Bnr (v:=U64 (KT (b.getD i 0) a (RT a b i) 0*INV)) rfl rfl (fun w=>bD _ _ INV)<|Asg rfl<|aa<|Xp<|Mv rfl<|Ca rfl (aV _ (PL.getD 0 0))<|Mv rfl<|Ext rfl rfl<|Ext rfl rfl<|Asg rfl<|Asg rfl<|aa<|Xp<|Mv rfl<|Mv rfl<|aI rfl rfl (fun w=>bZ _ _ 0 (by decide) w) rfl rfl<|Mv rfl<|?_
   refine Ext rfl rfl<|Ext rfl rfl<|Asg rfl<|aa<|Xp<|Mv rfl<|Mv rfl<|Bnr (v:=U64 (KD (KT (b.getD i 0) a (RT a b i) 0*INV) PL (T1 (b.getD i 0) a (RT a b i)) 0)) rfl rfl (fun w=>(aq _ _ _).trans (congrArg (fun z=>Result.ok (U64 z) w) (d2z (b.getD i 0) (KT (b.getD i 0) a (RT a b i) 0*INV) a (RT a b i))))<|Asg rfl<|aa<|Xp<|Mv rfl<|Ca rfl (aV _ (PL.getD 1 0))<|Mv rfl<|Ext rfl rfl<|Ext rfl rfl<|Asg rfl<|Asg rfl<|aa<|Xp<|Mv rfl<|Mv rfl<|aI rfl rfl (fun w=>bZ _ _ 0 (by decide) w) rfl rfl<|Mv rfl<|Ext rfl rfl<|Ext rfl rfl<|Asg rfl<|Asg rfl<|aa<|Xp<|Mv rfl<|Mv rfl<|Bnr rfl rfl (fun _=>aq _ _ _)<|Asg rfl<|aa<|Xp<|Mv rfl<|Mv rfl<|aI rfl rfl (fun w=>cd _ _ 0 _ (by decide) (d1s (b.getD i 0) (KT (b.getD i 0) a (RT a b i) 0*INV) a (RT a b i) 0 (by decide)) w) rfl rfl<|Mv rfl<|?_
   refine Ext rfl rfl<|Ext rfl rfl<|Asg rfl<|Asg rfl<|aa<|Xp<|Mv rfl<|Mv rfl<|Bnr (v:=U64 (KD (KT (b.getD i 0) a (RT a b i) 0*INV) PL (T1 (b.getD i 0) a (RT a b i)) 1)) rfl rfl (fun w=>(aq _ _ _).trans (congrArg (fun z=>Result.ok (U64 z) w) (d2s (b.getD i 0) (KT (b.getD i 0) a (RT a b i) 0*INV) a (RT a b i) 0 (by decide))))<|Asg rfl<|aa<|Xp<|Mv rfl<|Ca rfl (aV _ (PL.getD 2 0))<|Mv rfl<|Ext rfl rfl<|Ext rfl rfl<|Asg rfl<|Asg rfl<|aa<|Xp<|Mv rfl<|Mv rfl<|aI rfl rfl (fun w=>bZ _ _ 0 (by decide) w) rfl rfl<|Mv rfl<|Ext rfl rfl<|Ext rfl rfl<|Asg rfl<|Asg rfl<|aa<|Xp<|Mv rfl<|Mv rfl<|Bnr rfl rfl (fun _=>aq _ _ _)<|Asg rfl<|aa<|Xp<|Mv rfl<|Mv rfl<|aI rfl rfl (fun w=>cd _ _ 0 _ (by decide) (d1s (b.getD i 0) (KT (b.getD i 0) a (RT a b i) 0*INV) a (RT a b i) 1 (by decide)) w) rfl rfl<|?_
   refine Mv rfl<|Ext rfl rfl<|Ext rfl rfl<|Asg rfl<|Asg rfl<|aa<|Xp<|Mv rfl<|Mv rfl<|Bnr (v:=U64 (KD (KT (b.getD i 0) a (RT a b i) 0*INV) PL (T1 (b.getD i 0) a (RT a b i)) 2)) rfl rfl (fun w=>(aq _ _ _).trans (congrArg (fun z=>Result.ok (U64 z) w) (d2s (b.getD i 0) (KT (b.getD i 0) a (RT a b i) 0*INV) a (RT a b i) 1 (by decide))))<|Asg rfl<|aa<|Xp<|Mv rfl<|Ca rfl (aV _ (PL.getD 3 0))<|Mv rfl<|Ext rfl rfl<|Ext rfl rfl<|Asg rfl<|Asg rfl<|aa<|Xp<|Mv rfl<|Mv rfl<|aI rfl rfl (fun w=>bZ _ _ 0 (by decide) w) rfl rfl<|Mv rfl<|Ext rfl rfl<|Ext rfl rfl<|Asg rfl<|Asg rfl<|aa<|Xp<|Mv rfl<|Mv rfl<|Bnr rfl rfl (fun _=>aq _ _ _)<|Asg rfl<|aa<|Xp<|Mv rfl<|Mv rfl<|?_
   refine aI rfl rfl (fun w=>cd _ _ 0 _ (by decide) (d1s (b.getD i 0) (KT (b.getD i 0) a (RT a b i) 0*INV) a (RT a b i) 2 (by decide)) w) rfl rfl<|Mv rfl<|Ext rfl rfl<|Ext rfl rfl<|Asg rfl<|Asg rfl<|aa<|Xp<|Mv rfl<|Mv rfl<|Bnr (v:=U64 (KD (KT (b.getD i 0) a (RT a b i) 0*INV) PL (T1 (b.getD i 0) a (RT a b i)) 3)) rfl rfl (fun w=>(aq _ _ _).trans (congrArg (fun z=>Result.ok (U64 z) w) (d2s (b.getD i 0) (KT (b.getD i 0) a (RT a b i) 0*INV) a (RT a b i) 2 (by decide))))<|Asg rfl<|aa<|Xp<|Mv rfl<|Ca rfl (aV _ (PL.getD 4 0))<|Mv rfl<|Ext rfl rfl<|Ext rfl rfl<|Asg rfl<|Asg rfl<|aa<|Xp<|Mv rfl<|Mv rfl<|aI rfl rfl (fun w=>bZ _ _ 0 (by decide) w) rfl rfl<|Mv rfl<|Ext rfl rfl<|Ext rfl rfl<|Asg rfl<|Asg rfl<|aa<|Xp<|Mv rfl<|Mv rfl<|Bnr rfl rfl (fun _=>aq _ _ _)<|Asg rfl<|aa<|Xp<|Mv rfl<|?_
   refine Mv rfl<|aI rfl rfl (fun w=>cd _ _ 0 _ (by decide) (d1s (b.getD i 0) (KT (b.getD i 0) a (RT a b i) 0*INV) a (RT a b i) 3 (by decide)) w) rfl rfl<|Mv rfl<|Ext rfl rfl<|Ext rfl rfl<|Asg rfl<|Asg rfl<|aa<|Xp<|Mv rfl<|Mv rfl<|Bnr (v:=U64 (KD (KT (b.getD i 0) a (RT a b i) 0*INV) PL (T1 (b.getD i 0) a (RT a b i)) 4)) rfl rfl (fun w=>(aq _ _ _).trans (congrArg (fun z=>Result.ok (U64 z) w) (d2s (b.getD i 0) (KT (b.getD i 0) a (RT a b i) 0*INV) a (RT a b i) 3 (by decide))))<|Asg rfl<|aa<|Xp<|Mv rfl<|Ca rfl (aV _ (PL.getD 5 0))<|Mv rfl<|Ext rfl rfl<|Ext rfl rfl<|Asg rfl<|Asg rfl<|aa<|Xp<|Mv rfl<|Mv rfl<|aI rfl rfl (fun w=>bZ _ _ 0 (by decide) w) rfl rfl<|Mv rfl<|Ext rfl rfl<|Ext rfl rfl<|Asg rfl<|Asg rfl<|aa<|Xp<|Mv rfl<|Mv rfl<|Bnr rfl rfl (fun _=>aq _ _ _)<|Asg rfl<|aa<|Xp<|?_
   refine Mv rfl<|Mv rfl<|aI rfl rfl (fun w=>cd _ _ 0 _ (by decide) (d1s (b.getD i 0) (KT (b.getD i 0) a (RT a b i) 0*INV) a (RT a b i) 4 (by decide)) w) rfl rfl<|Mv rfl<|Ext rfl rfl<|Ext rfl rfl<|Asg rfl<|Asg rfl<|aa<|Xp<|Mv rfl<|Mv rfl<|Bnr (v:=U64 (KD (KT (b.getD i 0) a (RT a b i) 0*INV) PL (T1 (b.getD i 0) a (RT a b i)) 5)) rfl rfl (fun w=>(aq _ _ _).trans (congrArg (fun z=>Result.ok (U64 z) w) (d2s (b.getD i 0) (KT (b.getD i 0) a (RT a b i) 0*INV) a (RT a b i) 4 (by decide))))<|Asg rfl<|aa<|Xq<|Mv rfl<|Mv rfl<|Bnr rfl rfl (fun _=>aq _ _ _)<|Asg rfl<|aa<|Xq<|Mv rfl<|Bnr rfl rfl (fun _=>aw _ _ _ (by unfold inI;omega))<|Asg rfl<|aa<|?_
   repeat (refine aR ?_)
   exact aG<|⟨rfl,⟨i+1,by omega⟩,_,by show 6-(i+1)<6-i;omega,rfl,⟨rfl,rfl,rfl,congrArg (fun z=>some (U64 z)) (mr a b i 0 (by decide)).symm,congrArg (fun z=>some (U64 z)) (mr a b i 1 (by decide)).symm,congrArg (fun z=>some (U64 z)) (mr a b i 2 (by decide)).symm,congrArg (fun z=>some (U64 z)) (mr a b i 3 (by decide)).symm,congrArg (fun z=>some (U64 z)) (mr a b i 4 (by decide)).symm,congrArg (fun z=>some (U64 z)) (wg a b i).symm,rfl,trivial⟩,⟨rfl,rfl,rfl,trivial⟩⟩
  ·obtain rfl:i=6:=by simp at hc;omega
   refine aT<|Xp<|Mv rfl<|Mv rfl<|Mv rfl<|Mv rfl<|Mv rfl<|Mv rfl<|dP (n:=6) (vs:=(RT a b 6).map U64) (congrArg some (tF (RT a b 6) (dk _ _ _))) rfl underlying35 sizeOf24 zeroValue35 (by rw[List.length_map,dk];rfl) (bg _) rfl rfl<|Al 19 hGF zv35<|fun b19=>Sw 19 hGF rfl rfl rfl bu (dk _ _ _)<|aa<|ae<|Xa [0,1,2,3,4,5] ⟨6,20,35,(List.replicate 6 0#64).map U64⟩ [7,8] (bY rfl zv35 rfl)<|Lw 19 rfl rfl bu (dk _ _ _)<|Ca rfl (eJ)<|Ca rfl (cH _ _ (dk _ _ _) rfl)<|Mv rfl<|Ext rfl rfl<|Ext rfl rfl<|aa<|?_
   refine ⟨_,_,rfl,hGF,by intro x hx;simp only[List.mem_cons,List.not_mem_nil,or_false]at hx;subst hx;rfl,by intro x hx;simp only[List.mem_cons,List.not_mem_nil,or_false]at hx;subst hx;rfl,fun adr=> ?_⟩
   refine Sw 20 hGF rfl rfl rfl bu (az _ _ _)<|Asg rfl<|aa<|Xp<|Mv rfl<|Bnr (v:=.bool true) rfl rfl (fun w=>(a5 _ _ _).trans (congrArg (fun b=>Result.ok (Value.bool b) w) (beq_iff_eq.2 h0)))<|aa<|ba rfl<|Xq<|Lw 20 rfl rfl bu (az _ _ _)<|aH 19 hGF rfl rfl rfl sizeOf35 (by rw[List.length_map,az _ _ _]) (by rw[List.length_map,dk _ _ _]) (bg _) rfl<|aa<|Xp<|Lw 19 rfl rfl bu (az _ _ _)<|Sw 4 hGF rfl rfl rfl bu (az _ _ _)<|aa<|ap<|Rr<|?_
   exact av 4 rfl rfl rfl isAgg35 sizeOf35 (by rw[List.length_map,az]) (fun w hw=>⟨by rw[RM,if_pos h0],ac hw⟩)
 ·refine Xp<|Bx 2 hGF rfl<|fun b2=>Bx 3 hGF rfl<|fun b3=>Al 4 hGF zv35<|fun b4=>aa<|Xp<|Asg rfl<|Asg rfl<|Asg rfl<|Asg rfl<|Asg rfl<|Asg rfl<|aa<|ae<|Xp<|Asg rfl<|aa<|ai<|bB (ι:={i:Nat // i≤6}) (fun x=>[(2,.pointer (some ⟨b2,0,none⟩)),(3,.pointer (some ⟨b3,0,none⟩)),(4,.pointer (some ⟨b4,0,none⟩)),(5,U64 ((RT a b x.1).getD 0 0)),(6,U64 ((RT a b x.1).getD 1 0)),(7,U64 ((RT a b x.1).getD 2 0)),(8,U64 ((RT a b x.1).getD 3 0)),(9,U64 ((RT a b x.1).getD 4 0)),(10,U64 ((RT a b x.1).getD 5 0)),(11,I (x.1:Int))]) (fun x=>[(2,b2,a.map U64,35),(3,b3,b.map U64,35),(4,b4,(List.replicate 6 0#64).map U64,35)]) (fun x=>6-x.1) ⟨0,by omega⟩ hGF ⟨rfl,rfl,rfl,rfl,rfl,rfl,rfl,rfl,rfl,rfl,trivial⟩ ⟨rfl,rfl,rfl,trivial⟩<|?_
  rintro ⟨i,hi⟩
  dsimp only
  refine ae<|Xp<|Mv rfl<|Bnr rfl rfl (fun _=>aA _ _ _)<|aa<|?_
  refine bj rfl (fun hc=> ?_) (fun hc=> ?_)
  ·simp only[decide_eq_true_eq]at hc
   refine au<|ae<|ai<|Xp<|Asg rfl<|Asg rfl<|Asg rfl<|Asg rfl<|aa<|Xp<|Mv rfl<|Ia (i) rfl rfl underlying35 sizeOf24<|Lm 3 U64 0 rfl rfl isAgg24 (by rw[hb];omega)<|Asg rfl<|aa<|Xp<|Ia (0) rfl rfl underlying35 sizeOf24<|Lm 2 U64 0 rfl rfl isAgg24 (by rw[ha];omega)<|Mv rfl<|Ca rfl (aV _ _)<|Mv rfl<|Ext rfl rfl<|Ext rfl rfl<|Asg rfl<|Asg rfl<|aa<|Xp<|Mv rfl<|Mv rfl<|aI rfl rfl (fun w=>cd _ _ 0 _ (by decide) (k1z (b.getD i 0) a (RT a b i)) w) rfl rfl<|Mv rfl<|Ext rfl rfl<|Ext rfl rfl<|Asg rfl<|Asg rfl<|aa<|Xp<|Mv rfl<|Mv rfl<|Bnr (v:=U64 (KC (b.getD i 0) a (RT a b i) 1)) rfl rfl (fun w=>(aq _ _ _).trans (congrArg (fun z=>Result.ok (U64 z) w) (k2z (b.getD i 0) a (RT a b i))))<|?_
   refine Asg rfl<|aa<|Xp<|Ia (1) rfl rfl underlying35 sizeOf24<|Lm 2 U64 0 rfl rfl isAgg24 (by rw[ha];omega)<|Mv rfl<|Ca rfl (aV _ _)<|Mv rfl<|Ext rfl rfl<|Ext rfl rfl<|Asg rfl<|Asg rfl<|aa<|Xp<|Mv rfl<|Mv rfl<|aI rfl rfl (fun w=>bZ _ _ 0 (by decide) w) rfl rfl<|Mv rfl<|Ext rfl rfl<|Ext rfl rfl<|Asg rfl<|Asg rfl<|aa<|Xp<|Mv rfl<|Mv rfl<|Bnr rfl rfl (fun _=>aq _ _ _)<|Asg rfl<|aa<|Xp<|Mv rfl<|Mv rfl<|aI rfl rfl (fun w=>cd _ _ 0 _ (by decide) (k1s (b.getD i 0) a (RT a b i) 1) w) rfl rfl<|Mv rfl<|Ext rfl rfl<|Ext rfl rfl<|Asg rfl<|Asg rfl<|aa<|Xp<|?_
   refine Mv rfl<|Mv rfl<|Bnr (v:=U64 (KC (b.getD i 0) a (RT a b i) 2)) rfl rfl (fun w=>(aq _ _ _).trans (congrArg (fun z=>Result.ok (U64 z) w) (k2s (b.getD i 0) a (RT a b i) 1)))<|Asg rfl<|aa<|Xp<|Ia (2) rfl rfl underlying35 sizeOf24<|Lm 2 U64 0 rfl rfl isAgg24 (by rw[ha];omega)<|Mv rfl<|Ca rfl (aV _ _)<|Mv rfl<|Ext rfl rfl<|Ext rfl rfl<|Asg rfl<|Asg rfl<|aa<|Xp<|Mv rfl<|Mv rfl<|aI rfl rfl (fun w=>bZ _ _ 0 (by decide) w) rfl rfl<|Mv rfl<|Ext rfl rfl<|Ext rfl rfl<|Asg rfl<|Asg rfl<|aa<|Xp<|Mv rfl<|Mv rfl<|Bnr rfl rfl (fun _=>aq _ _ _)<|Asg rfl<|aa<|Xp<|Mv rfl<|Mv rfl<|aI rfl rfl (fun w=>cd _ _ 0 _ (by decide) (k1s (b.getD i 0) a (RT a b i) 2) w) rfl rfl<|Mv rfl<|Ext rfl rfl<|Ext rfl rfl<|Asg rfl<|?_
   refine Asg rfl<|aa<|Xp<|Mv rfl<|Mv rfl<|Bnr (v:=U64 (KC (b.getD i 0) a (RT a b i) 3)) rfl rfl (fun w=>(aq _ _ _).trans (congrArg (fun z=>Result.ok (U64 z) w) (k2s (b.getD i 0) a (RT a b i) 2)))<|Asg rfl<|aa<|Xp<|Ia (3) rfl rfl underlying35 sizeOf24<|Lm 2 U64 0 rfl rfl isAgg24 (by rw[ha];omega)<|Mv rfl<|Ca rfl (aV _ _)<|Mv rfl<|Ext rfl rfl<|Ext rfl rfl<|Asg rfl<|Asg rfl<|aa<|Xp<|Mv rfl<|Mv rfl<|aI rfl rfl (fun w=>bZ _ _ 0 (by decide) w) rfl rfl<|Mv rfl<|Ext rfl rfl<|Ext rfl rfl<|Asg rfl<|Asg rfl<|aa<|Xp<|Mv rfl<|Mv rfl<|Bnr rfl rfl (fun _=>aq _ _ _)<|Asg rfl<|aa<|Xp<|Mv rfl<|Mv rfl<|aI rfl rfl (fun w=>cd _ _ 0 _ (by decide) (k1s (b.getD i 0) a (RT a b i) 3) w) rfl rfl<|Mv rfl<|?_
   refine Ext rfl rfl<|Ext rfl rfl<|Asg rfl<|Asg rfl<|aa<|Xp<|Mv rfl<|Mv rfl<|Bnr (v:=U64 (KC (b.getD i 0) a (RT a b i) 4)) rfl rfl (fun w=>(aq _ _ _).trans (congrArg (fun z=>Result.ok (U64 z) w) (k2s (b.getD i 0) a (RT a b i) 3)))<|Asg rfl<|aa<|Xp<|Ia (4) rfl rfl underlying35 sizeOf24<|Lm 2 U64 0 rfl rfl isAgg24 (by rw[ha];omega)<|Mv rfl<|Ca rfl (aV _ _)<|Mv rfl<|Ext rfl rfl<|Ext rfl rfl<|Asg rfl<|Asg rfl<|aa<|Xp<|Mv rfl<|Mv rfl<|aI rfl rfl (fun w=>bZ _ _ 0 (by decide) w) rfl rfl<|Mv rfl<|Ext rfl rfl<|Ext rfl rfl<|Asg rfl<|Asg rfl<|aa<|Xp<|Mv rfl<|Mv rfl<|Bnr rfl rfl (fun _=>aq _ _ _)<|Asg rfl<|aa<|Xp<|Mv rfl<|?_
   refine Mv rfl<|aI rfl rfl (fun w=>cd _ _ 0 _ (by decide) (k1s (b.getD i 0) a (RT a b i) 4) w) rfl rfl<|Mv rfl<|Ext rfl rfl<|Ext rfl rfl<|Asg rfl<|Asg rfl<|aa<|Xp<|Mv rfl<|Mv rfl<|Bnr (v:=U64 (KC (b.getD i 0) a (RT a b i) 5)) rfl rfl (fun w=>(aq _ _ _).trans (congrArg (fun z=>Result.ok (U64 z) w) (k2s (b.getD i 0) a (RT a b i) 4)))<|Asg rfl<|aa<|Xp<|Ia (5) rfl rfl underlying35 sizeOf24<|Lm 2 U64 0 rfl rfl isAgg24 (by rw[ha];omega)<|Mv rfl<|Ca rfl (aV _ _)<|Mv rfl<|Ext rfl rfl<|Ext rfl rfl<|Asg rfl<|Asg rfl<|aa<|Xp<|Mv rfl<|Mv rfl<|aI rfl rfl (fun w=>bZ _ _ 0 (by decide) w) rfl rfl<|Mv rfl<|Ext rfl rfl<|Ext rfl rfl<|Asg rfl<|Asg rfl<|aa<|Xp<|Mv rfl<|Mv rfl<|Bnr rfl rfl (fun _=>aq _ _ _)<|Asg rfl<|?_
   refine aa<|Xp<|Mv rfl<|Mv rfl<|aI rfl rfl (fun w=>cd _ _ 0 _ (by decide) (k1s (b.getD i 0) a (RT a b i) 5) w) rfl rfl<|Mv rfl<|Ext rfl rfl<|Ext rfl rfl<|Asg rfl<|Asg rfl<|aa<|Xp<|Mv rfl<|Mv rfl<|Bnr (v:=U64 (KC (b.getD i 0) a (RT a b i) 6)) rfl rfl (fun w=>(aq _ _ _).trans (congrArg (fun z=>Result.ok (U64 z) w) (k2s (b.getD i 0) a (RT a b i) 5)))<|Asg rfl<|aa<|Xp<|Mv rfl<|Asg rfl<|aa<|Xp<|Mv rfl<|Bnr (v:=U64 (KT (b.getD i 0) a (RT a b i) 0*INV)) rfl rfl (fun w=>bD _ _ INV)<|Asg rfl<|aa<|Xp<|Mv rfl<|Ca rfl (aV _ (PL.getD 0 0))<|Mv rfl<|Ext rfl rfl<|Ext rfl rfl<|Asg rfl<|Asg rfl<|aa<|Xp<|Mv rfl<|Mv rfl<|aI rfl rfl (fun w=>bZ _ _ 0 (by decide) w) rfl rfl<|Mv rfl<|?_
   refine Ext rfl rfl<|Ext rfl rfl<|Asg rfl<|aa<|Xp<|Mv rfl<|Mv rfl<|Bnr (v:=U64 (KD (KT (b.getD i 0) a (RT a b i) 0*INV) PL (T1 (b.getD i 0) a (RT a b i)) 0)) rfl rfl (fun w=>(aq _ _ _).trans (congrArg (fun z=>Result.ok (U64 z) w) (d2z (b.getD i 0) (KT (b.getD i 0) a (RT a b i) 0*INV) a (RT a b i))))<|Asg rfl<|aa<|Xp<|Mv rfl<|Ca rfl (aV _ (PL.getD 1 0))<|Mv rfl<|Ext rfl rfl<|Ext rfl rfl<|Asg rfl<|Asg rfl<|aa<|Xp<|Mv rfl<|Mv rfl<|aI rfl rfl (fun w=>bZ _ _ 0 (by decide) w) rfl rfl<|Mv rfl<|Ext rfl rfl<|Ext rfl rfl<|Asg rfl<|Asg rfl<|aa<|Xp<|Mv rfl<|Mv rfl<|Bnr rfl rfl (fun _=>aq _ _ _)<|Asg rfl<|aa<|Xp<|Mv rfl<|Mv rfl<|aI rfl rfl (fun w=>cd _ _ 0 _ (by decide) (d1s (b.getD i 0) (KT (b.getD i 0) a (RT a b i) 0*INV) a (RT a b i) 0 (by decide)) w) rfl rfl<|Mv rfl<|?_
   refine Ext rfl rfl<|Ext rfl rfl<|Asg rfl<|Asg rfl<|aa<|Xp<|Mv rfl<|Mv rfl<|Bnr (v:=U64 (KD (KT (b.getD i 0) a (RT a b i) 0*INV) PL (T1 (b.getD i 0) a (RT a b i)) 1)) rfl rfl (fun w=>(aq _ _ _).trans (congrArg (fun z=>Result.ok (U64 z) w) (d2s (b.getD i 0) (KT (b.getD i 0) a (RT a b i) 0*INV) a (RT a b i) 0 (by decide))))<|Asg rfl<|aa<|Xp<|Mv rfl<|Ca rfl (aV _ (PL.getD 2 0))<|Mv rfl<|Ext rfl rfl<|Ext rfl rfl<|Asg rfl<|Asg rfl<|aa<|Xp<|Mv rfl<|Mv rfl<|aI rfl rfl (fun w=>bZ _ _ 0 (by decide) w) rfl rfl<|Mv rfl<|Ext rfl rfl<|Ext rfl rfl<|Asg rfl<|Asg rfl<|aa<|Xp<|Mv rfl<|Mv rfl<|Bnr rfl rfl (fun _=>aq _ _ _)<|Asg rfl<|aa<|Xp<|Mv rfl<|Mv rfl<|aI rfl rfl (fun w=>cd _ _ 0 _ (by decide) (d1s (b.getD i 0) (KT (b.getD i 0) a (RT a b i) 0*INV) a (RT a b i) 1 (by decide)) w) rfl rfl<|?_
   refine Mv rfl<|Ext rfl rfl<|Ext rfl rfl<|Asg rfl<|Asg rfl<|aa<|Xp<|Mv rfl<|Mv rfl<|Bnr (v:=U64 (KD (KT (b.getD i 0) a (RT a b i) 0*INV) PL (T1 (b.getD i 0) a (RT a b i)) 2)) rfl rfl (fun w=>(aq _ _ _).trans (congrArg (fun z=>Result.ok (U64 z) w) (d2s (b.getD i 0) (KT (b.getD i 0) a (RT a b i) 0*INV) a (RT a b i) 1 (by decide))))<|Asg rfl<|aa<|Xp<|Mv rfl<|Ca rfl (aV _ (PL.getD 3 0))<|Mv rfl<|Ext rfl rfl<|Ext rfl rfl<|Asg rfl<|Asg rfl<|aa<|Xp<|Mv rfl<|Mv rfl<|aI rfl rfl (fun w=>bZ _ _ 0 (by decide) w) rfl rfl<|Mv rfl<|Ext rfl rfl<|Ext rfl rfl<|Asg rfl<|Asg rfl<|aa<|Xp<|Mv rfl<|Mv rfl<|Bnr rfl rfl (fun _=>aq _ _ _)<|Asg rfl<|aa<|Xp<|Mv rfl<|Mv rfl<|?_
   refine aI rfl rfl (fun w=>cd _ _ 0 _ (by decide) (d1s (b.getD i 0) (KT (b.getD i 0) a (RT a b i) 0*INV) a (RT a b i) 2 (by decide)) w) rfl rfl<|Mv rfl<|Ext rfl rfl<|Ext rfl rfl<|Asg rfl<|Asg rfl<|aa<|Xp<|Mv rfl<|Mv rfl<|Bnr (v:=U64 (KD (KT (b.getD i 0) a (RT a b i) 0*INV) PL (T1 (b.getD i 0) a (RT a b i)) 3)) rfl rfl (fun w=>(aq _ _ _).trans (congrArg (fun z=>Result.ok (U64 z) w) (d2s (b.getD i 0) (KT (b.getD i 0) a (RT a b i) 0*INV) a (RT a b i) 2 (by decide))))<|Asg rfl<|aa<|Xp<|Mv rfl<|Ca rfl (aV _ (PL.getD 4 0))<|Mv rfl<|Ext rfl rfl<|Ext rfl rfl<|Asg rfl<|Asg rfl<|aa<|Xp<|Mv rfl<|Mv rfl<|aI rfl rfl (fun w=>bZ _ _ 0 (by decide) w) rfl rfl<|Mv rfl<|Ext rfl rfl<|Ext rfl rfl<|Asg rfl<|Asg rfl<|aa<|Xp<|Mv rfl<|Mv rfl<|Bnr rfl rfl (fun _=>aq _ _ _)<|Asg rfl<|aa<|Xp<|Mv rfl<|?_
   refine Mv rfl<|aI rfl rfl (fun w=>cd _ _ 0 _ (by decide) (d1s (b.getD i 0) (KT (b.getD i 0) a (RT a b i) 0*INV) a (RT a b i) 3 (by decide)) w) rfl rfl<|Mv rfl<|Ext rfl rfl<|Ext rfl rfl<|Asg rfl<|Asg rfl<|aa<|Xp<|Mv rfl<|Mv rfl<|Bnr (v:=U64 (KD (KT (b.getD i 0) a (RT a b i) 0*INV) PL (T1 (b.getD i 0) a (RT a b i)) 4)) rfl rfl (fun w=>(aq _ _ _).trans (congrArg (fun z=>Result.ok (U64 z) w) (d2s (b.getD i 0) (KT (b.getD i 0) a (RT a b i) 0*INV) a (RT a b i) 3 (by decide))))<|Asg rfl<|aa<|Xp<|Mv rfl<|Ca rfl (aV _ (PL.getD 5 0))<|Mv rfl<|Ext rfl rfl<|Ext rfl rfl<|Asg rfl<|Asg rfl<|aa<|Xp<|Mv rfl<|Mv rfl<|aI rfl rfl (fun w=>bZ _ _ 0 (by decide) w) rfl rfl<|Mv rfl<|Ext rfl rfl<|Ext rfl rfl<|Asg rfl<|Asg rfl<|aa<|Xp<|Mv rfl<|Mv rfl<|Bnr rfl rfl (fun _=>aq _ _ _)<|Asg rfl<|aa<|Xp<|?_
   refine Mv rfl<|Mv rfl<|aI rfl rfl (fun w=>cd _ _ 0 _ (by decide) (d1s (b.getD i 0) (KT (b.getD i 0) a (RT a b i) 0*INV) a (RT a b i) 4 (by decide)) w) rfl rfl<|Mv rfl<|Ext rfl rfl<|Ext rfl rfl<|Asg rfl<|Asg rfl<|aa<|Xp<|Mv rfl<|Mv rfl<|Bnr (v:=U64 (KD (KT (b.getD i 0) a (RT a b i) 0*INV) PL (T1 (b.getD i 0) a (RT a b i)) 5)) rfl rfl (fun w=>(aq _ _ _).trans (congrArg (fun z=>Result.ok (U64 z) w) (d2s (b.getD i 0) (KT (b.getD i 0) a (RT a b i) 0*INV) a (RT a b i) 4 (by decide))))<|Asg rfl<|aa<|Xq<|Mv rfl<|Mv rfl<|Bnr rfl rfl (fun _=>aq _ _ _)<|Asg rfl<|aa<|Xq<|Mv rfl<|Bnr rfl rfl (fun _=>aw _ _ _ (by unfold inI;omega))<|Asg rfl<|aa<|?_
   repeat (refine aR ?_)
   exact aG<|⟨rfl,⟨i+1,by omega⟩,_,by show 6-(i+1)<6-i;omega,rfl,⟨rfl,rfl,rfl,congrArg (fun z=>some (U64 z)) (mr a b i 0 (by decide)).symm,congrArg (fun z=>some (U64 z)) (mr a b i 1 (by decide)).symm,congrArg (fun z=>some (U64 z)) (mr a b i 2 (by decide)).symm,congrArg (fun z=>some (U64 z)) (mr a b i 3 (by decide)).symm,congrArg (fun z=>some (U64 z)) (mr a b i 4 (by decide)).symm,congrArg (fun z=>some (U64 z)) (wg a b i).symm,rfl,trivial⟩,⟨rfl,rfl,rfl,trivial⟩⟩
  ·obtain rfl:i=6:=by simp at hc;omega
   refine aT<|Xp<|Mv rfl<|Mv rfl<|Mv rfl<|Mv rfl<|Mv rfl<|Mv rfl<|dP (n:=6) (vs:=(RT a b 6).map U64) (congrArg some (tF (RT a b 6) (dk _ _ _))) rfl underlying35 sizeOf24 zeroValue35 (by rw[List.length_map,dk];rfl) (bg _) rfl rfl<|Al 19 hGF zv35<|fun b19=>Sw 19 hGF rfl rfl rfl bu (dk _ _ _)<|aa<|ae<|Xa [0,1,2,3,4,5] ⟨6,20,35,(List.replicate 6 0#64).map U64⟩ [7,8] (bY rfl zv35 rfl)<|Lw 19 rfl rfl bu (dk _ _ _)<|Ca rfl (eJ)<|Ca rfl (cH _ _ (dk _ _ _) rfl)<|Mv rfl<|Ext rfl rfl<|Ext rfl rfl<|aa<|?_
   refine ⟨_,_,rfl,hGF,by intro x hx;simp only[List.mem_cons,List.not_mem_nil,or_false]at hx;subst hx;rfl,by intro x hx;simp only[List.mem_cons,List.not_mem_nil,or_false]at hx;subst hx;rfl,fun adr=> ?_⟩
   refine Sw 20 hGF rfl rfl rfl bu (az _ _ _)<|Asg rfl<|aa<|Xp<|Mv rfl<|Bnr (v:=.bool false) rfl rfl (fun w=>(a5 _ _ _).trans (congrArg (fun b=>Result.ok (Value.bool b) w) (beq_eq_false_iff_ne.2 h0)))<|aa<|aL rfl<|au<|Xp<|Lw 19 rfl rfl bu (dk _ _ _)<|Sw 4 hGF rfl rfl rfl bu (dk _ _ _)<|aa<|ap<|Rr<|?_
   exact av 4 rfl rfl rfl isAgg35 sizeOf35 (by rw[List.length_map,dk]) (fun w hw=>⟨by rw[RM,if_neg h0],ac hw⟩)
end
section
open Go.RowKit
theorem ent110:ah Tryz.prog 110:=fun _ _=>by kernel_rfl
theorem ent121:ah Tryz.prog 121:=fun _ _=>by kernel_rfl
theorem ent123:ah Tryz.prog 123:=fun _ _=>by kernel_rfl
theorem ent122:ah Tryz.prog 122:=fun _ _=>by kernel_rfl
theorem ent111:ah Tryz.prog 111:=fun _ _=>by kernel_rfl
theorem ent120:ah Tryz.prog 120:=fun _ _=>by kernel_rfl
theorem ent158:ah Tryz.prog 158:=fun _ _=>by kernel_rfl
theorem zv37(w:World):(zeroValue 37).run Tryz.prog w=.ok (.agg ((List.replicate 6 (0#64)).map U64).toArray) w:=(zeroValue37 w).trans (by rfl)
def uQ(a b:List (BitVec 64)):List (BitVec 64):=if 1873798617647539866#64≤(AS a b 6).1.getD 5 0∧(SS (AS a b 6).1 PL 6).2=0 then (SS (AS a b 6).1 PL 6).1 else (AS a b 6).1
def zO(a b:List (BitVec 64)):List (BitVec 64):=if (SS a b 6).2=1 then (AS (SS a b 6).1 PL 6).1 else (SS a b 6).1
def wz(a:List (BitVec 64)):List (BitVec 64):=if a=List.replicate 6 0 then a else (SS PL a 6).1
theorem o8(a:List (BitVec 64))(ha:a.length=6):Pure Tryz.prog Gt 103 [.agg ((a).map U64).toArray] (.agg ((RM a TWO).map U64).toArray):=by
 intro w hw
 refine Hf func103 rfl hw<|fun hGF=>Xp<|Bx 1 hGF rfl<|fun b1=>Al 2 hGF zv37<|fun b2=>aa<|Xd []<|Lw 1 rfl rfl bu ha<|Ca rfl (vn)<|Ca rfl (iC _ _ ha nX)<|bH rfl (aY _ _) underlying37 rfl sizeOf35 zv37 rfl rfl<|Sw 2 hGF rfl rfl rfl bU (aY _ _)<|aa<|ap<|Rr<|?_
 exact av 2 rfl rfl rfl isAgg37 sizeOf37 (by rw[List.length_map,aY]) (fun w hw=>⟨rfl,ac hw⟩)
theorem i8(a:List (BitVec 64))(ha:a.length=6):Pure Tryz.prog Gt 173 [.agg ((a).map U64).toArray] (.agg ((RM a N1).map U64).toArray):=by
 intro w hw
 refine Hf func173 rfl hw<|fun hGF=>Xp<|Bx 1 hGF rfl<|fun b1=>Al 2 hGF zv35<|fun b2=>aa<|Xp<|Fa 0 rfl underlying37 rfl sizeOf35<|Lw 1 rfl rfl bu ha<|dO 1 rfl underlying35 sizeOf24 zv35 rfl rfl<|Ca rfl (iC _ _ ha Fe)<|Sw 2 hGF rfl rfl rfl bu (aY _ _)<|aa<|ap<|Rr<|?_
 exact av 2 rfl rfl rfl isAgg35 sizeOf35 (by rw[List.length_map,aY]) (fun w hw=>⟨rfl,ac hw⟩)
theorem jF(a b:List (BitVec 64))(ha:a.length=6)(hb:b.length=6):Pure Tryz.prog Gt 120 [.agg ((a).map U64).toArray,.agg ((b).map U64).toArray] (.agg ((RM a b).map U64).toArray):=by
 intro w hw
 refine Hf func120 rfl hw<|fun hGF=>Xp<|Bx 2 hGF rfl<|fun b2=>Bx 3 hGF rfl<|fun b3=>Al 4 hGF zv37<|fun b4=>aa<|Xp<|Fa 0 rfl underlying37 rfl sizeOf35<|Lw 2 rfl rfl bu ha<|Fa 0 rfl underlying37 rfl sizeOf35<|Lw 3 rfl rfl bu hb<|Ca rfl (iC _ _ ha hb)<|bH rfl (aY _ _) underlying37 rfl sizeOf35 zv37 rfl rfl<|Sw 4 hGF rfl rfl rfl bU (aY _ _)<|aa<|ap<|Rr<|?_
 exact av 4 rfl rfl rfl isAgg37 sizeOf37 (by rw[List.length_map,aY]) (fun w hw=>⟨rfl,ac hw⟩)
theorem pJ(n:BitVec 64):Pure Tryz.prog Gt 110 [U64 n] (.agg ((RM (n::List.replicate 5 0) TWO).map U64).toArray):=by
 intro w hw
 refine Hf func110 rfl hw<|fun hGF=>Xp<|Al 2 hGF zv37<|fun b2=>aa<|Xp<|Mv rfl<|dO n rfl underlying35 sizeOf24 zv35 rfl rfl<|Ca rfl (o8 (n::List.replicate 5 0) rfl)<|Sw 2 hGF rfl rfl rfl bU (aY _ _)<|aa<|ap<|Rr<|?_
 exact av 2 rfl rfl rfl isAgg37 sizeOf37 (by rw[List.length_map,aY]) (fun w hw=>⟨rfl,ac hw⟩)
theorem gb(a:List (BitVec 64))(ha:a.length=6):Pure Tryz.prog Gt 121 [.agg ((a).map U64).toArray] (.bool (decide (a=List.replicate 6 0))):=by
 intro w hw
 refine Hf func121 rfl hw<|fun hGF=>Xp<|Bx 1 hGF rfl<|fun b1=>Asg rfl<|aa<|Xp<|Fa 0 rfl underlying37 rfl sizeOf35<|Lw 1 rfl rfl bu ha<|eP zv35 underlying35 sizeOf24 rfl rfl<|bW (v:=.bool (decide (a=List.replicate 6 0#64))) rfl rfl (fun _=>KY _ _ _ _ _ _) (fun w=>eq27 a (List.replicate 6 0#64) ha rfl w) rfl rfl<|Asg rfl<|aa<|ap<|Rr<|?_
 exact aJ rfl rfl (fun w hw=>⟨rfl,ac hw⟩)
theorem rA(a b:List (BitVec 64))(ha:a.length=6)(hb:b.length=6):Pure Tryz.prog Gt 185 [.agg ((a).map U64).toArray,.agg ((b).map U64).toArray] (.bool (decide ((SS a b 6).2=1))):=by
 intro w hw
 refine Hf func185 rfl hw<|fun hGF=>Xp<|Bx 2 hGF rfl<|fun b2=>Bx 3 hGF rfl<|fun b3=>Asg rfl<|aa<|Xp<|Lw 2 rfl rfl bu ha<|Lw 3 rfl rfl bu hb<|Ca rfl (cH _ _ ha hb)<|Mv rfl<|Ext rfl rfl<|Ext rfl rfl<|Al 5 hGF zv35<|fun b5=>Sw 5 hGF rfl rfl rfl bu (az _ _ _)<|Asg rfl<|aa<|Xp<|Mv rfl<|Bnr (v:=.bool (decide ((SS a b 6).2=1))) rfl rfl (fun w=>(a5 _ _ _).trans rfl)<|Asg rfl<|aa<|ap<|Rr<|?_
 exact aJ rfl rfl (fun w hw=>⟨rfl,ac hw⟩)
theorem qL(a b:List (BitVec 64))(ha:a.length=6)(hb:b.length=6):Pure Tryz.prog Gt 122 [.agg ((a).map U64).toArray,.agg ((b).map U64).toArray] (.agg ((zO a b).map U64).toArray):=by
 intro w hw
 refine Hf func122 rfl hw ?_
 intro hGF
 by_cases h0:(SS a b 6).2=1
 ·refine Xp<|Bx 2 hGF rfl<|fun b2=>Bx 3 hGF rfl<|fun b3=>Al 4 hGF zv37<|fun b4=>aa<|Xp<|Fa 0 rfl underlying37 rfl sizeOf35<|Lw 2 rfl rfl bu ha<|Fa 0 rfl underlying37 rfl sizeOf35<|Lw 3 rfl rfl bu hb<|Ca rfl (cH _ _ ha hb)<|Mv rfl<|Ext rfl rfl<|Ext rfl rfl<|Al 5 hGF zv35<|fun b5=>Sw 5 hGF rfl rfl rfl bu (az _ _ _)<|Asg rfl<|aa<|ae<|Xp<|Mv rfl<|Bnr (v:=.bool true) rfl rfl (fun w=>(a5 _ _ _).trans (congrArg (fun b=>Result.ok (Value.bool b) w) (beq_iff_eq.2 h0)))<|aa<|ba rfl<|Xe []<|Lw 5 rfl rfl bu (az _ _ _)<|Ca rfl (eJ)<|Ca rfl (fI _ _ (az _ _ _) cT)<|Mv rfl<|Ext rfl rfl<|Ext rfl rfl<|aH 5 hGF rfl rfl rfl sizeOf35 (by rw[List.length_map,aE _ _ _]) (by rw[List.length_map,az _ _ _]) (bg _) rfl<|aa<|Xp<|Lw 5 rfl rfl bu (aE _ _ _)<|bH rfl (aE _ _ _) underlying37 rfl sizeOf35 zv37 rfl rfl<|Sw 4 hGF rfl rfl rfl bU (aE _ _ _)<|aa<|ap<|Rr<|?_
  exact av 4 rfl rfl rfl isAgg37 sizeOf37 (by rw[List.length_map];exact aE _ _ _) (fun w hw=>⟨by rw[zO,if_pos h0],ac hw⟩)
 ·refine Xp<|Bx 2 hGF rfl<|fun b2=>Bx 3 hGF rfl<|fun b3=>Al 4 hGF zv37<|fun b4=>aa<|Xp<|Fa 0 rfl underlying37 rfl sizeOf35<|Lw 2 rfl rfl bu ha<|Fa 0 rfl underlying37 rfl sizeOf35<|Lw 3 rfl rfl bu hb<|Ca rfl (cH _ _ ha hb)<|Mv rfl<|Ext rfl rfl<|Ext rfl rfl<|Al 5 hGF zv35<|fun b5=>Sw 5 hGF rfl rfl rfl bu (az _ _ _)<|Asg rfl<|aa<|ae<|Xp<|Mv rfl<|Bnr (v:=.bool false) rfl rfl (fun w=>(a5 _ _ _).trans (congrArg (fun b=>Result.ok (Value.bool b) w) (beq_eq_false_iff_ne.2 h0)))<|aa<|aL rfl<|au<|Xp<|Lw 5 rfl rfl bu (az _ _ _)<|bH rfl (az _ _ _) underlying37 rfl sizeOf35 zv37 rfl rfl<|Sw 4 hGF rfl rfl rfl bU (az _ _ _)<|aa<|ap<|Rr<|?_
  exact av 4 rfl rfl rfl isAgg37 sizeOf37 (by rw[List.length_map];exact az _ _ _) (fun w hw=>⟨by rw[zO,if_neg h0],ac hw⟩)
theorem vw(a:List (BitVec 64))(ha:a.length=6):Pure Tryz.prog Gt 111 [.agg ((a).map U64).toArray] (.agg ((wz a).map U64).toArray):=by
 intro w hw
 refine Hf func111 rfl hw ?_
 intro hGF
 by_cases h0:a=List.replicate 6 0
 ·refine Xp<|Bx 1 hGF rfl<|fun b1=>Al 2 hGF zv37<|fun b2=>aa<|ae<|Xp<|Lw 1 rfl rfl bU ha<|iX (v:=.bool true) rfl rfl ent121 (decide_eq_true h0▸gb a ha) rfl rfl<|aa<|ba rfl<|Xp<|Lw 1 rfl rfl bU ha<|Sw 2 hGF rfl rfl rfl bU ha<|aa<|ap<|Rr<|?_
  exact av 2 rfl rfl rfl isAgg37 sizeOf37 (by rw[List.length_map];exact ha) (fun w hw=>⟨by rw[wz,if_pos h0],ac hw⟩)
 ·refine Xp<|Bx 1 hGF rfl<|fun b1=>Al 2 hGF zv37<|fun b2=>aa<|ae<|Xp<|Lw 1 rfl rfl bU ha<|iX (v:=.bool false) rfl rfl ent121 (decide_eq_false h0▸gb a ha) rfl rfl<|aa<|aL rfl<|au<|Xa [0,1,2,3,4,5,6] ⟨7,3,35,(List.replicate 6 0#64).map U64⟩ [8,9] (bY rfl zv35 rfl)<|Ca rfl (eJ)<|Fa 0 rfl underlying37 rfl sizeOf35<|Lw 1 rfl rfl bu ha<|Ca rfl (cH _ _ cT ha)<|Mv rfl<|Ext rfl rfl<|Ext rfl rfl<|aa<|?_
  refine ⟨_,_,rfl,hGF,by intro x hx;simp only[List.mem_cons,List.not_mem_nil,or_false]at hx;subst hx;rfl,by intro x hx;simp only[List.mem_cons,List.not_mem_nil,or_false]at hx;subst hx;rfl,fun adr=> ?_⟩
  refine Sw 3 hGF rfl rfl rfl bu (az _ _ _)<|Asg rfl<|aa<|Xp<|Lw 3 rfl rfl bu (az _ _ _)<|bH rfl (az _ _ _) underlying37 rfl sizeOf35 zv37 rfl rfl<|Sw 2 hGF rfl rfl rfl bU (az _ _ _)<|aa<|ap<|Rr<|?_
  exact av 2 rfl rfl rfl isAgg37 sizeOf37 (by rw[List.length_map];exact az _ _ _) (fun w hw=>⟨by rw[wz,if_neg h0],ac hw⟩)
theorem rY(a b:List (BitVec 64))(ha:a.length=6)(hb:b.length=6):Pure Tryz.prog Gt 123 [.agg ((a).map U64).toArray,.agg ((b).map U64).toArray] (.agg ((uQ a b).map U64).toArray):=by
 intro w hw
 refine Hf func123 rfl hw ?_
 intro hGF
 by_cases h1:1873798617647539866#64≤(AS a b 6).1.getD 5 0
 ·by_cases h0:(SS (AS a b 6).1 PL 6).2=0
  ·refine Xp<|Bx 2 hGF rfl<|fun b2=>Bx 3 hGF rfl<|fun b3=>Al 4 hGF zv37<|fun b4=>aa<|Xp<|Fa 0 rfl underlying37 rfl sizeOf35<|Lw 2 rfl rfl bu ha<|Fa 0 rfl underlying37 rfl sizeOf35<|Lw 3 rfl rfl bu hb<|Ca rfl (fI _ _ ha hb)<|Mv rfl<|Ext rfl rfl<|Ext rfl rfl<|Al 5 hGF zv35<|fun b5=>Sw 5 hGF rfl rfl rfl bu (aE _ _ _)<|Asg rfl<|aa<|ae<|Xp<|Ia (5) rfl rfl underlying35 sizeOf24<|Lm 5 U64 0 rfl rfl isAgg24 (by rw[aE _ _ _];omega)<|Bnr (v:=.bool true) rfl rfl (fun w=>(gT _ _ 1873798617647539866#64).trans (congrArg (fun b=>Result.ok (Value.bool b) w) (decide_eq_true h1)))<|aa<|ba rfl<|Xa [0,1,2,3,4,5] ⟨6,7,35,(List.replicate 6 0#64).map U64⟩ [7,8] (bY rfl zv35 rfl)<|Lw 5 rfl rfl bu (aE _ _ _)<|Ca rfl (eJ)<|Ca rfl (cH _ _ (aE _ _ _) cT)<|Mv rfl<|Ext rfl rfl<|Ext rfl rfl<|aa<|?_
   refine ⟨_,_,rfl,hGF,by intro x hx;simp only[List.mem_cons,List.not_mem_nil,or_false]at hx;subst hx;rfl,by intro x hx;simp only[List.mem_cons,List.not_mem_nil,or_false]at hx;subst hx;rfl,fun adr=> ?_⟩
   refine Sw 7 hGF rfl rfl rfl bu (az _ _ _)<|Asg rfl<|aa<|Xp<|Mv rfl<|Bnr (v:=.bool true) rfl rfl (fun w=>(a5 _ _ _).trans (congrArg (fun b=>Result.ok (Value.bool b) w) (beq_iff_eq.2 h0)))<|aa<|ba rfl<|Xq<|Lw 7 rfl rfl bu (az _ _ _)<|aH 5 hGF rfl rfl rfl sizeOf35 (by rw[List.length_map,az _ _ _]) (by rw[List.length_map,aE _ _ _]) (bg _) rfl<|aa<|Xp<|Lw 5 rfl rfl bu (az _ _ _)<|bH rfl (az _ _ _) underlying37 rfl sizeOf35 zv37 rfl rfl<|Sw 4 hGF rfl rfl rfl bU (az _ _ _)<|aa<|ap<|Rr<|?_
   exact av 4 rfl rfl rfl isAgg37 sizeOf37 (by rw[List.length_map];exact az _ _ _) (fun w hw=>⟨by rw[uQ,if_pos ⟨h1,h0⟩],ac hw⟩)
  ·refine Xp<|Bx 2 hGF rfl<|fun b2=>Bx 3 hGF rfl<|fun b3=>Al 4 hGF zv37<|fun b4=>aa<|Xp<|Fa 0 rfl underlying37 rfl sizeOf35<|Lw 2 rfl rfl bu ha<|Fa 0 rfl underlying37 rfl sizeOf35<|Lw 3 rfl rfl bu hb<|Ca rfl (fI _ _ ha hb)<|Mv rfl<|Ext rfl rfl<|Ext rfl rfl<|Al 5 hGF zv35<|fun b5=>Sw 5 hGF rfl rfl rfl bu (aE _ _ _)<|Asg rfl<|aa<|ae<|Xp<|Ia (5) rfl rfl underlying35 sizeOf24<|Lm 5 U64 0 rfl rfl isAgg24 (by rw[aE _ _ _];omega)<|Bnr (v:=.bool true) rfl rfl (fun w=>(gT _ _ 1873798617647539866#64).trans (congrArg (fun b=>Result.ok (Value.bool b) w) (decide_eq_true h1)))<|aa<|ba rfl<|Xa [0,1,2,3,4,5] ⟨6,7,35,(List.replicate 6 0#64).map U64⟩ [7,8] (bY rfl zv35 rfl)<|Lw 5 rfl rfl bu (aE _ _ _)<|Ca rfl (eJ)<|Ca rfl (cH _ _ (aE _ _ _) cT)<|Mv rfl<|Ext rfl rfl<|Ext rfl rfl<|aa<|?_
   refine ⟨_,_,rfl,hGF,by intro x hx;simp only[List.mem_cons,List.not_mem_nil,or_false]at hx;subst hx;rfl,by intro x hx;simp only[List.mem_cons,List.not_mem_nil,or_false]at hx;subst hx;rfl,fun adr=> ?_⟩
   refine Sw 7 hGF rfl rfl rfl bu (az _ _ _)<|Asg rfl<|aa<|Xp<|Mv rfl<|Bnr (v:=.bool false) rfl rfl (fun w=>(a5 _ _ _).trans (congrArg (fun b=>Result.ok (Value.bool b) w) (beq_eq_false_iff_ne.2 h0)))<|aa<|aL rfl<|au<|Xp<|Lw 5 rfl rfl bu (aE _ _ _)<|bH rfl (aE _ _ _) underlying37 rfl sizeOf35 zv37 rfl rfl<|Sw 4 hGF rfl rfl rfl bU (aE _ _ _)<|aa<|ap<|Rr<|?_
   exact av 4 rfl rfl rfl isAgg37 sizeOf37 (by rw[List.length_map];exact aE _ _ _) (fun w hw=>⟨by rw[uQ,if_neg (fun h=>h0 h.2)],ac hw⟩)
 ·refine Xp<|Bx 2 hGF rfl<|fun b2=>Bx 3 hGF rfl<|fun b3=>Al 4 hGF zv37<|fun b4=>aa<|Xp<|Fa 0 rfl underlying37 rfl sizeOf35<|Lw 2 rfl rfl bu ha<|Fa 0 rfl underlying37 rfl sizeOf35<|Lw 3 rfl rfl bu hb<|Ca rfl (fI _ _ ha hb)<|Mv rfl<|Ext rfl rfl<|Ext rfl rfl<|Al 5 hGF zv35<|fun b5=>Sw 5 hGF rfl rfl rfl bu (aE _ _ _)<|Asg rfl<|aa<|ae<|Xp<|Ia (5) rfl rfl underlying35 sizeOf24<|Lm 5 U64 0 rfl rfl isAgg24 (by rw[aE _ _ _];omega)<|Bnr (v:=.bool false) rfl rfl (fun w=>(gT _ _ 1873798617647539866#64).trans (congrArg (fun b=>Result.ok (Value.bool b) w) (decide_eq_false h1)))<|aa<|aL rfl<|au<|Xp<|Lw 5 rfl rfl bu (aE _ _ _)<|bH rfl (aE _ _ _) underlying37 rfl sizeOf35 zv37 rfl rfl<|Sw 4 hGF rfl rfl rfl bU (aE _ _ _)<|aa<|ap<|Rr<|?_
  exact av 4 rfl rfl rfl isAgg37 sizeOf37 (by rw[List.length_map];exact aE _ _ _) (fun w hw=>⟨by rw[uQ,if_neg (fun h=>h1 h.1)],ac hw⟩)
theorem vh(a:List (BitVec 64))(ha:a.length=6):Pure Tryz.prog Gt 158 [.agg ((a).map U64).toArray] (.bool (decide ((RM a N1).getD 0 0 &&& 1#64=1#64))):=by
 intro w hw
 refine Hf func158 rfl hw<|fun hGF=>Xp<|Bx 1 hGF rfl<|fun b1=>Asg rfl<|aa<|Xp<|Lw 1 rfl rfl bU ha<|Ca rfl (i8 a ha)<|fk U64 0 (0) rfl rfl underlying35 sizeOf24 isAgg24 (by omega) (by omega) (aY _ _) rfl rfl<|Bnr rfl rfl (fun w=>dr _ _ 1#64)<|Bnr (v:=.bool (decide ((RM a N1).getD 0 0 &&& 1#64=1#64))) rfl rfl (fun w=>(a5 _ _ 1#64).trans rfl)<|Asg rfl<|aa<|ap<|Rr<|?_
 exact aJ rfl rfl (fun w hw=>⟨rfl,ac hw⟩)
end
section
open Go.RowKit
def AB(t:List (BitVec 64))(c:BitVec 64):Nat→List (BitVec 64)×BitVec 64
 |0=>(t.set 0 (ADC (t.getD 0 0) c 0).1,(ADC (t.getD 0 0) c 0).2)
 |j+1=>((AB t c j).1.set (j+1) (ADC ((AB t c j).1.getD (j+1) 0) 0 (AB t c j).2).1,(ADC ((AB t c j).1.getD (j+1) 0) 0 (AB t c j).2).2)
def WDs(bs:List (BitVec 8))(m:List (BitVec 64)):Nat→List (BitVec 64)
 |0=>List.replicate 6 0
 |i+1=>MOD (AB (MU (WDs bs m i) (256#64::List.replicate 5 0) 6) ((bs.getD i 0).setWidth 64) 11).1 m
theorem kL(bs:List (BitVec 8))(m:List (BitVec 64)): ∀i,(WDs bs m i).length=6
 |0=>rfl
 |_+1=>kF _ _
end
section
open Go.RowKit
theorem ent170:ah Tryz.prog 170:=fun _ _=>by kernel_rfl
def cZ(bs:List (BitVec 8))(i:Nat):BitVec 8:=(bs.getD (i / 8) 0>>>(7-i % 8)) &&& 1#8
def RP(a:List (BitVec 64))(bs:List (BitVec 8)):Nat→List (BitVec 64)
 |0=>ONE
 |i+1=>if cZ bs i=1#8 then RM (RM (RP a bs i) (RP a bs i)) a else RM (RP a bs i) (RP a bs i)
theorem fE(a:List (BitVec 64))(bs:List (BitVec 8)): ∀i,(RP a bs i).length=6
 |0=>rfl
 |i+1=>by
  unfold RP;split
  ·exact aY _ _
  ·exact aY _ _
theorem Fh(a:List (BitVec 64))(bs:List (BitVec 8))(i:Nat)(h:cZ bs i=1#8):RP a bs (i+1)=RM (RM (RP a bs i) (RP a bs i)) a:=by rw[RP,if_pos h]
theorem ED(a:List (BitVec 64))(bs:List (BitVec 8))(i:Nat)(h: ¬cZ bs i=1#8):RP a bs (i+1)=RM (RP a bs i) (RP a bs i):=by rw[RP,if_neg h]
theorem lO(a:List (BitVec 64))(ha:a.length=6)(e:Option Addr)(cap:Nat)(bs:List (BitVec 8))(hlen:bs.length≤4096)(w:World)(hw:Gt w)(hby:BytesAt w e bs):
 Calls Tryz.prog 170 [.agg ((a).map U64).toArray,.slice e bs.length cap].toArray w (fun r w'=>r=.returned (.agg ((RP a bs (8*bs.length)).map U64).toArray)∧Grow w w'):=by
 refine Hf func170 rfl hw<|fun hGF=>Xp<|Bx 2 hGF rfl<|fun b2=>Al 4 hGF zv37<|fun b4=>aa<|Xp<|Ca rfl (uA)<|bH rfl (n9) underlying37 rfl sizeOf35 zv37 rfl rfl<|Al 5 hGF zv37<|fun b5=>Sw 5 hGF rfl rfl rfl bU n9<|aa<|ae<|Xp<|Asg rfl<|aa<|ai<|bB (ι:={i:Nat // i≤8*bs.length}) (fun x=>[(1,.slice e bs.length cap),(2,.pointer (some ⟨b2,0,none⟩)),(4,.pointer (some ⟨b4,0,none⟩)),(5,.pointer (some ⟨b5,0,none⟩)),(6,I (x.1:Int))]) (fun x=>[(2,b2,a.map U64,37),(4,b4,(List.replicate 6 0#64).map U64,37),(5,b5,(RP a bs x.1).map U64,37)]) (fun x=>8*bs.length-x.1) ⟨0,by omega⟩ hGF ⟨rfl,rfl,rfl,rfl,rfl,trivial⟩ ⟨rfl,rfl,rfl,trivial⟩<|?_
 rintro ⟨i,hi⟩
 dsimp only
 refine ae<|Xp<|Mv rfl<|Mv rfl<|aZ rfl (fun _=>aC underlying22 _ _ _ _) rfl rfl<|Bnr (v:=I ((8*bs.length:Nat):Int)) rfl rfl (fun _=>(a7 _ _ _ (by unfold inI;omega)).trans (by rw[show (8:Int)*(bs.length:Int)=((8*bs.length:Nat):Int) by omega]))<|Bnr rfl rfl (fun _=>aA _ _ _)<|aa<|?_
 refine bj rfl (fun hc=> ?_) (fun hc=> ?_)
 ·simp only[decide_eq_true_eq]at hc
  refine au<|ae<|ai<|Xp<|Lw 5 rfl rfl bU (fE _ _ _)<|Lw 5 rfl rfl bU (fE _ _ _)<|Ca rfl (jF _ _ (fE _ _ _) (fE _ _ _))<|aH 5 hGF rfl rfl rfl sizeOf37 (by rw[List.length_map,aY _ _]) (by rw[List.length_map,fE]) (bg _) rfl<|aa<|Xp<|Mv rfl<|Mv rfl<|Bnr (v:=I ((i / 8:Nat):Int)) rfl rfl (fun _=>cw _ _ _ (by decide) (show inI ((i / 8:Nat):Int) by unfold inI;omega))<|?_
  obtain ⟨ad,rfl,_⟩:=hby (i / 8) _ (gm U8 bs 0 (i / 8) (by omega))
  refine iH (i / 8) rfl rfl underlying22 sizeOf5 rfl (by omega) rfl rfl<|bp rfl isAgg5 (fun w' h=>by obtain ⟨ad',e,hc⟩:=(hby.grow (ac h)) (i / 8) _ (gm U8 bs 0 (i / 8) (by omega));cases e;exact hc) rfl rfl<|Mv rfl<|Bnr (v:=I ((i % 8:Nat):Int)) rfl rfl (fun _=>dY _ _ _ (by decide))<|Bnr (v:=I ((7-i % 8:Nat):Int)) rfl rfl (fun _=>(aX _ _ _ (by unfold inI;omega)).trans (by rw[show ((7:Int)-((i % 8:Nat):Int))=((7-i % 8:Nat):Int) by omega]))<|Bnr (v:=U8 (bs.getD (i / 8) 0>>>(7-i % 8))) rfl rfl (fun _=>eE _ _ _ (by omega))<|Bnr (v:=U8 (cZ bs i)) rfl rfl (fun _=>f8 _ _ 1#8)<|Bnr (v:=.bool (decide (cZ bs i=1#8))) rfl rfl (fun _=>(cR _ _ 1#8).trans rfl)<|aa<|?_
  refine bj rfl (fun hc=> ?_) (fun hc=> ?_)
  ·simp only[decide_eq_true_eq]at hc
   have hq:=hc
   refine Xq<|Lw 5 rfl rfl bU (aY _ _)<|Lw 2 rfl rfl bU ha<|Ca rfl (jF _ _ (aY _ _) ha)<|aH 5 hGF rfl rfl rfl sizeOf37 (by rw[List.length_map,aY _ _]) (by rw[List.length_map,aY _ _]) (bg _) rfl<|aa<|Xq<|Mv rfl<|Bnr rfl rfl (fun _=>aw _ _ _ (by unfold inI;omega))<|Asg rfl<|aa<|?_
   repeat (refine aR ?_)
   exact aG<|⟨rfl,⟨i+1,by omega⟩,_,by show 8*bs.length-(i+1)<8*bs.length-i;omega,rfl,⟨rfl,rfl,rfl,rfl,rfl,trivial⟩,⟨rfl,rfl,by first|(rw[Fh a bs i hq];rfl)|(rw[ED a bs i hq];rfl),trivial⟩⟩
  ·simp only[decide_eq_false_iff_not]at hc
   have hq:=hc
   refine au<|Xq<|Mv rfl<|Bnr rfl rfl (fun _=>aw _ _ _ (by unfold inI;omega))<|Asg rfl<|aa<|?_
   repeat (refine aR ?_)
   exact aG<|⟨rfl,⟨i+1,by omega⟩,_,by show 8*bs.length-(i+1)<8*bs.length-i;omega,rfl,⟨rfl,rfl,rfl,rfl,rfl,trivial⟩,⟨rfl,rfl,by first|(rw[Fh a bs i hq];rfl)|(rw[ED a bs i hq];rfl),trivial⟩⟩
 ·obtain rfl:i=8*bs.length:=by simp at hc;omega
  refine aT<|Xp<|Lw 5 rfl rfl bU (fE _ _ _)<|Sw 4 hGF rfl rfl rfl bU (fE _ _ _)<|aa<|ap<|Rr<|?_
  exact av 4 rfl rfl rfl isAgg37 sizeOf37 (by rw[List.length_map,fE]) (fun w hw=>⟨rfl,ac hw⟩)
end
section
open Go.RowKit
theorem ent171:ah Tryz.prog 171:=fun _ _=>by kernel_rfl
theorem rO(n i:Nat)(hn:n≤64):decide (0#64<BitVec.ofNat 64 (n-i))=decide (i<n):=by
 refine decide_eq_decide.2 ?_
 rw[BitVec.lt_def]
 simp only[BitVec.toNat_ofNat]
 omega
theorem qW(n i:Nat)(_hn:n≤64)(hi:i<n):BitVec.ofNat 64 (n-i)-1#64=BitVec.ofNat 64 (n-(i+1)):=by
 apply BitVec.eq_of_toNat_eq
 simp only[BitVec.toNat_sub,BitVec.toNat_ofNat]
 omega
def HLs(l:List (BitVec 64)):Nat→List (BitVec 64)
 |0=>l
 |k+1=>if k<5 then ((HLs l k).set k ((HLs l k).getD k 0>>>1)).set k (((HLs l k).set k ((HLs l k).getD k 0>>>1)).getD k 0|||((HLs l k).set k ((HLs l k).getD k 0>>>1)).getD (k+1) 0<<<63)else (HLs l k).set k ((HLs l k).getD k 0>>>1)
theorem mH(l:List (BitVec 64))(k:Nat)(h:k<5):HLs l (k+1)=((HLs l k).set k ((HLs l k).getD k 0>>>1)).set k (((HLs l k).set k ((HLs l k).getD k 0>>>1)).getD k 0|||((HLs l k).set k ((HLs l k).getD k 0>>>1)).getD (k+1) 0<<<63):=by rw[HLs,if_pos h]
theorem m6(l:List (BitVec 64))(k:Nat)(h: ¬k<5):HLs l (k+1)=(HLs l k).set k ((HLs l k).getD k 0>>>1):=by rw[HLs,if_neg h]
theorem ca(l:List (BitVec 64)): ∀k,(HLs l k).length=l.length
 |0=>rfl
 |k+1=>by
  unfold HLs;split
  ·rw[List.length_set,List.length_set,ca l k]
  ·rw[List.length_set,ca l k]
def HN(l:List (BitVec 64)):Nat→List (BitVec 64)
 |0=>l
 |i+1=>HLs (HN l i) 6
theorem bT(l:List (BitVec 64)): ∀i,(HN l i).length=l.length
 |0=>rfl
 |i+1=>by rw[HN,ca,bT l i]
theorem q7(w:World)(hw:Gt w):Calls Tryz.prog 171 [I (-2),U64 0#64].toArray w (fun e w'=> ∃b,e=.returned (.slice (some ⟨b,0,none⟩) 48 48)∧Grow w w'∧w.heap.size≤b∧OwnB w' b ((BYs (HN (SS PL (2#64::List.replicate 5 0) 6).1 0) 48).map U8) 60):=by
 refine Hf func171 rfl hw<|fun hGF=>Xp<|Asg rfl<|aa<|Xp<|Ca rfl (eJ)<|Al 5 hGF zv35<|fun b5=>Sw 5 hGF rfl rfl rfl bu cT<|aa<|ae<|Xp<|Mv rfl<|Bnr (v:=.bool true) rfl rfl (fun w=>aA _ (-2) 0)<|aa<|ba rfl<|Xq<|Lw 5 rfl rfl bu cT<|Mv rfl<|bz (v:=I 2) rfl (fun _=>oZ (-2) (by unfold inI;omega)) rfl rfl<|bF (v:=U64 2#64) rfl rfl (fun _=>(eW underlying2 underlying24 2).trans rfl) rfl rfl<|dO 2#64 rfl underlying35 sizeOf24 zv35 rfl rfl<|Ca rfl (cH PL (2#64::List.replicate 5 0) cT rfl)<|Mv rfl<|Ext rfl rfl<|Ext rfl rfl<|aH 5 hGF rfl rfl rfl sizeOf35 (by rw[List.length_map,az _ _ _]) (by rw[List.length_map,cT]) (bg _) rfl<|aa<|ae<|ai<|bB (ι:={i:Nat // i≤0}) (fun x=>[(4,.slice none 0 0),(5,.pointer (some ⟨b5,0,none⟩)),(1,U64 (BitVec.ofNat 64 (0-x.1)))]) (fun x=>[(5,b5,(HN (SS PL (2#64::List.replicate 5 0) 6).1 x.1).map U64,35)]) (fun x=>0-x.1) ⟨0,by omega⟩ hGF ⟨rfl,rfl,rfl,trivial⟩ ⟨rfl,trivial⟩<|?_
 rintro ⟨i,hi⟩
 dsimp only
 refine ae<|Xp<|Mv rfl<|Bnr (v:=.bool (decide (i<0))) rfl rfl (fun w=>(fq _ _ 0#64).trans (congrArg (fun b=>Result.ok (Value.bool b) w) (rO 0 i (by decide))))<|aa<|?_
 refine bj rfl (fun hc=> ?_) (fun hc=> ?_)
 ·simp only[decide_eq_true_eq]at hc
  refine au<|ae<|ai<|Xp<|Asg rfl<|aa<|ai<|bB (ι:={i:Nat // i≤6}) (fun x=>[(4,.slice none 0 0),(5,.pointer (some ⟨b5,0,none⟩)),(1,U64 (BitVec.ofNat 64 (0-i))),(6,I (x.1:Int))]) (fun x=>[(5,b5,(HLs (HN (SS PL (2#64::List.replicate 5 0) 6).1 i) x.1).map U64,35)]) (fun x=>6-x.1) ⟨0,by omega⟩ hGF ⟨rfl,rfl,rfl,rfl,trivial⟩ ⟨rfl,trivial⟩<|?_
  rintro ⟨k,hk⟩
  dsimp only
  refine ae<|Xp<|Mv rfl<|Bnr rfl rfl (fun _=>aA _ _ _)<|aa<|?_
  refine bj rfl (fun hc=> ?_) (fun hc=> ?_)
  ·simp only[decide_eq_true_eq]at hc
   refine au<|ae<|ai<|Xp<|Mv rfl<|Mv rfl<|Ia (k) rfl rfl underlying35 sizeOf24<|Lm 5 U64 0 rfl rfl isAgg24 (by rw[ca,bT,az];omega)<|Bnr rfl rfl (fun _=>cB _ _ 1#64)<|Ia (k) rfl rfl underlying35 sizeOf24<|aP 5 U64 hGF rfl rfl rfl sizeOf24 rfl (by rw[ca,bT,az];omega) rfl<|aa<|Xp<|Mv rfl<|Bnr rfl rfl (fun _=>aA _ _ _)<|aa<|?_
   refine bj rfl (fun hc=> ?_) (fun hc=> ?_)
   ·simp only[decide_eq_true_eq]at hc
    have hq:k<5:=by omega
    refine Xe []<|Mv rfl<|Ia (k) rfl rfl underlying35 sizeOf24<|Lm 5 U64 0 rfl rfl isAgg24 (by rw[List.length_set,ca,bT,az];omega)<|Mv rfl<|Bnr rfl rfl (fun _=>aw _ _ _ (by unfold inI;omega))<|Ia ((k+1)) rfl rfl underlying35 sizeOf24<|Lm 5 U64 0 rfl rfl isAgg24 (by rw[List.length_set,ca,bT,az];omega)<|Bnr rfl rfl (fun _=>gJ _ _ 63#64)<|Bnr rfl rfl (fun _=>dV _ _ _)<|Ia (k) rfl rfl underlying35 sizeOf24<|aP 5 U64 hGF rfl rfl rfl sizeOf24 rfl (by rw[List.length_set,ca,bT,az];omega) rfl<|aa<|Xq<|Mv rfl<|Bnr rfl rfl (fun _=>aw _ _ _ (by unfold inI;omega))<|Asg rfl<|aa<|?_
    repeat (refine aR ?_)
    exact aG<|⟨rfl,⟨k+1,by omega⟩,_,by show 6-(k+1)<6-k;omega,rfl,⟨rfl,rfl,rfl,rfl,trivial⟩,⟨by first|(rw[mH _ k hq];rfl)|(rw[m6 _ k hq];rfl),trivial⟩⟩
   ·simp only[decide_eq_false_iff_not]at hc
    have hq: ¬k<5:=by omega
    refine au<|Xq<|Mv rfl<|Bnr rfl rfl (fun _=>aw _ _ _ (by unfold inI;omega))<|Asg rfl<|aa<|?_
    repeat (refine aR ?_)
    exact aG<|⟨rfl,⟨k+1,by omega⟩,_,by show 6-(k+1)<6-k;omega,rfl,⟨rfl,rfl,rfl,rfl,trivial⟩,⟨by first|(rw[mH _ k hq];rfl)|(rw[m6 _ k hq];rfl),trivial⟩⟩
  ·obtain rfl:k=6:=by simp at hc;omega
   refine aT<|Xq<|Mv rfl<|Bnr (v:=U64 (BitVec.ofNat 64 (0-(i+1)))) rfl rfl (fun w=>(eh _ _ 1#64).trans (congrArg (fun z=>Result.ok (U64 z) w) (qW 0 i (by decide) (by omega))))<|Asg rfl<|aa<|?_
   repeat (refine aR ?_)
   exact aG<|⟨rfl,⟨i+1,by omega⟩,_,by show 0-(i+1)<0-i;omega,rfl,⟨rfl,rfl,rfl,trivial⟩,⟨rfl,trivial⟩⟩
 ·obtain rfl:i=0:=by simp at hc;omega
  refine aT<|Xp<|cx 5 rfl rfl isAgg35 sizeOf35 (by rw[List.length_map,bT,az]) rfl rfl<|Ca rfl (fG _ (by rw[bT,az]))<|Al 7 hGF zv60<|fun b7=>Sx 7 hGF rfl rfl rfl ri (aK _ _) (cf _)<|aa<|Xp<|cg (l:=0) (h':=48) rfl underlying60 sizeOf5 rfl rfl (by omega) (by omega) rfl rfl<|Asg rfl<|aa<|ap<|Rr<|?_
  exact aJ rfl rfl (fun w hw=>⟨b7,rfl,ac hw,(hw.own 7 b7 _ _ rfl).2.elim id False.elim,(hw.own 7 b7 _ _ rfl).1⟩)
theorem qM(w:World)(hw:Gt w):Calls Tryz.prog 171 [I (-1),U64 1#64].toArray w (fun e w'=> ∃b,e=.returned (.slice (some ⟨b,0,none⟩) 48 48)∧Grow w w'∧w.heap.size≤b∧OwnB w' b ((BYs (HN (SS PL (1#64::List.replicate 5 0) 6).1 1) 48).map U8) 60):=by
 refine Hf func171 rfl hw<|fun hGF=>Xp<|Asg rfl<|aa<|Xp<|Ca rfl (eJ)<|Al 5 hGF zv35<|fun b5=>Sw 5 hGF rfl rfl rfl bu cT<|aa<|ae<|Xp<|Mv rfl<|Bnr (v:=.bool true) rfl rfl (fun w=>aA _ (-1) 0)<|aa<|ba rfl<|Xq<|Lw 5 rfl rfl bu cT<|Mv rfl<|bz (v:=I 1) rfl (fun _=>oZ (-1) (by unfold inI;omega)) rfl rfl<|bF (v:=U64 1#64) rfl rfl (fun _=>(eW underlying2 underlying24 1).trans rfl) rfl rfl<|dO 1#64 rfl underlying35 sizeOf24 zv35 rfl rfl<|Ca rfl (cH PL (1#64::List.replicate 5 0) cT rfl)<|Mv rfl<|Ext rfl rfl<|Ext rfl rfl<|aH 5 hGF rfl rfl rfl sizeOf35 (by rw[List.length_map,az _ _ _]) (by rw[List.length_map,cT]) (bg _) rfl<|aa<|ae<|ai<|bB (ι:={i:Nat // i≤1}) (fun x=>[(4,.slice none 0 0),(5,.pointer (some ⟨b5,0,none⟩)),(1,U64 (BitVec.ofNat 64 (1-x.1)))]) (fun x=>[(5,b5,(HN (SS PL (1#64::List.replicate 5 0) 6).1 x.1).map U64,35)]) (fun x=>1-x.1) ⟨0,by omega⟩ hGF ⟨rfl,rfl,rfl,trivial⟩ ⟨rfl,trivial⟩<|?_
 rintro ⟨i,hi⟩
 dsimp only
 refine ae<|Xp<|Mv rfl<|Bnr (v:=.bool (decide (i<1))) rfl rfl (fun w=>(fq _ _ 0#64).trans (congrArg (fun b=>Result.ok (Value.bool b) w) (rO 1 i (by decide))))<|aa<|?_
 refine bj rfl (fun hc=> ?_) (fun hc=> ?_)
 ·simp only[decide_eq_true_eq]at hc
  refine au<|ae<|ai<|Xp<|Asg rfl<|aa<|ai<|bB (ι:={i:Nat // i≤6}) (fun x=>[(4,.slice none 0 0),(5,.pointer (some ⟨b5,0,none⟩)),(1,U64 (BitVec.ofNat 64 (1-i))),(6,I (x.1:Int))]) (fun x=>[(5,b5,(HLs (HN (SS PL (1#64::List.replicate 5 0) 6).1 i) x.1).map U64,35)]) (fun x=>6-x.1) ⟨0,by omega⟩ hGF ⟨rfl,rfl,rfl,rfl,trivial⟩ ⟨rfl,trivial⟩<|?_
  rintro ⟨k,hk⟩
  dsimp only
  refine ae<|Xp<|Mv rfl<|Bnr rfl rfl (fun _=>aA _ _ _)<|aa<|?_
  refine bj rfl (fun hc=> ?_) (fun hc=> ?_)
  ·simp only[decide_eq_true_eq]at hc
   refine au<|ae<|ai<|Xp<|Mv rfl<|Mv rfl<|Ia (k) rfl rfl underlying35 sizeOf24<|Lm 5 U64 0 rfl rfl isAgg24 (by rw[ca,bT,az];omega)<|Bnr rfl rfl (fun _=>cB _ _ 1#64)<|Ia (k) rfl rfl underlying35 sizeOf24<|aP 5 U64 hGF rfl rfl rfl sizeOf24 rfl (by rw[ca,bT,az];omega) rfl<|aa<|Xp<|Mv rfl<|Bnr rfl rfl (fun _=>aA _ _ _)<|aa<|?_
   refine bj rfl (fun hc=> ?_) (fun hc=> ?_)
   ·simp only[decide_eq_true_eq]at hc
    have hq:k<5:=by omega
    refine Xe []<|Mv rfl<|Ia (k) rfl rfl underlying35 sizeOf24<|Lm 5 U64 0 rfl rfl isAgg24 (by rw[List.length_set,ca,bT,az];omega)<|Mv rfl<|Bnr rfl rfl (fun _=>aw _ _ _ (by unfold inI;omega))<|Ia ((k+1)) rfl rfl underlying35 sizeOf24<|Lm 5 U64 0 rfl rfl isAgg24 (by rw[List.length_set,ca,bT,az];omega)<|Bnr rfl rfl (fun _=>gJ _ _ 63#64)<|Bnr rfl rfl (fun _=>dV _ _ _)<|Ia (k) rfl rfl underlying35 sizeOf24<|aP 5 U64 hGF rfl rfl rfl sizeOf24 rfl (by rw[List.length_set,ca,bT,az];omega) rfl<|aa<|Xq<|Mv rfl<|Bnr rfl rfl (fun _=>aw _ _ _ (by unfold inI;omega))<|Asg rfl<|aa<|?_
    repeat (refine aR ?_)
    exact aG<|⟨rfl,⟨k+1,by omega⟩,_,by show 6-(k+1)<6-k;omega,rfl,⟨rfl,rfl,rfl,rfl,trivial⟩,⟨by first|(rw[mH _ k hq];rfl)|(rw[m6 _ k hq];rfl),trivial⟩⟩
   ·simp only[decide_eq_false_iff_not]at hc
    have hq: ¬k<5:=by omega
    refine au<|Xq<|Mv rfl<|Bnr rfl rfl (fun _=>aw _ _ _ (by unfold inI;omega))<|Asg rfl<|aa<|?_
    repeat (refine aR ?_)
    exact aG<|⟨rfl,⟨k+1,by omega⟩,_,by show 6-(k+1)<6-k;omega,rfl,⟨rfl,rfl,rfl,rfl,trivial⟩,⟨by first|(rw[mH _ k hq];rfl)|(rw[m6 _ k hq];rfl),trivial⟩⟩
  ·obtain rfl:k=6:=by simp at hc;omega
   refine aT<|Xq<|Mv rfl<|Bnr (v:=U64 (BitVec.ofNat 64 (1-(i+1)))) rfl rfl (fun w=>(eh _ _ 1#64).trans (congrArg (fun z=>Result.ok (U64 z) w) (qW 1 i (by decide) (by omega))))<|Asg rfl<|aa<|?_
   repeat (refine aR ?_)
   exact aG<|⟨rfl,⟨i+1,by omega⟩,_,by show 1-(i+1)<1-i;omega,rfl,⟨rfl,rfl,rfl,trivial⟩,⟨rfl,trivial⟩⟩
 ·obtain rfl:i=1:=by simp at hc;omega
  refine aT<|Xp<|cx 5 rfl rfl isAgg35 sizeOf35 (by rw[List.length_map,bT,az]) rfl rfl<|Ca rfl (fG _ (by rw[bT,az]))<|Al 7 hGF zv60<|fun b7=>Sx 7 hGF rfl rfl rfl ri (aK _ _) (cf _)<|aa<|Xp<|cg (l:=0) (h':=48) rfl underlying60 sizeOf5 rfl rfl (by omega) (by omega) rfl rfl<|Asg rfl<|aa<|ap<|Rr<|?_
  exact aJ rfl rfl (fun w hw=>⟨b7,rfl,ac hw,(hw.own 7 b7 _ _ rfl).2.elim id False.elim,(hw.own 7 b7 _ _ rfl).1⟩)
theorem lZ(w:World)(hw:Gt w):Calls Tryz.prog 171 [I (1),U64 2#64].toArray w (fun e w'=> ∃b,e=.returned (.slice (some ⟨b,0,none⟩) 48 48)∧Grow w w'∧w.heap.size≤b∧OwnB w' b ((BYs (HN (AS PL (1#64::List.replicate 5 0) 6).1 2) 48).map U8) 60):=by
 refine Hf func171 rfl hw<|fun hGF=>Xp<|Asg rfl<|aa<|Xp<|Ca rfl (eJ)<|Al 5 hGF zv35<|fun b5=>Sw 5 hGF rfl rfl rfl bu cT<|aa<|ae<|Xp<|Mv rfl<|Bnr (v:=.bool false) rfl rfl (fun w=>aA _ (1) 0)<|aa<|aL rfl<|Xq<|Lw 5 rfl rfl bu cT<|Mv rfl<|bF (v:=U64 1#64) rfl rfl (fun _=>(eW underlying2 underlying24 1).trans rfl) rfl rfl<|dO 1#64 rfl underlying35 sizeOf24 zv35 rfl rfl<|Ca rfl (fI PL (1#64::List.replicate 5 0) cT rfl)<|Mv rfl<|Ext rfl rfl<|Ext rfl rfl<|aH 5 hGF rfl rfl rfl sizeOf35 (by rw[List.length_map,aE _ _ _]) (by rw[List.length_map,cT]) (bg _) rfl<|aa<|ae<|ai<|bB (ι:={i:Nat // i≤2}) (fun x=>[(4,.slice none 0 0),(5,.pointer (some ⟨b5,0,none⟩)),(1,U64 (BitVec.ofNat 64 (2-x.1)))]) (fun x=>[(5,b5,(HN (AS PL (1#64::List.replicate 5 0) 6).1 x.1).map U64,35)]) (fun x=>2-x.1) ⟨0,by omega⟩ hGF ⟨rfl,rfl,rfl,trivial⟩ ⟨rfl,trivial⟩<|?_
 rintro ⟨i,hi⟩
 dsimp only
 refine ae<|Xp<|Mv rfl<|Bnr (v:=.bool (decide (i<2))) rfl rfl (fun w=>(fq _ _ 0#64).trans (congrArg (fun b=>Result.ok (Value.bool b) w) (rO 2 i (by decide))))<|aa<|?_
 refine bj rfl (fun hc=> ?_) (fun hc=> ?_)
 ·simp only[decide_eq_true_eq]at hc
  refine au<|ae<|ai<|Xp<|Asg rfl<|aa<|ai<|bB (ι:={i:Nat // i≤6}) (fun x=>[(4,.slice none 0 0),(5,.pointer (some ⟨b5,0,none⟩)),(1,U64 (BitVec.ofNat 64 (2-i))),(6,I (x.1:Int))]) (fun x=>[(5,b5,(HLs (HN (AS PL (1#64::List.replicate 5 0) 6).1 i) x.1).map U64,35)]) (fun x=>6-x.1) ⟨0,by omega⟩ hGF ⟨rfl,rfl,rfl,rfl,trivial⟩ ⟨rfl,trivial⟩<|?_
  rintro ⟨k,hk⟩
  dsimp only
  refine ae<|Xp<|Mv rfl<|Bnr rfl rfl (fun _=>aA _ _ _)<|aa<|?_
  refine bj rfl (fun hc=> ?_) (fun hc=> ?_)
  ·simp only[decide_eq_true_eq]at hc
   refine au<|ae<|ai<|Xp<|Mv rfl<|Mv rfl<|Ia (k) rfl rfl underlying35 sizeOf24<|Lm 5 U64 0 rfl rfl isAgg24 (by rw[ca,bT,aE];omega)<|Bnr rfl rfl (fun _=>cB _ _ 1#64)<|Ia (k) rfl rfl underlying35 sizeOf24<|aP 5 U64 hGF rfl rfl rfl sizeOf24 rfl (by rw[ca,bT,aE];omega) rfl<|aa<|Xp<|Mv rfl<|Bnr rfl rfl (fun _=>aA _ _ _)<|aa<|?_
   refine bj rfl (fun hc=> ?_) (fun hc=> ?_)
   ·simp only[decide_eq_true_eq]at hc
    have hq:k<5:=by omega
    refine Xe []<|Mv rfl<|Ia (k) rfl rfl underlying35 sizeOf24<|Lm 5 U64 0 rfl rfl isAgg24 (by rw[List.length_set,ca,bT,aE];omega)<|Mv rfl<|Bnr rfl rfl (fun _=>aw _ _ _ (by unfold inI;omega))<|Ia ((k+1)) rfl rfl underlying35 sizeOf24<|Lm 5 U64 0 rfl rfl isAgg24 (by rw[List.length_set,ca,bT,aE];omega)<|Bnr rfl rfl (fun _=>gJ _ _ 63#64)<|Bnr rfl rfl (fun _=>dV _ _ _)<|Ia (k) rfl rfl underlying35 sizeOf24<|aP 5 U64 hGF rfl rfl rfl sizeOf24 rfl (by rw[List.length_set,ca,bT,aE];omega) rfl<|aa<|Xq<|Mv rfl<|Bnr rfl rfl (fun _=>aw _ _ _ (by unfold inI;omega))<|Asg rfl<|aa<|?_
    repeat (refine aR ?_)
    exact aG<|⟨rfl,⟨k+1,by omega⟩,_,by show 6-(k+1)<6-k;omega,rfl,⟨rfl,rfl,rfl,rfl,trivial⟩,⟨by first|(rw[mH _ k hq];rfl)|(rw[m6 _ k hq];rfl),trivial⟩⟩
   ·simp only[decide_eq_false_iff_not]at hc
    have hq: ¬k<5:=by omega
    refine au<|Xq<|Mv rfl<|Bnr rfl rfl (fun _=>aw _ _ _ (by unfold inI;omega))<|Asg rfl<|aa<|?_
    repeat (refine aR ?_)
    exact aG<|⟨rfl,⟨k+1,by omega⟩,_,by show 6-(k+1)<6-k;omega,rfl,⟨rfl,rfl,rfl,rfl,trivial⟩,⟨by first|(rw[mH _ k hq];rfl)|(rw[m6 _ k hq];rfl),trivial⟩⟩
  ·obtain rfl:k=6:=by simp at hc;omega
   refine aT<|Xq<|Mv rfl<|Bnr (v:=U64 (BitVec.ofNat 64 (2-(i+1)))) rfl rfl (fun w=>(eh _ _ 1#64).trans (congrArg (fun z=>Result.ok (U64 z) w) (qW 2 i (by decide) (by omega))))<|Asg rfl<|aa<|?_
   repeat (refine aR ?_)
   exact aG<|⟨rfl,⟨i+1,by omega⟩,_,by show 2-(i+1)<2-i;omega,rfl,⟨rfl,rfl,rfl,trivial⟩,⟨rfl,trivial⟩⟩
 ·obtain rfl:i=2:=by simp at hc;omega
  refine aT<|Xp<|cx 5 rfl rfl isAgg35 sizeOf35 (by rw[List.length_map,bT,aE]) rfl rfl<|Ca rfl (fG _ (by rw[bT,aE]))<|Al 7 hGF zv60<|fun b7=>Sx 7 hGF rfl rfl rfl ri (aK _ _) (cf _)<|aa<|Xp<|cg (l:=0) (h':=48) rfl underlying60 sizeOf5 rfl rfl (by omega) (by omega) rfl rfl<|Asg rfl<|aa<|ap<|Rr<|?_
  exact aJ rfl rfl (fun w hw=>⟨b7,rfl,ac hw,(hw.own 7 b7 _ _ rfl).2.elim id False.elim,(hw.own 7 b7 _ _ rfl).1⟩)
end
section
open Go.RowKit
theorem ent155:ah Tryz.prog 155:=fun _ _=>by kernel_rfl
theorem ent172:ah Tryz.prog 172:=fun _ _=>by kernel_rfl
def EX2:List (BitVec 8):=BYs (HN (SS PL (2#64::List.replicate 5 0) 6).1 0) 48
def EX1:List (BitVec 8):=BYs (HN (SS PL (1#64::List.replicate 5 0) 6).1 1) 48
def EX4:List (BitVec 8):=BYs (HN (AS PL (1#64::List.replicate 5 0) 6).1 2) 48
theorem CA:EX2.length=48:=aK _ _
theorem ny:EX1.length=48:=aK _ _
theorem AT:EX4.length=48:=aK _ _
theorem GT(a:List (BitVec 64))(ha:a.length=6)(b:Nat)(t:TypeId)(bs:List (BitVec 8))(h48:bs.length=48)(w:World)(hw:Gt w)(ho:OwnB w b (bs.map U8) t):
 Calls Tryz.prog 170 [.agg ((a).map U64).toArray,.slice (some ⟨b,0,none⟩) 48 48].toArray w (fun r w'=>r=.returned (.agg ((RP a bs 384).map U64).toArray)∧Grow w w'):=by
 have h:=lO a ha (some ⟨b,0,none⟩) 48 bs (by omega) w hw (BytesAt.range ho.range)
 rw[h48]at h
 exact h
theorem sB(b:Nat)(t:TypeId)(bs:List (BitVec 8))(h48:bs.length=48)(w:World)(hw:Gt w)(ho:OwnB w b (bs.map U8) t):
 Calls Tryz.prog 124 [.slice (some ⟨b,0,none⟩) 48 48].toArray w (fun r w'=>r=.returned (.tuple #[.agg ((FRs bs 48).map U64).toArray,.bool true])∧Grow w w'):=by
 have h:=pO (some ⟨b,0,none⟩) 48 bs w hw (BytesAt.range ho.range)
 rw[h48,if_neg (by decide)]at h
 exact h
theorem uD(a:List (BitVec 64))(ha:a.length=6):Pure Tryz.prog Gt 155 [.agg ((a).map U64).toArray] (.agg ((RP a EX2 384).map U64).toArray):=by
 intro w hw
 refine Hf func155 rfl hw<|fun hGF=>ak (E:=EE [171,2000171])<|Bx 1 hGF rfl<|fun b1=>Al 2 hGF zv37<|fun b2=>aa<|Xd [171,2000171]<|Lw 1 rfl rfl bU ha<|?_
 refine bq rfl rfl ent171 rfl rfl (fun w' hw'=>(q7 w' (hGF.g _ _ _ hw')).mono fun e w'' h=> ?_)
 obtain ⟨bm,rfl,hg,hb,hob⟩:=h
 refine ⟨_,_,rfl,ay hGF,hw'.news ao hg [(4,bm,EX2.map U8,60)] ?_ bJ,bx ao rfl, ?_⟩
 ·intro n' b' c' t' hl
  rcases aF hl with ⟨_,e⟩|⟨_,hl⟩
  ·cases e;exact ⟨hb,hob⟩
  ·cases hl
 clear hw' hg hb hob
 refine Cc rfl ent170 (fun w' hw' hG=>GT a ha bm _ EX2 CA w' hG (hw'.own 4 _ _ _ rfl).1)<|Sw 2 hGF rfl rfl rfl bU (fE _ _ _)<|aa<|ap<|Rr<|?_
 exact av 2 rfl rfl rfl isAgg37 sizeOf37 (by rw[List.length_map,fE]) (fun w hw=>⟨rfl,ac hw⟩)
theorem eqgF(op:BinOp)(x y:Operand)(xs ys:Array Value)(w:World):(eqGuard op 37 x y (.agg xs) (.agg ys)).run Tryz.prog w=.ok () w:=run_eqGuard_agg w op 37 x y xs ys (by kernel_rfl)
theorem qv(a:List (BitVec 64))(ha:a.length=6):Pure Tryz.prog Gt 172 [.agg ((a).map U64).toArray] (.bool (decide ((SS (FRs EX1 48) (RM a N1) 6).2=1))):=by
 intro w hw
 refine Hf func172 rfl hw<|fun hGF=>ak (E:=EE [171,2000171])<|Bx 1 hGF rfl<|fun b1=>Asg rfl<|aa<|ak (E:=EE [171,2000171])<|?_
 refine bq rfl rfl ent171 rfl rfl (fun w' hw'=>(qM w' (hGF.g _ _ _ hw')).mono fun e w'' h=> ?_)
 obtain ⟨bm,rfl,hg,hb,hob⟩:=h
 refine ⟨_,_,rfl,ay hGF,hw'.news ao hg [(6,bm,EX1.map U8,60)] ?_ bJ,bx ao rfl, ?_⟩
 ·intro n' b' c' t' hl
  rcases aF hl with ⟨_,e⟩|⟨_,hl⟩
  ·cases e;exact ⟨hb,hob⟩
  ·cases hl
 clear hw' hg hb hob
 refine Cc rfl ent124 (fun w' hw' hG=>sB bm _ EX1 ny w' hG (hw'.own 6 _ _ _ rfl).1)<|Mv rfl<|Ext rfl rfl<|Ext rfl rfl<|Al 3 hGF zv35<|fun b3=>Sw 3 hGF rfl rfl rfl bu (aQ _ _)<|Asg rfl<|aa<|Xd [171,2000171]<|Lw 3 rfl rfl bu (aQ _ _)<|Lw 1 rfl rfl bU ha<|Ca rfl (i8 a ha)<|Ca rfl (rA _ _ (aQ _ _) (aY _ _))<|Asg rfl<|aa<|ap<|Rr<|?_
 exact aJ rfl rfl (fun w hw=>⟨rfl,ac hw⟩)
end
end Go.Proofs.YtodgbdcjjhmnkaaGreatDoor
