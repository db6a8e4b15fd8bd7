/-
 The walks of sums, differences, order and products.
 The walks of what is left by a modulus.
 The walks of what is left by a modulus, bit by bit.
 The walks of bytes and bits.
 The walk of Montgomery's product.
-/
import Derived.Test.YtodgbdcjjhmnkaaGreatDoorX4
import Derived.Test.YtodgbdcjjhmnkaaGreatDoorX5
import Derived.Test.YtodgbdcjjhmnkaaGreatDoorXW
set_option maxRecDepth 100000
set_option maxHeartbeats 1000000
namespace Go.Proofs.YtodgbdcjjhmnkaaGreatDoor
open Go.Proofs.Tryz
section
open Go.RowKit
def Aw:Array Value→Sem Value:=fun args=>do
 let (x,y,b)←Extern.MathBitsCarry.three "Sub64" args
 pure (Extern.MathBitsCarry.pair ((x+Extern.MathBitsCarry.m64-y-b) % Extern.MathBitsCarry.m64) (if x<y+b then 1 else 0))
theorem bZ(x y c:BitVec 64)(hc:c.toNat≤1)(w:World):(callFunc 105 [U64 x,U64 y,U64 c].toArray).run Tryz.prog w=.ok (.value (.tuple #[U64 (ADC x y c).1,U64 (ADC x y c).2])) w:=by
 show (callFunc 105 #[U64 x,U64 y,U64 c]).run Tryz.prog w=_
 rw[run_callFunc_extern func105 (by kernel_rfl) (by kernel_rfl) (by kernel_rfl) (e:=add64Entry) (by kernel_rfl)]
 simp only[U64]
 rw[run_add64 _ _ _ (by omega) (by omega) (by omega) (by omega)]
 have h1:=x.isLt
 have h2:=y.isLt
 have e1:((x.toNat:Int)+(y.toNat:Int)+(c.toNat:Int)) % 18446744073709551616=((ADC x y c).1.toNat:Int):=by simp only[ADC,BitVec.toNat_ofNat];omega
 have e2:((x.toNat:Int)+(y.toNat:Int)+(c.toNat:Int)) / 18446744073709551616=((ADC x y c).2.toNat:Int):=by simp only[ADC,BitVec.toNat_ofNat];omega
 rw[e1,e2]
 rfl
theorem E5(x y c:BitVec 64)(hc:c.toNat≤1)(w:World):(callFunc 133 [U64 x,U64 y,U64 c].toArray).run Tryz.prog w=.ok (.value (.tuple #[U64 (SBB x y c).1,U64 (SBB x y c).2])) w:=by
 show (callFunc 133 #[U64 x,U64 y,U64 c]).run Tryz.prog w=_
 rw[run_callFunc_extern func133 (by kernel_rfl) (by kernel_rfl) (by kernel_rfl) (e:=Aw) (by kernel_rfl)]
 have key: ∀b:Nat,b≤1→(Aw #[.int .u64 (x.toNat:Int),.int .u64 (y.toNat:Int),.int .u64 (b:Int)]).run Tryz.prog w=
  .ok (.tuple #[.int .u64 (((x.toNat+18446744073709551616-y.toNat-b) % 18446744073709551616:Nat):Int),.int .u64 ((if x.toNat<y.toNat+b then 1 else 0:Nat):Int)]) w:=fun b hb=>by
  have:b=0∨b=1:=by omega
  rcases this with rfl|rfl<;>rfl
 simp only[U64]
 rw[key _ hc]
 simp only[Result.andThen,SBB,BitVec.toNat_ofNat]
 congr 5
 split<;>rfl
theorem ent39:am Tryz.prog 39:=fun _ _=>by kernel_rfl
theorem ent124:am Tryz.prog 124:=fun _ _=>by kernel_rfl
theorem ent161:am Tryz.prog 161:=fun _ _=>by kernel_rfl
theorem ent176:am Tryz.prog 176:=fun _ _=>by kernel_rfl
theorem zv25(w:World):(zeroValue 25).run Tryz.prog w=.ok (.agg ((List.replicate 6 (0#64)).map U64).toArray) w:=(zeroValue25 w).trans (by rfl)
theorem zv35(w:World):(zeroValue 35).run Tryz.prog w=.ok (.agg ((List.replicate 6 (0#64)).map U64).toArray) w:=(zeroValue35 w).trans (by rfl)
theorem zv137(w:World):(zeroValue 137).run Tryz.prog w=.ok (.agg ((List.replicate 12 (0#64)).map U64).toArray) w:=(zeroValue137 w).trans (by rfl)
theorem zv60(w:World):(zeroValue 60).run Tryz.prog w=.ok (.agg ((List.replicate 48 (0#8)).map U8).toArray) w:=(zeroValue60 w).trans (by rfl)
theorem mi(a b:List (BitVec 64))(ha:a.length=6)(hb:b.length=6):Pure Tryz.prog Gt 85 [.agg ((a).map U64).toArray,.agg ((b).map U64).toArray] (.tuple #[.agg (((AS a b 6).1).map U64).toArray,U64 (AS a b 6).2]):=by
 intro w hw
 refine Hf func85 rfl hw<|fun hGF=>Xp<|Bx 2 hGF rfl<|fun b2=>Bx 3 hGF rfl<|fun b3=>Al 4 hGF zv25<|fun b4=>Asg rfl<|aa<|Xp<|Al 6 hGF zv25<|fun b6=>aa<|Xp<|Asg rfl<|aa<|ah<|Xp<|Mv rfl<|aa<|ai<|bg (ι:={i:Nat // i≤6}) (fun x=>[(2,.pointer (some ⟨b2,0,none⟩)),(3,.pointer (some ⟨b3,0,none⟩)),(4,.pointer (some ⟨b4,0,none⟩)),(6,.pointer (some ⟨b6,0,none⟩)),(7,U64 (AS a b x.1).2),(9,I (x.1:Int))]) (fun x=>[(2,b2,a.map U64,25),(3,b3,b.map U64,25),(4,b4,(List.replicate 6 0#64).map U64,25),(6,b6,(AS a b x.1).1.map U64,25)]) (fun x=>6-x.1) ⟨0,by omega⟩ hGF ⟨rfl,rfl,rfl,rfl,rfl,rfl,trivial⟩ ⟨rfl,rfl,rfl,rfl,trivial⟩<|?_
 rintro ⟨i,hi⟩
 dsimp only
 refine Xp<|Bnr rfl rfl (fun _=>av _ _ _)<|aa<|ah<|?_
 refine ba rfl (fun hc=> ?_) (fun hc=> ?_)
 ·simp only[decide_eq_true_eq]at hc
  refine au<|ah<|ai<|Xp<|Mv rfl<|Asg rfl<|aa<|Xe []<|Mv rfl<|Mv rfl<|Ia (i) rfl rfl underlying25 sizeOf24<|Lm 2 U64 0 rfl rfl isAgg24 (by rw[ha];omega)<|Mv rfl<|Ia (i) rfl rfl underlying25 sizeOf24<|Lm 3 U64 0 rfl rfl isAgg24 (by rw[hb];omega)<|Mv rfl<|aO rfl rfl (fun w=>bZ _ _ _ (uc a b i) w) rfl rfl<|Mv rfl<|Ext rfl rfl<|Ext rfl rfl<|Ia (i) rfl rfl underlying25 sizeOf24<|aK 6 U64 hGF rfl rfl rfl sizeOf24 rfl (by rw[aI];omega) rfl<|Asg rfl<|aa<|Xq<|Bnr rfl rfl (fun _=>ap _ _ _ (by unfold inI;omega))<|Mv rfl<|aa<|?_
  repeat (refine aJ ?_)
  exact aA<|⟨rfl,⟨i+1,by omega⟩,_,by show 6-(i+1)<6-i;omega,rfl,⟨rfl,rfl,rfl,rfl,rfl,rfl,trivial⟩,⟨rfl,rfl,rfl,rfl,trivial⟩⟩
 ·obtain rfl:i=6:=by simp at hc;omega
  refine aM<|Xp<|Lw 6 rfl rfl bD (aI _ _ _)<|Mv rfl<|Sw 4 hGF rfl rfl rfl bD (aI _ _ _)<|Asg rfl<|aa<|aq<|Rr<|?_
  exact bG 4 rfl rfl rfl rfl isAgg25 sizeOf25 (by rw[List.length_map,aI]) (fun w hw=>⟨rfl,ac hw⟩)
theorem iF(a b:List (BitVec 64))(ha:a.length=6)(hb:b.length=6):Pure Tryz.prog Gt 86 [.agg ((a).map U64).toArray,.agg ((b).map U64).toArray] (.tuple #[.agg (((SS a b 6).1).map U64).toArray,U64 (SS a b 6).2]):=by
 intro w hw
 refine Hf func86 rfl hw<|fun hGF=>Xp<|Bx 2 hGF rfl<|fun b2=>Bx 3 hGF rfl<|fun b3=>Al 4 hGF zv25<|fun b4=>Asg rfl<|aa<|Xp<|Al 6 hGF zv25<|fun b6=>aa<|Xp<|Asg rfl<|aa<|ah<|Xp<|Mv rfl<|aa<|ai<|bg (ι:={i:Nat // i≤6}) (fun x=>[(2,.pointer (some ⟨b2,0,none⟩)),(3,.pointer (some ⟨b3,0,none⟩)),(4,.pointer (some ⟨b4,0,none⟩)),(6,.pointer (some ⟨b6,0,none⟩)),(7,U64 (SS a b x.1).2),(9,I (x.1:Int))]) (fun x=>[(2,b2,a.map U64,25),(3,b3,b.map U64,25),(4,b4,(List.replicate 6 0#64).map U64,25),(6,b6,(SS a b x.1).1.map U64,25)]) (fun x=>6-x.1) ⟨0,by omega⟩ hGF ⟨rfl,rfl,rfl,rfl,rfl,rfl,trivial⟩ ⟨rfl,rfl,rfl,rfl,trivial⟩<|?_
 rintro ⟨i,hi⟩
 dsimp only
 refine Xp<|Bnr rfl rfl (fun _=>av _ _ _)<|aa<|ah<|?_
 refine ba rfl (fun hc=> ?_) (fun hc=> ?_)
 ·simp only[decide_eq_true_eq]at hc
  refine au<|ah<|ai<|Xp<|Mv rfl<|Asg rfl<|aa<|Xe []<|Mv rfl<|Mv rfl<|Ia (i) rfl rfl underlying25 sizeOf24<|Lm 2 U64 0 rfl rfl isAgg24 (by rw[ha];omega)<|Mv rfl<|Ia (i) rfl rfl underlying25 sizeOf24<|Lm 3 U64 0 rfl rfl isAgg24 (by rw[hb];omega)<|Mv rfl<|aO rfl rfl (fun w=>E5 _ _ _ (me a b i) w) rfl rfl<|Mv rfl<|Ext rfl rfl<|Ext rfl rfl<|Ia (i) rfl rfl underlying25 sizeOf24<|aK 6 U64 hGF rfl rfl rfl sizeOf24 rfl (by rw[aB];omega) rfl<|Asg rfl<|aa<|Xq<|Bnr rfl rfl (fun _=>ap _ _ _ (by unfold inI;omega))<|Mv rfl<|aa<|?_
  repeat (refine aJ ?_)
  exact aA<|⟨rfl,⟨i+1,by omega⟩,_,by show 6-(i+1)<6-i;omega,rfl,⟨rfl,rfl,rfl,rfl,rfl,rfl,trivial⟩,⟨rfl,rfl,rfl,rfl,trivial⟩⟩
 ·obtain rfl:i=6:=by simp at hc;omega
  refine aM<|Xp<|Lw 6 rfl rfl bD (aB _ _ _)<|Mv rfl<|Sw 4 hGF rfl rfl rfl bD (aB _ _ _)<|Asg rfl<|aa<|aq<|Rr<|?_
  exact bG 4 rfl rfl rfl rfl isAgg25 sizeOf25 (by rw[List.length_map,aB]) (fun w hw=>⟨rfl,ac hw⟩)
theorem gp(a b:List (BitVec 64))(ha:a.length=6)(hb:b.length=6):Pure Tryz.prog Gt 159 [.agg ((a).map U64).toArray,.agg ((b).map U64).toArray] (.tuple #[.agg (((AS a b 6).1).map U64).toArray,U64 (AS a b 6).2]):=by
 intro w hw
 refine Hf func159 rfl hw<|fun hGF=>Xp<|Bx 2 hGF rfl<|fun b2=>Bx 3 hGF rfl<|fun b3=>Al 4 hGF zv35<|fun b4=>Asg rfl<|aa<|Xp<|Al 6 hGF zv35<|fun b6=>aa<|Xp<|Asg rfl<|aa<|ah<|Xp<|Asg rfl<|aa<|ai<|bg (ι:={i:Nat // i≤6}) (fun x=>[(2,.pointer (some ⟨b2,0,none⟩)),(3,.pointer (some ⟨b3,0,none⟩)),(4,.pointer (some ⟨b4,0,none⟩)),(6,.pointer (some ⟨b6,0,none⟩)),(7,U64 (AS a b x.1).2),(8,I (x.1:Int))]) (fun x=>[(2,b2,a.map U64,35),(3,b3,b.map U64,35),(4,b4,(List.replicate 6 0#64).map U64,35),(6,b6,(AS a b x.1).1.map U64,35)]) (fun x=>6-x.1) ⟨0,by omega⟩ hGF ⟨rfl,rfl,rfl,rfl,rfl,rfl,trivial⟩ ⟨rfl,rfl,rfl,rfl,trivial⟩<|?_
 rintro ⟨i,hi⟩
 dsimp only
 refine ah<|Xp<|Mv rfl<|Bnr rfl rfl (fun _=>av _ _ _)<|aa<|?_
 refine ba rfl (fun hc=> ?_) (fun hc=> ?_)
 ·simp only[decide_eq_true_eq]at hc
  refine au<|ah<|ai<|Xe []<|Mv rfl<|Mv rfl<|Ia (i) rfl rfl underlying35 sizeOf24<|Lm 2 U64 0 rfl rfl isAgg24 (by rw[ha];omega)<|Mv rfl<|Ia (i) rfl rfl underlying35 sizeOf24<|Lm 3 U64 0 rfl rfl isAgg24 (by rw[hb];omega)<|Mv rfl<|aO rfl rfl (fun w=>bZ _ _ _ (uc a b i) w) rfl rfl<|Mv rfl<|Ext rfl rfl<|Ext rfl rfl<|Ia (i) rfl rfl underlying35 sizeOf24<|aK 6 U64 hGF rfl rfl rfl sizeOf24 rfl (by rw[aI];omega) rfl<|Asg rfl<|aa<|Xq<|Mv rfl<|Bnr rfl rfl (fun _=>ap _ _ _ (by unfold inI;omega))<|Asg rfl<|aa<|?_
  repeat (refine aJ ?_)
  exact aA<|⟨rfl,⟨i+1,by omega⟩,_,by show 6-(i+1)<6-i;omega,rfl,⟨rfl,rfl,rfl,rfl,rfl,rfl,trivial⟩,⟨rfl,rfl,rfl,rfl,trivial⟩⟩
 ·obtain rfl:i=6:=by simp at hc;omega
  refine aM<|Xp<|Lw 6 rfl rfl bu (aI _ _ _)<|Mv rfl<|Sw 4 hGF rfl rfl rfl bu (aI _ _ _)<|Asg rfl<|aa<|aq<|Rr<|?_
  exact bG 4 rfl rfl rfl rfl isAgg35 sizeOf35 (by rw[List.length_map,aI]) (fun w hw=>⟨rfl,ac hw⟩)
theorem cQ(a b:List (BitVec 64))(ha:a.length=6)(hb:b.length=6):Pure Tryz.prog Gt 152 [.agg ((a).map U64).toArray,.agg ((b).map U64).toArray] (.tuple #[.agg (((SS a b 6).1).map U64).toArray,U64 (SS a b 6).2]):=by
 intro w hw
 refine Hf func152 rfl hw<|fun hGF=>Xp<|Bx 2 hGF rfl<|fun b2=>Bx 3 hGF rfl<|fun b3=>Al 4 hGF zv35<|fun b4=>Asg rfl<|aa<|Xp<|Al 6 hGF zv35<|fun b6=>aa<|Xp<|Asg rfl<|aa<|ah<|Xp<|Asg rfl<|aa<|ai<|bg (ι:={i:Nat // i≤6}) (fun x=>[(2,.pointer (some ⟨b2,0,none⟩)),(3,.pointer (some ⟨b3,0,none⟩)),(4,.pointer (some ⟨b4,0,none⟩)),(6,.pointer (some ⟨b6,0,none⟩)),(7,U64 (SS a b x.1).2),(8,I (x.1:Int))]) (fun x=>[(2,b2,a.map U64,35),(3,b3,b.map U64,35),(4,b4,(List.replicate 6 0#64).map U64,35),(6,b6,(SS a b x.1).1.map U64,35)]) (fun x=>6-x.1) ⟨0,by omega⟩ hGF ⟨rfl,rfl,rfl,rfl,rfl,rfl,trivial⟩ ⟨rfl,rfl,rfl,rfl,trivial⟩<|?_
 rintro ⟨i,hi⟩
 dsimp only
 refine ah<|Xp<|Mv rfl<|Bnr rfl rfl (fun _=>av _ _ _)<|aa<|?_
 refine ba rfl (fun hc=> ?_) (fun hc=> ?_)
 ·simp only[decide_eq_true_eq]at hc
  refine au<|ah<|ai<|Xe []<|Mv rfl<|Mv rfl<|Ia (i) rfl rfl underlying35 sizeOf24<|Lm 2 U64 0 rfl rfl isAgg24 (by rw[ha];omega)<|Mv rfl<|Ia (i) rfl rfl underlying35 sizeOf24<|Lm 3 U64 0 rfl rfl isAgg24 (by rw[hb];omega)<|Mv rfl<|aO rfl rfl (fun w=>E5 _ _ _ (me a b i) w) rfl rfl<|Mv rfl<|Ext rfl rfl<|Ext rfl rfl<|Ia (i) rfl rfl underlying35 sizeOf24<|aK 6 U64 hGF rfl rfl rfl sizeOf24 rfl (by rw[aB];omega) rfl<|Asg rfl<|aa<|Xq<|Mv rfl<|Bnr rfl rfl (fun _=>ap _ _ _ (by unfold inI;omega))<|Asg rfl<|aa<|?_
  repeat (refine aJ ?_)
  exact aA<|⟨rfl,⟨i+1,by omega⟩,_,by show 6-(i+1)<6-i;omega,rfl,⟨rfl,rfl,rfl,rfl,rfl,rfl,trivial⟩,⟨rfl,rfl,rfl,rfl,trivial⟩⟩
 ·obtain rfl:i=6:=by simp at hc;omega
  refine aM<|Xp<|Lw 6 rfl rfl bu (aB _ _ _)<|Mv rfl<|Sw 4 hGF rfl rfl rfl bu (aB _ _ _)<|Asg rfl<|aa<|aq<|Rr<|?_
  exact bG 4 rfl rfl rfl rfl isAgg35 sizeOf35 (by rw[List.length_map,aB]) (fun w hw=>⟨rfl,ac hw⟩)
theorem iQ(a b:List (BitVec 64))(ha:a.length=6)(hb:b.length=6):Pure Tryz.prog Gt 128 [.agg ((a).map U64).toArray,.agg ((b).map U64).toArray] (.bool (LT a b 6)):=by
 intro w hw
 refine Hf func128 rfl hw<|fun hGF=>Xp<|Bx 2 hGF rfl<|fun b2=>Bx 3 hGF rfl<|fun b3=>Asg rfl<|aa<|vK<|ah<|uI<|ah<|Xp<|Asg rfl<|aa<|ai<|bg (ι:={i:Nat // i≤6∧LT a b 6=LT a b i}) (fun x=>[(2,.pointer (some ⟨b2,0,none⟩)),(3,.pointer (some ⟨b3,0,none⟩)),(4,.bool false),(5,I ((x.1:Int)-1))]) (fun x=>[(2,b2,a.map U64,25),(3,b3,b.map U64,25)]) (fun x=>x.1) ⟨6,by omega,rfl⟩ hGF ⟨rfl,rfl,rfl,rfl,trivial⟩ ⟨rfl,rfl,trivial⟩<|?_
 rintro ⟨i,hi,hlt⟩
 dsimp only
 refine ah<|Xp<|Mv rfl<|Bnr rfl rfl (fun _=>cS _ _ _)<|aa<|?_
 refine ba rfl (fun hc=> ?_) (fun hc=> ?_)
 ·simp only[decide_eq_true_eq]at hc
  obtain ⟨k,rfl⟩: ∃k,i=k+1:=⟨i-1,by omega⟩
  refine au<|ah<|ai<|ai<|Xd []<|Mv rfl<|Ia (k) rfl rfl underlying25 sizeOf24<|Lm 2 U64 0 rfl rfl isAgg24 (by rw[ha];omega)<|Mv rfl<|Ia (k) rfl rfl underlying25 sizeOf24<|Lm 3 U64 0 rfl rfl isAgg24 (by rw[hb];omega)<|Bnr rfl rfl (fun _=>ll _ _ _)<|Asg rfl<|aa<|?_
  refine ba rfl (fun hc=> ?_) (fun hc=> ?_)
  ·simp only[decide_eq_true_eq]at hc
   have hfin:LT a b 6=true:=by rw[hlt,LT,if_pos hc]
   refine Xp<|Asg rfl<|aa<|aq<|?_
   repeat (first|refine ck ?_|refine cn ?_|refine iR ?_)
   exact aQ rfl rfl (fun w hw=>⟨by rw[hfin];rfl,ac hw⟩)
  ·simp only[decide_eq_false_iff_not]at hc
   have hc1:=hc
   refine Xd []<|Mv rfl<|Ia (k) rfl rfl underlying25 sizeOf24<|Lm 2 U64 0 rfl rfl isAgg24 (by rw[ha];omega)<|Mv rfl<|Ia (k) rfl rfl underlying25 sizeOf24<|Lm 3 U64 0 rfl rfl isAgg24 (by rw[hb];omega)<|Bnr rfl rfl (fun _=>fX _ _ _)<|Asg rfl<|aa<|?_
   refine ba rfl (fun hc=> ?_) (fun hc=> ?_)
   ·simp only[decide_eq_true_eq]at hc
    have hfin:LT a b 6=false:=by rw[hlt,LT,if_neg hc1,if_pos hc]
    refine aM<|Xp<|Asg rfl<|aa<|aq<|?_
    repeat (first|refine ck ?_|refine cn ?_|refine iR ?_)
    exact aQ rfl rfl (fun w hw=>⟨by rw[hfin];rfl,ac hw⟩)
   ·simp only[decide_eq_false_iff_not]at hc
    refine au<|Xq<|Mv rfl<|Bnr (v:=I ((k:Int)-1)) rfl rfl (fun _=>(aL _ _ _ (by unfold inI;omega)).trans (by rw[show (((k+1:Nat):Int)-1)-1=(k:Int)-1 by omega]))<|Asg rfl<|aa<|?_
    repeat (refine aJ ?_)
    exact aA<|⟨rfl,⟨k,by omega,by rw[hlt,LT,if_neg hc1,if_neg hc]⟩,_,by show k<k+1;omega,rfl,⟨rfl,rfl,rfl,rfl,trivial⟩,⟨rfl,rfl,trivial⟩⟩
 ·simp only[decide_eq_false_iff_not]at hc
  obtain rfl:i=0:=by omega
  have hfin:LT a b 6=false:=hlt
  refine aM<|Xp<|Asg rfl<|aa<|aq<|?_
  repeat (first|refine ck ?_|refine cn ?_|refine iR ?_)
  exact aQ rfl rfl (fun w hw=>⟨by rw[hfin];rfl,ac hw⟩)
theorem a6(x y:BitVec 64):Pure Tryz.prog Gt 151 [U64 x,U64 y] (.tuple #[U64 (MH x y),U64 (MLo x y)]):=by
 intro w hw
 refine Hf func151 rfl hw<|fun hGF=>Xp<|Asg rfl<|Asg rfl<|aa<|Xp<|Mv rfl<|Bnr rfl rfl (fun _=>dp _ _ _)<|Asg rfl<|aa<|Xp<|Mv rfl<|Bnr rfl rfl (fun _=>cz _ _ _)<|Asg rfl<|aa<|Xp<|Mv rfl<|Bnr rfl rfl (fun _=>dp _ _ _)<|Asg rfl<|aa<|Xp<|Mv rfl<|Bnr rfl rfl (fun _=>cz _ _ _)<|Asg rfl<|aa<|Xp<|Mv rfl<|Mv rfl<|Bnr rfl rfl (fun _=>bE _ _ _)<|Asg rfl<|aa<|Xp<|Mv rfl<|Mv rfl<|Bnr rfl rfl (fun _=>bE _ _ _)<|Mv rfl<|Bnr rfl rfl (fun _=>cz _ _ _)<|Bnr rfl rfl (fun _=>ay _ _ _)<|Asg rfl<|aa<|?_
 refine Xp<|Mv rfl<|Bnr rfl rfl (fun _=>dp _ _ _)<|Asg rfl<|aa<|Xp<|Mv rfl<|Bnr rfl rfl (fun _=>cz _ _ _)<|Asg rfl<|aa<|Xp<|Mv rfl<|Mv rfl<|Mv rfl<|Bnr rfl rfl (fun _=>bE _ _ _)<|Bnr rfl rfl (fun _=>ay _ _ _)<|Asg rfl<|aa<|Xp<|Mv rfl<|Mv rfl<|Bnr rfl rfl (fun _=>bE _ _ _)<|Mv rfl<|Bnr rfl rfl (fun _=>ay _ _ _)<|Mv rfl<|Bnr rfl rfl (fun _=>cz _ _ _)<|Bnr rfl rfl (fun _=>ay _ _ _)<|Asg rfl<|aa<|Xp<|Mv rfl<|Mv rfl<|Bnr rfl rfl (fun _=>bE _ _ _)<|Asg rfl<|aa<|aq<|Rr<|?_
 exact bL rfl rfl rfl (fun w hw=>⟨by rw[←Mt,←Kd];rfl,ac hw⟩)
theorem eh(x y c d:BitVec 64):Pure Tryz.prog Gt 131 [U64 x,U64 y,U64 c,U64 d] (.tuple #[U64 (MA x y c d).1,U64 (MA x y c d).2]):=by
 intro w hw
 refine Hf func131 rfl hw<|fun hGF=>Xp<|Asg rfl<|Asg rfl<|aa<|Xp<|Mv rfl<|Mv rfl<|Ca rfl (a6 _ _)<|Mv rfl<|Ext rfl rfl<|Ext rfl rfl<|Asg rfl<|Asg rfl<|aa<|Xp<|Mv rfl<|Mv rfl<|aO rfl rfl (fun w=>bZ _ _ _ (by decide) w) rfl rfl<|Mv rfl<|Ext rfl rfl<|Ext rfl rfl<|Asg rfl<|Asg rfl<|aa<|Xp<|Mv rfl<|Mv rfl<|Bnr rfl rfl (fun _=>ay _ _ _)<|Asg rfl<|aa<|Xp<|Mv rfl<|Mv rfl<|aO rfl rfl (fun w=>bZ _ _ _ (by decide) w) rfl rfl<|Mv rfl<|Ext rfl rfl<|Ext rfl rfl<|Asg rfl<|Asg rfl<|?_
 refine aa<|Xp<|Mv rfl<|Mv rfl<|Mv rfl<|Bnr rfl rfl (fun _=>ay _ _ _)<|Asg rfl<|Asg rfl<|aa<|aq<|Rr<|?_
 exact bL rfl rfl rfl (fun w hw=>⟨rfl,ac hw⟩)
theorem sK(a b:List (BitVec 64))(ha:a.length=6)(hb:b.length=6):Pure Tryz.prog Gt 104 [.agg ((a).map U64).toArray,.agg ((b).map U64).toArray] (.agg ((MU a b 6).map U64).toArray):=by
 intro w hw
 refine Hf func104 rfl hw<|fun hGF=>Xp<|Bx 2 hGF rfl<|fun b2=>Bx 3 hGF rfl<|fun b3=>Al 4 hGF zv137<|fun b4=>aa<|Xp<|Al 5 hGF zv137<|fun b5=>aa<|ah<|Xp<|Asg rfl<|aa<|ai<|bg (ι:={i:Nat // i≤6}) (fun x=>[(2,.pointer (some ⟨b2,0,none⟩)),(3,.pointer (some ⟨b3,0,none⟩)),(4,.pointer (some ⟨b4,0,none⟩)),(5,.pointer (some ⟨b5,0,none⟩)),(6,I (x.1:Int))]) (fun x=>[(2,b2,a.map U64,35),(3,b3,b.map U64,35),(4,b4,(List.replicate 12 0#64).map U64,137),(5,b5,(MU a b x.1).map U64,137)]) (fun x=>6-x.1) ⟨0,by omega⟩ hGF ⟨rfl,rfl,rfl,rfl,rfl,trivial⟩ ⟨rfl,rfl,rfl,rfl,trivial⟩<|?_
 rintro ⟨i,hi⟩
 dsimp only
 refine ah<|Xp<|Mv rfl<|Bnr rfl rfl (fun _=>av _ _ _)<|aa<|?_
 refine ba rfl (fun hc=> ?_) (fun hc=> ?_)
 ·simp only[decide_eq_true_eq]at hc
  refine au<|ah<|ai<|Xp<|Asg rfl<|aa<|ah<|Xp<|Asg rfl<|aa<|ai<|bg (ι:={i:Nat // i≤6}) (fun x=>[(2,.pointer (some ⟨b2,0,none⟩)),(3,.pointer (some ⟨b3,0,none⟩)),(4,.pointer (some ⟨b4,0,none⟩)),(5,.pointer (some ⟨b5,0,none⟩)),(6,I (i:Int)),(7,U64 (MI (a.getD i 0) b i (MU a b i) x.1).2),(8,I (x.1:Int))]) (fun x=>[(2,b2,a.map U64,35),(3,b3,b.map U64,35),(4,b4,(List.replicate 12 0#64).map U64,137),(5,b5,(MI (a.getD i 0) b i (MU a b i) x.1).1.map U64,137)]) (fun x=>6-x.1) ⟨0,by omega⟩ hGF ⟨rfl,rfl,rfl,rfl,rfl,rfl,rfl,trivial⟩ ⟨rfl,rfl,rfl,rfl,trivial⟩<|?_
  rintro ⟨j,hj⟩
  dsimp only
  refine ah<|Xp<|Mv rfl<|Bnr rfl rfl (fun _=>av _ _ _)<|aa<|?_
  refine ba rfl (fun hc=> ?_) (fun hc=> ?_)
  ·simp only[decide_eq_true_eq]at hc
   refine au<|ah<|ai<|Xd []<|Mv rfl<|Ia (i) rfl rfl underlying35 sizeOf24<|Lm 2 U64 0 rfl rfl isAgg24 (by rw[ha];omega)<|Mv rfl<|Ia (j) rfl rfl underlying35 sizeOf24<|Lm 3 U64 0 rfl rfl isAgg24 (by rw[hb];omega)<|Ca rfl (a6 _ _)<|Mv rfl<|Ext rfl rfl<|Ext rfl rfl<|Asg rfl<|Asg rfl<|aa<|Xp<|Asg rfl<|aa<|Xp<|Mv rfl<|Mv rfl<|Mv rfl<|Bnr rfl rfl (fun _=>ap _ _ _ (by unfold inI;omega))<|Ia ((i+j)) rfl rfl underlying137 sizeOf24<|Lm 5 U64 0 rfl rfl isAgg24 (by rw[iy,fv];omega)<|aO rfl rfl (fun w=>bZ _ _ _ (by decide) w) rfl rfl<|Mv rfl<|Ext rfl rfl<|Ext rfl rfl<|Asg rfl<|Asg rfl<|aa<|Xp<|Mv rfl<|Mv rfl<|Bnr rfl rfl (fun _=>ay _ _ _)<|Asg rfl<|aa<|?_
   refine Xp<|Mv rfl<|Mv rfl<|aO rfl rfl (fun w=>bZ _ _ _ (by decide) w) rfl rfl<|Mv rfl<|Ext rfl rfl<|Ext rfl rfl<|Asg rfl<|Asg rfl<|aa<|Xp<|Mv rfl<|Mv rfl<|Bnr rfl rfl (fun _=>ay _ _ _)<|Asg rfl<|aa<|Xq<|Mv rfl<|Mv rfl<|Bnr rfl rfl (fun _=>ap _ _ _ (by unfold inI;omega))<|Mv rfl<|Mv rfl<|Ia ((i+j)) rfl rfl underlying137 sizeOf24<|aK 5 U64 hGF rfl rfl rfl sizeOf24 rfl (by rw[iy,fv];omega) rfl<|Asg rfl<|aa<|Xq<|Mv rfl<|Bnr rfl rfl (fun _=>ap _ _ _ (by unfold inI;omega))<|Asg rfl<|aa<|?_
   repeat (refine aJ ?_)
   exact aA<|⟨rfl,⟨j+1,by omega⟩,_,by show 6-(j+1)<6-j;omega,rfl,⟨rfl,rfl,rfl,rfl,rfl,rfl,rfl,trivial⟩,⟨rfl,rfl,rfl,rfl,trivial⟩⟩
  ·obtain rfl:j=6:=by simp at hc;omega
   refine aM<|Xq<|Mv rfl<|Bnr rfl rfl (fun _=>ap _ _ _ (by unfold inI;omega))<|Mv rfl<|Ia ((i+6)) rfl rfl underlying137 sizeOf24<|aK 5 U64 hGF rfl rfl rfl sizeOf24 rfl (by rw[iy,fv];omega) rfl<|aa<|Xq<|Mv rfl<|Bnr rfl rfl (fun _=>ap _ _ _ (by unfold inI;omega))<|Asg rfl<|aa<|?_
   repeat (refine aJ ?_)
   exact aA<|⟨rfl,⟨i+1,by omega⟩,_,by show 6-(i+1)<6-i;omega,rfl,⟨rfl,rfl,rfl,rfl,rfl,trivial⟩,⟨rfl,rfl,rfl,rfl,trivial⟩⟩
 ·obtain rfl:i=6:=by simp at hc;omega
  refine aM<|Xp<|Lw 5 rfl rfl Am (fv _ _ _)<|Sw 4 hGF rfl rfl rfl Am (fv _ _ _)<|aa<|aq<|Rr<|?_
  exact aw 4 rfl rfl rfl isAgg137 sizeOf137 (by rw[List.length_map,fv]) (fun w hw=>⟨rfl,ac hw⟩)
end
section
open Go.RowKit
theorem eqg(op:BinOp)(x y:Operand)(xs ys:Array Value)(w:World):(eqGuard op 25 x y (.agg xs) (.agg ys)).run Tryz.prog w=.ok () w:=run_eqGuard_agg w op 25 x y xs ys (by kernel_rfl)
theorem Gm(op:BinOp)(x y:Operand)(xs ys:Array Value)(w:World):(eqGuard op 35 x y (.agg xs) (.agg ys)).run Tryz.prog w=.ok () w:=run_eqGuard_agg w op 35 x y xs ys (by kernel_rfl)
theorem eq23(xs ys:List (BitVec 64))(h:xs.length=6)(h':ys.length=6)(w:World):(binOp .eql 25 (.agg (xs.map U64).toArray) (.agg (ys.map U64).toArray)).run Tryz.prog w=.ok (.bool (decide (xs=ys))) w:=mT underlying25 underlying24 sizeOf24 isAgg24 xs ys h h' w
theorem Mc(xs ys:List (BitVec 64))(h:xs.length=6)(h':ys.length=6)(w:World):(binOp .eql 35 (.agg (xs.map U64).toArray) (.agg (ys.map U64).toArray)).run Tryz.prog w=.ok (.bool (decide (xs=ys))) w:=mT underlying35 underlying24 sizeOf24 isAgg24 xs ys h h' w
theorem bH{n:Nat}{b1:Nat}{c1:List Value}{t1:TypeId}: ∀i j b c t c' t',lkB [(n,b1,c1,t1)] i=some (b,c,t)→lkB [(n,b1,c1,t1)] j=some (b,c',t')→i=j:=by
 intro i j b c t c' t' h1 h2
 rcases aH h1 with ⟨e1,x1⟩|⟨_,h1⟩
 ·rcases aH h2 with ⟨e2,x2⟩|⟨_,h2⟩
  ·exact e1.trans e2.symm
  ·cases h2
 ·cases h1
theorem cf{J:(Nat→Prop)→World→Prop}(hr:Rides J){Y:Nat→Prop}{w:World}(h:J Y w):J (fun _=>False) w:=hr.less _ _ _ (fun _ h=>h.elim) h
theorem mq(a:List (BitVec 64))(top:BitVec 64)(m:List (BitVec 64))(ha:a.length=6)(hm:m.length=6):Pure Tryz.prog Gt 132 [.agg ((a).map U64).toArray,U64 top,.agg ((m).map U64).toArray] (.agg ((RED a top m).map U64).toArray):=by
 intro w hw
 refine Hf func132 rfl hw ?_
 intro hGF
 by_cases h1:top=0
 ·by_cases h2:(SS a m 6).2=1
  ·refine Xp<|Bx 3 hGF rfl<|fun b3=>Bx 5 hGF rfl<|fun b5=>Al 6 hGF zv25<|fun b6=>aa<|Xp<|Lw 3 rfl rfl bD ha<|Lw 5 rfl rfl bD hm<|Ca rfl (iF a m ha hm)<|Mv rfl<|Ext rfl rfl<|Ext rfl rfl<|Al 7 hGF zv25<|fun b7=>Sw 7 hGF rfl rfl rfl bD (aB _ _ _)<|Asg rfl<|aa<|ah<|Xp<|Mv rfl<|Bnr (v:=.bool true) rfl rfl (fun w=>(aY _ _ _).trans (congrArg (fun b=>Result.ok (Value.bool b) w) (beq_iff_eq.2 h1)))<|Mv rfl<|Mv rfl<|Bnr (v:=.bool true) rfl rfl (fun w=>(aY _ _ _).trans (congrArg (fun b=>Result.ok (Value.bool b) w) (beq_iff_eq.2 h2)))<|Pk rfl rfl rfl<|aa<|bf rfl<|Xp<|Lw 3 rfl rfl bD ha<|Sw 6 hGF rfl rfl rfl bD ha<|aa<|aq<|Rr<|?_
   exact aw 6 rfl rfl rfl isAgg25 sizeOf25 (by rw[List.length_map,ha]) (fun w hw=>⟨by rw[RED,if_pos (⟨h1,h2⟩)],ac hw⟩)
  ·refine Xp<|Bx 3 hGF rfl<|fun b3=>Bx 5 hGF rfl<|fun b5=>Al 6 hGF zv25<|fun b6=>aa<|Xp<|Lw 3 rfl rfl bD ha<|Lw 5 rfl rfl bD hm<|Ca rfl (iF a m ha hm)<|Mv rfl<|Ext rfl rfl<|Ext rfl rfl<|Al 7 hGF zv25<|fun b7=>Sw 7 hGF rfl rfl rfl bD (aB _ _ _)<|Asg rfl<|aa<|ah<|Xp<|Mv rfl<|Bnr (v:=.bool true) rfl rfl (fun w=>(aY _ _ _).trans (congrArg (fun b=>Result.ok (Value.bool b) w) (beq_iff_eq.2 h1)))<|Mv rfl<|Mv rfl<|Bnr (v:=.bool false) rfl rfl (fun w=>(aY _ _ _).trans (congrArg (fun b=>Result.ok (Value.bool b) w) (beq_eq_false_iff_ne.2 h2)))<|Pk rfl rfl rfl<|aa<|aV rfl<|au<|Xp<|Lw 7 rfl rfl bD (aB _ _ _)<|Sw 6 hGF rfl rfl rfl bD (aB _ _ _)<|aa<|aq<|Rr<|?_
   exact aw 6 rfl rfl rfl isAgg25 sizeOf25 (by rw[List.length_map,aB]) (fun w hw=>⟨by rw[RED,if_neg (fun h=>h2 h.2)],ac hw⟩)
 ·refine Xp<|Bx 3 hGF rfl<|fun b3=>Bx 5 hGF rfl<|fun b5=>Al 6 hGF zv25<|fun b6=>aa<|Xp<|Lw 3 rfl rfl bD ha<|Lw 5 rfl rfl bD hm<|Ca rfl (iF a m ha hm)<|Mv rfl<|Ext rfl rfl<|Ext rfl rfl<|Al 7 hGF zv25<|fun b7=>Sw 7 hGF rfl rfl rfl bD (aB _ _ _)<|Asg rfl<|aa<|ah<|Xp<|Mv rfl<|Bnr (v:=.bool false) rfl rfl (fun w=>(aY _ _ _).trans (congrArg (fun b=>Result.ok (Value.bool b) w) (beq_eq_false_iff_ne.2 h1)))<|Mv rfl<|Sk<|Sk<|Pk rfl rfl rfl<|aa<|aV rfl<|au<|Xp<|Lw 7 rfl rfl bD (aB _ _ _)<|Sw 6 hGF rfl rfl rfl bD (aB _ _ _)<|aa<|aq<|Rr<|?_
  exact aw 6 rfl rfl rfl isAgg25 sizeOf25 (by rw[List.length_map,aB]) (fun w hw=>⟨by rw[RED,if_neg (fun h=>h1 h.1)],ac hw⟩)
def ql(bb b:Nat)(a:List (BitVec 64))(n:Nat):Cls:=fun W=>W.cell? ⟨bb,0,none⟩=some (.slice (some ⟨b,0,none⟩) n n)∧W.rangeAt b 0 (a.map U64)
def DG(a:List (BitVec 64))(n:Nat):List (List Value):=(List.range (64*n)).map fun j=>[I ((64*n-1-j:Nat):Int),U64 (dig a (64*n-1-j))]
theorem ec(a:List (BitVec 64))(n:Nat):(DG a n).length=64*n:=by simp[DG]
theorem IB(a:List (BitVec 64))(n q s:Nat)(hq:q<n)(hs:s<64):(DG a n)[64*(n-(q+1))+(64-(s+1))]? =some [I ((64*q+s:Nat):Int),U64 (dig a (64*q+s))]:=by
 have h:64*(n-(q+1))+(64-(s+1))<64*n:=by omega
 rw[DG,List.getElem?_map,List.getElem?_range h]
 simp only[Option.map_some]
 rw[show 64*n-1-(64*(n-(q+1))+(64-(s+1)))=64*q+s by omega]
theorem KG(a:List (BitVec 64))(n k:Nat)(x:List Value)(h:(DG a n)[k]? =some x):k<64*n∧x=[I ((64*n-1-k:Nat):Int),U64 (dig a (64*n-1-k))]:=by
 have hk:k<64*n:=by
  rcases Nat.lt_or_ge k (64*n)with h'|h'
  ·exact h'
  ·rw[List.getElem?_eq_none (by rw[ec];exact h')]at h;cases h
 rw[DG,List.getElem?_map,List.getElem?_range hk]at h
 exact ⟨hk,(Option.some.inj h).symm⟩
theorem qh(sv:Value)(hs:sv.cells= #[sv])(w:World)(hw:Gt w):Calls Tryz.prog 161 [sv].toArray w (fun e w'=> ∃b1,e=.returned (.func (.func 176) #[] #[.pointer (some ⟨b1,0,none⟩)])∧Grow w w'∧w.heap.size≤b1∧OwnB w' b1 [sv] 153):=by
 refine Hf func161 rfl hw<|fun hGF=>Xp<|kv 1 hGF rfl rfl rfl<|fun b1=>Asg rfl<|aa<|Xp<|iY rfl rfl rfl rfl<|Asg rfl<|aa<|aq<|Rr<|?_
 exact aQ rfl rfl (fun w hw=>⟨b1,rfl,ac hw,(hw.own 1 b1 _ _ rfl).2.elim id False.elim,(by have:=(hw.own 1 b1 _ _ rfl).1;rw[hs]at this;exact this)⟩)
theorem tT(bb b:Nat)(a:List (BitVec 64))(n:Nat)(hn:n≤100)(ha:a.length=n):iI Tryz.prog Gt 176 [.pointer (some ⟨bb,0,none⟩)] (DG a n) (ql bb b a n):=by
 intro l J Jx hJ hJx hRd hGx hY w hj
 have okJ: ∀k,BOk Gt (Bi w (fun Y=>J Y k)):=fun k=>⟨fun _ _ _ h=>(hRd _ _ _ h.rid).1,hJ k⟩
 have okX: ∀k,BOk Gt (Bi w (fun Y=>Jx Y k)):=fun k=>⟨fun _ _ _ h=>hGx _ _ _ h.rid,hJx k⟩
 have c1: ∀k L w',Hp (Bi w (fun Y=>J Y k)) L w'→ql bb b a n w':=fun k L w' h=>(hRd _ _ _ h.rid).2
 refine cN (G:=Gt) func176 rfl rfl (Hp (Bi w (fun Y=>J Y 0)) []) (cP (Bi w _) hj (hJ 0)) (az (okJ 0))<|vK<|ah<|uI<|Xp<|bC rfl isAgg153 (fun w h=>(c1 _ _ w h).1) rfl rfl<|aZ rfl (fun _=>aC underlying153 _ _ _ _) rfl rfl<|Bnr rfl rfl (fun _=>aL _ _ _ (by unfold inI;omega))<|Asg rfl<|aa<|ai<|jk (ι:={i:Nat // i≤n}) (fun x=>[(0,.func (.yield l) #[] #[]),(1,.pointer (some ⟨bb,0,none⟩)),(3,I ((x.1:Int)-1))]) (fun x=>Bi w (fun Y=>J Y (64*(n-x.1)))) (fun x=>[]) (fun x=>x.1) ⟨n,Nat.le_refl _⟩ (fun _=>okJ _) (by rw[Nat.sub_self]) ⟨rfl,rfl,rfl,trivial⟩ trivial<|?_
 rintro ⟨i,hi⟩
 dsimp only
 refine ah<|Xp<|Mv rfl<|Bnr rfl rfl (fun _=>cS _ _ _)<|aa<|?_
 refine ba rfl (fun hc=> ?_) (fun hc=> ?_)
 ·simp only[decide_eq_true_eq]at hc
  obtain ⟨q,rfl⟩: ∃q,i=q+1:=⟨i-1,by omega⟩
  clear hc
  rw[show ((q+1:Nat):Int)-1=(q:Int) by omega]
  refine au<|ah<|ai<|Xp<|Asg rfl<|aa<|ai<|jk (ι:={r:Nat // r≤64}) (fun x=>[(0,.func (.yield l) #[] #[]),(1,.pointer (some ⟨bb,0,none⟩)),(3,I (q:Int)),(4,I ((x.1:Int)-1))]) (fun x=>Bi w (fun Y=>J Y (64*(n-(q+1))+(64-x.1)))) (fun x=>[]) (fun x=>x.1) ⟨64,Nat.le_refl _⟩ (fun _=>okJ _) rfl ⟨rfl,rfl,rfl,rfl,trivial⟩ trivial<|?_
  rintro ⟨r,hr⟩
  dsimp only
  refine ah<|Xp<|Mv rfl<|Bnr rfl rfl (fun _=>cS _ _ _)<|aa<|?_
  refine ba rfl (fun hc=> ?_) (fun hc=> ?_)
  ·simp only[decide_eq_true_eq]at hc
   obtain ⟨s,rfl⟩: ∃s,r=s+1:=⟨r-1,by omega⟩
   clear hc
   rw[show ((s+1:Nat):Int)-1=(s:Int) by omega]
   refine au<|ah<|ai<|Xp<|Mv rfl<|Mv rfl<|Bnr (v:=I ((64*q:Nat):Int)) rfl rfl (fun _=>(aT _ _ _ (by unfold inI;omega)).trans (by rw[show (64:Int)*(q:Int)=((64*q:Nat):Int) by omega]))<|Mv rfl<|Bnr (v:=I ((64*q+s:Nat):Int)) rfl rfl (fun _=>(ap _ _ _ (by unfold inI;omega)).trans (by rw[show ((64*q:Nat):Int)+(s:Int)=((64*q+s:Nat):Int) by omega]))<|bC rfl isAgg153 (fun w h=>(c1 _ _ w h).1) rfl rfl<|Mv rfl<|yF q rfl rfl underlying153 sizeOf24 (by omega) (by omega) rfl rfl<|bC rfl isAgg24 (fun w h=>(c1 _ _ w h).2 q _ (gm U64 a 0 q (by omega))) rfl rfl<|Mv rfl<|Bnr rfl rfl (fun _=>cy _ _ _ (by omega))<|Bnr (v:=U64 (dig a (64*q+s))) rfl rfl (fun _=>(dp _ _ _).trans (by rw[←G4 a q s (by omega)];rfl))<|?_
   refine eB (hY.b (k:=64*(n-(q+1))+(64-(s+1))) (IB a n q s (by omega) (by omega)) w) (okJ _) (okX _) rfl rfl rfl rfl rfl ?_ ?_
   ·refine bT rfl (fun _=>bI _) rfl rfl<|aa<|aV rfl<|au<|Xq<|Mv rfl<|Bnr rfl rfl (fun _=>aL _ _ _ (by unfold inI;omega))<|Asg rfl<|aa<|?_
    rw[show 64*(n-(q+1))+(64-(s+1))+1=64*(n-(q+1))+(64-s) by omega]
    repeat (refine aJ ?_)
    exact aA<|⟨rfl,⟨s,by omega⟩,_,by show s<s+1;omega,rfl,⟨rfl,rfl,rfl,rfl,trivial⟩,trivial⟩
   ·refine bT rfl (fun _=>bI _) rfl rfl<|aa<|bf rfl<|aM<|?_
    repeat (first|refine eV ?_|refine dw ?_|refine fP rfl ?_)
    exact Ft<|cT rfl (fun w hw=>⟨⟨_,rfl⟩,.inr ⟨_,cf (hJx _) hw.rid⟩⟩)
  ·simp only[decide_eq_false_iff_not]at hc
   obtain rfl:r=0:=by omega
   clear hc
   rw[show 64*(n-(q+1))+(64-0)=64*(n-q) by omega]
   refine aM<|Xq<|Mv rfl<|Bnr rfl rfl (fun _=>aL _ _ _ (by unfold inI;omega))<|Asg rfl<|aa<|?_
   repeat (refine aJ ?_)
   exact aA<|⟨rfl,⟨q,by omega⟩,_,by show q<q+1;omega,rfl,⟨rfl,rfl,rfl,trivial⟩,trivial⟩
 ·simp only[decide_eq_false_iff_not]at hc
  obtain rfl:i=0:=by omega
  refine aM ?_
  repeat (first|refine eV ?_|refine dw ?_|refine fP rfl ?_)
  refine Ft ?_
  refine cT rfl (fun w hw=>⟨⟨_,rfl⟩,.inl ?_⟩)
  have:=cf (hJ _) hw.rid
  rw[ec]
  exact this
end
section
open Go.RowKit
theorem zf(t m:List (BitVec 64))(ht:t.length=12)(hm:m.length=6):Pure Tryz.prog Gt 129 [.agg ((t).map U64).toArray,.agg ((m).map U64).toArray] (.agg ((MOD t m).map U64).toArray):=by
 intro w hw
 have hGF:BOk Gt (pl w):=gt_low.plain hw
 refine el (G:=Gt) func129 rfl rfl (Hp (pl w) []) (cP (pl w) trivial ao) (az hGF)<|ae (E:=EE [161])<|Bx 2 hGF rfl<|fun b2=>Bx 3 hGF rfl<|fun b3=>Al 4 hGF zv25<|fun b4=>aa<|ae (E:=EE [161])<|Al 5 hGF zv25<|fun b5=>aa<|ah<|ae (E:=EE [161])<|Lw 3 rfl rfl bD hm<|Lw 5 rfl rfl bD List.length_replicate<|bO rfl rfl (fun w=>eqg _ _ _ _ _ w) (fun w=>eq23 m (List.replicate 6 0) hm rfl w) rfl rfl<|aa<|?_
 refine ba rfl (fun hc=> ?_) (fun hc=> ?_)
 ·simp only[decide_eq_true_eq]at hc
  refine ae (E:=EE [161])<|Lw 5 rfl rfl bD List.length_replicate<|aF 4 hGF rfl rfl rfl sizeOf25 (by simp) (by rw[List.length_map,List.length_replicate]) (bq _) rfl<|aa<|aq<|Rr<|?_
  exact CH (.inl rfl) (aw 4 rfl rfl rfl isAgg25 sizeOf25 (by rw[List.length_map,List.length_replicate]) (fun w hw=>⟨by rw[MOD,if_pos hc];rfl,ac hw⟩))
 ·simp only[decide_eq_false_iff_not]at hc
  refine au<|ah<|ae (E:=EE [161])<|ci (l:=0) (h':=12) rfl underlying137 sizeOf24 rfl rfl (by omega) (by omega) rfl rfl<|?_
  refine gq rfl rfl ent161 rfl rfl (fun w' hw'=>(qh _ rfl w' (hGF.g _ _ _ hw')).mono fun e w'' h=> ?_)
  obtain ⟨c1,rfl,hg,h1,ho⟩:=h
  refine ⟨_,_,rfl,az hGF,hw'.news ao hg [(33,c1,[.slice (some ⟨b2,0,none⟩) 12 12],153)] ?_ bH, ?_⟩
  ·intro n' b' c' t' hl
   rcases aH hl with ⟨_,e⟩|⟨_,hl⟩
   ·cases e;exact ⟨h1,ho⟩
   ·cases hl
  clear hw' hg h1 ho
  refine aa<|ai<|?_
  refine iS (fun _=>pl w) (fun _ _=>pl w) (fun _=>hGF) (fun _ _=>hGF) (fun _=>rfl) (fun _ _=>rfl) rfl rfl ent176 (tT c1 b2 t 12 (by decide) ht) (fun x hx=>by obtain ⟨k,hk,rfl⟩:=List.mem_map.1 hx;rfl) rfl (fun k=>[(2,b2,t.map U64,137),(3,b3,m.map U64,25),(4,b4,(List.replicate 6 0#64).map U64,25),(5,b5,(MDs t m k).map U64,25),(33,c1,[.slice (some ⟨b2,0,none⟩) 12 12],153)]) (fun _ _ _=>False) ⟨rfl,rfl,rfl,rfl,rfl,trivial⟩ (fun k _ w' h=>⟨cg (n:=33) rfl rfl w' h,aU (n:=2) rfl w' h⟩) ?_ ?_ (fun _ _ _ _ _ h=>h.elim)
  ·intro k x hx R hR
   obtain ⟨hk,rfl⟩:=KG t 12 k x hx
   rw[show 64*12-1-k=767-k from rfl]
   refine bM (E:=EE [161])<|Asg rfl<|aa<|?_
   refine ⟨rfl,_,rfl, ?_⟩
   exact ai<|ae (E:=EE [161])<|Lw 5 rfl rfl bD (bN _ _ _)<|Lw 5 rfl rfl bD (bN _ _ _)<|Ca rfl (mi _ _ (bN t m _) (bN t m _))<|Mv rfl<|Ext rfl rfl<|Ext rfl rfl<|eM 8 (hR (pl w) rfl hGF).2.1 zv25 rfl rfl<|fun b8=>aF 8 (hR (pl w) rfl hGF).2.1 rfl rfl rfl sizeOf25 (by rw[List.length_map,aI]) (by rw[List.length_map,List.length_replicate]) (bq _) rfl<|Asg rfl<|aa<|ae (E:=EE [161])<|Ia (0) rfl rfl underlying25 sizeOf24<|Lm 8 U64 0 rfl rfl isAgg24 (by rw[aI];omega)<|Mv rfl<|Bnr rfl rfl (fun _=>dr _ _ _)<|Ia (0) rfl rfl underlying25 sizeOf24<|aK 8 U64 (hR (pl w) rfl hGF).2.1 rfl rfl rfl sizeOf24 rfl (by rw[aI];omega) rfl<|aa<|bM (E:=EE [161])<|cC 8 rfl rfl isAgg25 sizeOf25 (by rw[List.length_map,List.length_set,aI]) rfl rfl<|Mv rfl<|Lw 3 rfl rfl bD hm<|Ca rfl (mq _ _ _ (lX _ _) hm)<|aF 5 (hR (pl w) rfl hGF).2.1 rfl rfl rfl sizeOf25 (by rw[List.length_map];exact gU _ _ _ (lX _ _)) (by rw[List.length_map,bN]) (bq _) rfl<|aa<|⟨_,rfl,⟨rfl,rfl,rfl,rfl,rfl,trivial⟩⟩
  ·intro D hD
   rw[ec]
   refine ae (E:=EE [161])<|Lw 5 rfl rfl bD (bN _ _ _)<|Sw 4 hD rfl rfl rfl bD (bN _ _ _)<|aa<|aq<|Rr<|?_
   exact i4 (.inl rfl) ao (aw 4 rfl rfl rfl isAgg25 sizeOf25 (by rw[List.length_map,bN]) (fun w hw=>⟨by rw[MOD,if_neg hc],ac hw⟩))
theorem xe(t m:List (BitVec 64))(ht:t.length=12)(hm:m.length=6):Pure Tryz.prog Gt 106 [.agg ((t).map U64).toArray,.agg ((m).map U64).toArray] (.agg ((MOD t m).map U64).toArray):=by
 intro w hw
 refine Hf func106 rfl hw<|fun hGF=>Xp<|Bx 2 hGF rfl<|fun b2=>Bx 3 hGF rfl<|fun b3=>Al 4 hGF zv35<|fun b4=>aa<|Xp<|Al 5 hGF zv35<|fun b5=>aa<|ah<|Xp<|Lw 3 rfl rfl bu hm<|eS zv35 underlying35 sizeOf24 rfl rfl<|bO rfl rfl (fun w=>Gm _ _ _ _ _ w) (fun w=>Mc m (List.replicate 6 0) hm rfl w) rfl rfl<|aa<|?_
 refine ba rfl (fun hc=> ?_) (fun hc=> ?_)
 ·simp only[decide_eq_true_eq]at hc
  have hz:=hc
  refine Xp<|Lw 5 rfl rfl bu List.length_replicate<|Sw 4 hGF rfl rfl rfl bu List.length_replicate<|aa<|aq<|Rr<|?_
  exact aw 4 rfl rfl rfl isAgg35 sizeOf35 (by rw[List.length_map,List.length_replicate]) (fun w hw=>⟨by rw[MOD,if_pos hz];rfl,ac hw⟩)
 ·simp only[decide_eq_false_iff_not]at hc
  have hz:=hc
  refine au<|ah<|Xp<|Asg rfl<|aa<|ai<|bg (ι:={i:Nat // i≤768}) (fun x=>[(2,.pointer (some ⟨b2,0,none⟩)),(3,.pointer (some ⟨b3,0,none⟩)),(4,.pointer (some ⟨b4,0,none⟩)),(5,.pointer (some ⟨b5,0,none⟩)),(6,I (((768-x.1:Nat):Int)-1))]) (fun x=>[(2,b2,t.map U64,137),(3,b3,m.map U64,35),(4,b4,(List.replicate 6 0#64).map U64,35),(5,b5,(MDs t m x.1).map U64,35)]) (fun x=>768-x.1) ⟨0,by omega⟩ hGF ⟨rfl,rfl,rfl,rfl,rfl,trivial⟩ ⟨rfl,rfl,rfl,rfl,trivial⟩<|?_
  rintro ⟨j,hj⟩
  dsimp only
  refine ah<|Xp<|Mv rfl<|Bnr rfl rfl (fun _=>cS _ _ _)<|aa<|?_
  refine ba rfl (fun hc=> ?_) (fun hc=> ?_)
  ·simp only[decide_eq_true_eq]at hc
   rw[show ((768-j:Nat):Int)-1=((767-j:Nat):Int) by omega]
   refine au<|ah<|ai<|Xp<|Ia (5) rfl rfl underlying35 sizeOf24<|Lm 5 U64 0 rfl rfl isAgg24 (by rw[bN];omega)<|Bnr rfl rfl (fun _=>cz _ _ _)<|Asg rfl<|aa<|ah<|Xp<|Asg rfl<|aa<|ai<|bg (ι:={i:Nat // i≤5}) (fun x=>[(2,.pointer (some ⟨b2,0,none⟩)),(3,.pointer (some ⟨b3,0,none⟩)),(4,.pointer (some ⟨b4,0,none⟩)),(5,.pointer (some ⟨b5,0,none⟩)),(6,I ((767-j:Nat):Int)),(7,U64 ((MDs t m j).getD 5 0>>>63)),(8,I ((5-x.1:Nat):Int))]) (fun x=>[(2,b2,t.map U64,137),(3,b3,m.map U64,35),(4,b4,(List.replicate 6 0#64).map U64,35),(5,b5,(SHs (MDs t m j) x.1).map U64,35)]) (fun x=>5-x.1) ⟨0,by omega⟩ hGF ⟨rfl,rfl,rfl,rfl,rfl,rfl,rfl,trivial⟩ ⟨rfl,rfl,rfl,rfl,trivial⟩<|?_
   rintro ⟨s,hs⟩
   dsimp only
   refine ah<|Xp<|Mv rfl<|Bnr rfl rfl (fun _=>aP _ _ _)<|aa<|?_
   refine ba rfl (fun hc=> ?_) (fun hc=> ?_)
   ·simp only[decide_eq_true_eq]at hc
    refine au<|ah<|ai<|Xe []<|Mv rfl<|Mv rfl<|Ia ((5-s)) rfl rfl underlying35 sizeOf24<|Lm 5 U64 0 rfl rfl isAgg24 (by rw[d7 _ (bN t m j)];omega)<|Bnr rfl rfl (fun _=>fo _ _ _)<|Mv rfl<|Bnr (v:=I ((4-s:Nat):Int)) rfl rfl (fun _=>(aL _ _ _ (by unfold inI;omega)).trans (by rw[show (((5-s:Nat):Int)-1)=((4-s:Nat):Int) by omega]))<|Ia ((4-s)) rfl rfl underlying35 sizeOf24<|Lm 5 U64 0 rfl rfl isAgg24 (by rw[d7 _ (bN t m j)];omega)<|Bnr rfl rfl (fun _=>cz _ _ _)<|Bnr rfl rfl (fun _=>dr _ _ _)<|Ia ((5-s)) rfl rfl underlying35 sizeOf24<|aK 5 U64 hGF rfl rfl rfl sizeOf24 rfl (by rw[d7 _ (bN t m j)];omega) rfl<|aa<|Xq<|Mv rfl<|Bnr (v:=I ((5-(s+1):Nat):Int)) rfl rfl (fun _=>(aL _ _ _ (by unfold inI;omega)).trans (by rw[show (((5-s:Nat):Int)-1)=((5-(s+1):Nat):Int) by omega]))<|Asg rfl<|aa<|?_
    repeat (refine aJ ?_)
    exact aA<|⟨rfl,⟨s+1,by omega⟩,_,by show 5-(s+1)<5-s;omega,rfl,⟨rfl,rfl,rfl,rfl,rfl,rfl,rfl,trivial⟩,⟨rfl,rfl,rfl,rfl,trivial⟩⟩
   ·simp only[decide_eq_false_iff_not]at hc
    obtain rfl:s=5:=by omega
    refine aM<|Xd []<|Ia (0) rfl rfl underlying35 sizeOf24<|Lm 5 U64 0 rfl rfl isAgg24 (by rw[d7 _ (bN t m j)];omega)<|Bnr rfl rfl (fun _=>fo _ _ _)<|Mv rfl<|Bnr (v:=I (((767-j) / 64:Nat):Int)) rfl rfl (fun _=>dS _ _ _ (by decide) (show inI (((767-j) / 64:Nat):Int) by unfold inI;omega))<|Ia (((767-j) / 64)) rfl rfl underlying137 sizeOf24<|Lm 2 U64 0 rfl rfl isAgg24 (by rw[ht];omega)<|Mv rfl<|Bnr (v:=I (((767-j) % 64:Nat):Int)) rfl rfl (fun _=>cV _ _ _ (by decide))<|Bnr (v:=U64 (t.getD ((767-j) / 64) 0>>>((767-j) % 64))) rfl rfl (fun _=>cy _ _ _ (by omega))<|Bnr (v:=U64 (dig t (767-j))) rfl rfl (fun _=>dp _ _ _)<|Bnr rfl rfl (fun _=>dr _ _ _)<|Ia (0) rfl rfl underlying35 sizeOf24<|aK 5 U64 hGF rfl rfl rfl sizeOf24 rfl (by rw[d7 _ (bN t m j)];omega) rfl<|aa<|Xp<|cC 5 rfl rfl isAgg35 sizeOf35 (by rw[List.length_map,List.length_set,d7 _ (bN t m j)]) rfl rfl<|Lw 3 rfl rfl bu hm<|Ca rfl (cQ _ _ (sC _ _ (bN t m j)) hm)<|Mv rfl<|Ext rfl rfl<|Ext rfl rfl<|Al 9 hGF zv35<|fun b9=>Sw 9 hGF rfl rfl rfl bu (aB _ _ _)<|Asg rfl<|aa<|Xp<|Mv rfl<|?_
    rcases Decidable.em ((MDs t m j).getD 5 0>>>63=1)with ht1|ht1
    ·refine Bnr (v:=.bool true) rfl rfl (fun w=>(aY _ _ _).trans (congrArg (fun b=>Result.ok (Value.bool b) w) (beq_iff_eq.2 ht1)))<|Mv rfl<|Sk<|Sk<|Pk rfl rfl rfl<|aa<|bf rfl<|Xq<|Lw 9 rfl rfl bu (aB _ _ _)<|aF 5 hGF rfl rfl rfl sizeOf35 (by rw[List.length_map,aB _ _ _]) (by rw[List.length_map,List.length_set,d7 _ (bN t m j)]) (bq _) rfl<|aa<|Xq<|Mv rfl<|bO (v:=I (((768-(j+1):Nat):Int)-1)) rfl rfl (fun _=>rfl) (fun _=>(aL _ _ _ (by unfold inI;omega)).trans (by rw[show (((767-j:Nat):Int)-1)=((768-(j+1):Nat):Int)-1 by omega])) rfl rfl<|Asg rfl<|aa<|?_
     repeat (refine aJ ?_)
     exact aA<|⟨rfl,⟨j+1,by omega⟩,_,by show 768-(j+1)<768-j;omega,rfl,⟨rfl,rfl,rfl,rfl,rfl,trivial⟩,⟨rfl,rfl,rfl,by rw[qW t m j (.inl ht1)];rfl,trivial⟩⟩
    ·refine Bnr (v:=.bool false) rfl rfl (fun w=>(aY _ _ _).trans (congrArg (fun b=>Result.ok (Value.bool b) w) (beq_eq_false_iff_ne.2 ht1))) ?_
     rcases Decidable.em ((SS (RN (MDs t m j) (dig t (767-j))) m 6).2=0)with ht2|ht2
     ·refine Mv rfl<|Mv rfl<|Bnr (v:=.bool true) rfl rfl (fun w=>(aY _ _ _).trans (congrArg (fun b=>Result.ok (Value.bool b) w) (beq_iff_eq.2 ht2)))<|Pk rfl rfl rfl<|aa<|bf rfl<|Xq<|Lw 9 rfl rfl bu (aB _ _ _)<|aF 5 hGF rfl rfl rfl sizeOf35 (by rw[List.length_map,aB _ _ _]) (by rw[List.length_map,List.length_set,d7 _ (bN t m j)]) (bq _) rfl<|aa<|Xq<|Mv rfl<|bO (v:=I (((768-(j+1):Nat):Int)-1)) rfl rfl (fun _=>rfl) (fun _=>(aL _ _ _ (by unfold inI;omega)).trans (by rw[show (((767-j:Nat):Int)-1)=((768-(j+1):Nat):Int)-1 by omega])) rfl rfl<|Asg rfl<|aa<|?_
      repeat (refine aJ ?_)
      exact aA<|⟨rfl,⟨j+1,by omega⟩,_,by show 768-(j+1)<768-j;omega,rfl,⟨rfl,rfl,rfl,rfl,rfl,trivial⟩,⟨rfl,rfl,rfl,by rw[qW t m j (.inr ht2)];rfl,trivial⟩⟩
     ·refine Mv rfl<|Mv rfl<|Bnr (v:=.bool false) rfl rfl (fun w=>(aY _ _ _).trans (congrArg (fun b=>Result.ok (Value.bool b) w) (beq_eq_false_iff_ne.2 ht2)))<|Pk rfl rfl rfl<|aa<|aV rfl<|au<|Xq<|Mv rfl<|bO (v:=I (((768-(j+1):Nat):Int)-1)) rfl rfl (fun _=>rfl) (fun _=>(aL _ _ _ (by unfold inI;omega)).trans (by rw[show (((767-j:Nat):Int)-1)=((768-(j+1):Nat):Int)-1 by omega])) rfl rfl<|Asg rfl<|aa<|?_
      repeat (refine aJ ?_)
      exact aA<|⟨rfl,⟨j+1,by omega⟩,_,by show 768-(j+1)<768-j;omega,rfl,⟨rfl,rfl,rfl,rfl,rfl,trivial⟩,⟨rfl,rfl,rfl,by rw[w8 t m j ht1 ht2];rfl,trivial⟩⟩
  ·simp only[decide_eq_false_iff_not]at hc
   obtain rfl:j=768:=by omega
   refine aM<|Xp<|Lw 5 rfl rfl bu (bN _ _ _)<|Sw 4 hGF rfl rfl rfl bu (bN _ _ _)<|aa<|aq<|Rr<|?_
   exact aw 4 rfl rfl rfl isAgg35 sizeOf35 (by rw[List.length_map,bN]) (fun w hw=>⟨by rw[MOD,if_neg hz],ac hw⟩)
end
section
open Go.RowKit
theorem sM(a:Option Addr)(cap:Nat)(bs:List (BitVec 8))(w:World)(hw:Gt w)(hby:BytesAt w a bs):
 Calls Tryz.prog 39 [.slice a bs.length cap].toArray w (fun e w'=>e=.returned (if 48<bs.length then .tuple #[.agg ((List.replicate 6 0#64).map U64).toArray,.bool false]else .tuple #[.agg ((FRs bs bs.length).map U64).toArray,.bool true])∧Grow w w'):=by
 refine Hf func39 rfl hw ?_
 intro hGF
 by_cases hA:48<bs.length
 ·refine Xp<|Al 2 hGF zv25<|fun b2=>Asg rfl<|aa<|Xp<|Al 4 hGF zv25<|fun b4=>aa<|ah<|Xp<|Mv rfl<|aZ rfl (fun _=>aC underlying22 _ _ _ _) rfl rfl<|Bnr (v:=.bool true) rfl rfl (fun _=>(aP _ _ _).trans (by rw[decide_eq_true (by omega:((bs.length:Int)>48))]))<|aa<|bf rfl<|Xp<|Lw 4 rfl rfl bD List.length_replicate<|Sw 2 hGF rfl rfl rfl bD List.length_replicate<|Asg rfl<|aa<|aq<|Rr<|?_
  exact bG 2 rfl rfl rfl rfl isAgg25 sizeOf25 (by rw[List.length_map,List.length_replicate]) (fun w hw=>⟨by rw[if_pos hA];rfl,ac hw⟩)
 ·refine Xp<|Al 2 hGF zv25<|fun b2=>Asg rfl<|aa<|Xp<|Al 4 hGF zv25<|fun b4=>aa<|ah<|Xp<|Mv rfl<|aZ rfl (fun _=>aC underlying22 _ _ _ _) rfl rfl<|Bnr (v:=.bool false) rfl rfl (fun _=>(aP _ _ _).trans (by rw[decide_eq_false (by omega: ¬((bs.length:Int)>48))]))<|aa<|aV rfl<|au<|ah<|Xp<|Mv rfl<|aZ rfl (fun _=>aC underlying22 _ _ _ _) rfl rfl<|Mv rfl<|aa<|ai<|bg (ι:={i:Nat // i≤bs.length}) (fun x=>[(0,.slice a bs.length cap),(2,.pointer (some ⟨b2,0,none⟩)),(4,.pointer (some ⟨b4,0,none⟩)),(12,.slice a bs.length cap),(13,I (bs.length:Int)),(14,I (x.1:Int))]) (fun x=>[(2,b2,(List.replicate 6 0#64).map U64,25),(4,b4,(FRs bs x.1).map U64,25)]) (fun x=>bs.length-x.1) ⟨0,by omega⟩ hGF ⟨rfl,rfl,rfl,rfl,rfl,rfl,trivial⟩ ⟨rfl,rfl,trivial⟩<|?_
  rintro ⟨i,hi⟩
  dsimp only
  refine Xp<|Bnr rfl rfl (fun _=>av _ _ _)<|aa<|ah<|?_
  refine ba rfl (fun hc=> ?_) (fun hc=> ?_)
  ·simp only[decide_eq_true_eq]at hc
   refine au<|ah<|ai<|Xp<|Mv rfl<|?_
   obtain ⟨ad,rfl,_⟩:=hby i _ (gm U8 bs 0 i (by omega))
   refine iN i rfl rfl underlying22 sizeOf5 rfl (by omega) rfl rfl<|bC rfl isAgg5 (fun w' h=>by obtain ⟨ad',e,hc⟩:=(hby.grow (ac h)) i _ (gm U8 bs 0 i (by omega));cases e;exact hc) rfl rfl<|Asg rfl<|Asg rfl<|aa<|Xp<|Mv rfl<|aZ rfl (fun _=>aC underlying22 _ _ _ _) rfl rfl<|Bnr (v:=I ((bs.length:Int)-1)) rfl rfl (fun _=>aL _ _ _ (by unfold inI;omega))<|Mv rfl<|Bnr (v:=I ((bs.length-1-i:Nat):Int)) rfl rfl (fun _=>(aL _ _ _ (by unfold inI;omega)).trans (by rw[show ((bs.length:Int)-1-(i:Int))=((bs.length-1-i:Nat):Int) by omega]))<|Asg rfl<|aa<|Xe []<|Mv rfl<|Bnr (v:=I (((bs.length-1-i) / 8:Nat):Int)) rfl rfl (fun _=>dS _ _ _ (by decide) (show inI (((bs.length-1-i) / 8:Nat):Int) by unfold inI;omega))<|Ia (((bs.length-1-i) / 8)) rfl rfl underlying25 sizeOf24<|Lm 4 U64 0 rfl rfl isAgg24 (by rw[aX];omega)<|Mv rfl<|bt rfl rfl (fun _=>ii underlying5 underlying24 _) rfl rfl<|Mv rfl<|Bnr (v:=I (((bs.length-1-i) % 8:Nat):Int)) rfl rfl (fun _=>cV _ _ _ (by decide))<|bO (v:=I ((8*((bs.length-1-i) % 8):Nat):Int)) rfl rfl (fun _=>rfl) (fun _=>(aT _ _ _ (by unfold inI;omega)).trans (by rw[show (8:Int)*(((bs.length-1-i) % 8:Nat):Int)=((8*((bs.length-1-i) % 8):Nat):Int) by omega])) rfl rfl<|bO (v:=U64 ((bs.getD i 0).setWidth 64<<<(8*((bs.length-1-i) % 8)))) rfl rfl (fun _=>rfl) (fun _=>i7 _ _ _ (by omega)) rfl rfl<|Bnr rfl rfl (fun _=>dr _ _ _)<|Ia (((bs.length-1-i) / 8)) rfl rfl underlying25 sizeOf24<|aK 4 U64 hGF rfl rfl rfl sizeOf24 rfl (by rw[aX];omega) rfl<|aa<|Xq<|Bnr rfl rfl (fun _=>ap _ _ _ (by unfold inI;omega))<|Mv rfl<|aa<|?_
   repeat (refine aJ ?_)
   exact aA<|⟨rfl,⟨i+1,by omega⟩,_,by show bs.length-(i+1)<bs.length-i;omega,rfl,⟨rfl,rfl,rfl,rfl,rfl,rfl,trivial⟩,⟨rfl,rfl,trivial⟩⟩
  ·obtain rfl:i=bs.length:=by simp at hc;omega
   refine aM<|Xp<|Lw 4 rfl rfl bD (aX _ _)<|Sw 2 hGF rfl rfl rfl bD (aX _ _)<|Asg rfl<|aa<|aq<|Rr<|?_
   exact bG 2 rfl rfl rfl rfl isAgg25 sizeOf25 (by rw[List.length_map,aX]) (fun w hw=>⟨by rw[if_neg hA];rfl,ac hw⟩)
theorem rx(a:Option Addr)(cap:Nat)(bs:List (BitVec 8))(w:World)(hw:Gt w)(hby:BytesAt w a bs):
 Calls Tryz.prog 124 [.slice a bs.length cap].toArray w (fun e w'=>e=.returned (if 48<bs.length then .tuple #[.agg ((List.replicate 6 0#64).map U64).toArray,.bool false]else .tuple #[.agg ((FRs bs bs.length).map U64).toArray,.bool true])∧Grow w w'):=by
 refine Hf func124 rfl hw ?_
 intro hGF
 by_cases hA:48<bs.length
 ·refine Xp<|Al 2 hGF zv35<|fun b2=>Asg rfl<|aa<|ah<|Xp<|Mv rfl<|aZ rfl (fun _=>aC underlying22 _ _ _ _) rfl rfl<|Bnr (v:=.bool true) rfl rfl (fun _=>(aP _ _ _).trans (by rw[decide_eq_true (by omega:((bs.length:Int)>48))]))<|aa<|bf rfl<|Xp<|eS zv35 underlying35 sizeOf24 rfl rfl<|Sw 2 hGF rfl rfl rfl bu List.length_replicate<|Asg rfl<|aa<|aq<|Rr<|?_
  exact bG 2 rfl rfl rfl rfl isAgg35 sizeOf35 (by rw[List.length_map,List.length_replicate]) (fun w hw=>⟨by rw[if_pos hA];rfl,ac hw⟩)
 ·refine Xp<|Al 2 hGF zv35<|fun b2=>Asg rfl<|aa<|ah<|Xp<|Mv rfl<|aZ rfl (fun _=>aC underlying22 _ _ _ _) rfl rfl<|Bnr (v:=.bool false) rfl rfl (fun _=>(aP _ _ _).trans (by rw[decide_eq_false (by omega: ¬((bs.length:Int)>48))]))<|aa<|aV rfl<|au<|Xp<|Al 4 hGF zv35<|fun b4=>aa<|ah<|Xp<|Asg rfl<|aa<|ai<|bg (ι:={i:Nat // i≤bs.length}) (fun x=>[(0,.slice a bs.length cap),(2,.pointer (some ⟨b2,0,none⟩)),(4,.pointer (some ⟨b4,0,none⟩)),(5,I (x.1:Int))]) (fun x=>[(2,b2,(List.replicate 6 0#64).map U64,35),(4,b4,(FRs bs x.1).map U64,35)]) (fun x=>bs.length-x.1) ⟨0,by omega⟩ hGF ⟨rfl,rfl,rfl,rfl,trivial⟩ ⟨rfl,rfl,trivial⟩<|?_
  rintro ⟨i,hi⟩
  dsimp only
  refine ah<|Xp<|Mv rfl<|Mv rfl<|aZ rfl (fun _=>aC underlying22 _ _ _ _) rfl rfl<|Bnr rfl rfl (fun _=>av _ _ _)<|aa<|?_
  refine ba rfl (fun hc=> ?_) (fun hc=> ?_)
  ·simp only[decide_eq_true_eq]at hc
   refine au<|ah<|ai<|Xp<|Mv rfl<|aZ rfl (fun _=>aC underlying22 _ _ _ _) rfl rfl<|Bnr (v:=I ((bs.length:Int)-1)) rfl rfl (fun _=>aL _ _ _ (by unfold inI;omega))<|Mv rfl<|Bnr (v:=I ((bs.length-1-i:Nat):Int)) rfl rfl (fun _=>(aL _ _ _ (by unfold inI;omega)).trans (by rw[show ((bs.length:Int)-1-(i:Int))=((bs.length-1-i:Nat):Int) by omega]))<|Asg rfl<|aa<|Xe []<|Mv rfl<|Bnr (v:=I (((bs.length-1-i) / 8:Nat):Int)) rfl rfl (fun _=>dS _ _ _ (by decide) (show inI (((bs.length-1-i) / 8:Nat):Int) by unfold inI;omega))<|Ia (((bs.length-1-i) / 8)) rfl rfl underlying35 sizeOf24<|Lm 4 U64 0 rfl rfl isAgg24 (by rw[aX];omega)<|Mv rfl<|Mv rfl<|?_
   obtain ⟨ad,rfl,_⟩:=hby i _ (gm U8 bs 0 i (by omega))
   refine iN i rfl rfl underlying22 sizeOf5 rfl (by omega) rfl rfl<|bC rfl isAgg5 (fun w' h=>by obtain ⟨ad',e,hc⟩:=(hby.grow (ac h)) i _ (gm U8 bs 0 i (by omega));cases e;exact hc) rfl rfl<|bt rfl rfl (fun _=>ii underlying5 underlying24 _) rfl rfl<|Mv rfl<|Bnr (v:=I (((bs.length-1-i) % 8:Nat):Int)) rfl rfl (fun _=>cV _ _ _ (by decide))<|bO (v:=I ((8*((bs.length-1-i) % 8):Nat):Int)) rfl rfl (fun _=>rfl) (fun _=>(aT _ _ _ (by unfold inI;omega)).trans (by rw[show (8:Int)*(((bs.length-1-i) % 8:Nat):Int)=((8*((bs.length-1-i) % 8):Nat):Int) by omega])) rfl rfl<|bO (v:=U64 ((bs.getD i 0).setWidth 64<<<(8*((bs.length-1-i) % 8)))) rfl rfl (fun _=>rfl) (fun _=>i7 _ _ _ (by omega)) rfl rfl<|Bnr rfl rfl (fun _=>dr _ _ _)<|Ia (((bs.length-1-i) / 8)) rfl rfl underlying35 sizeOf24<|aK 4 U64 hGF rfl rfl rfl sizeOf24 rfl (by rw[aX];omega) rfl<|aa<|Xq<|Mv rfl<|Bnr rfl rfl (fun _=>ap _ _ _ (by unfold inI;omega))<|Asg rfl<|aa<|?_
   repeat (refine aJ ?_)
   exact aA<|⟨rfl,⟨i+1,by omega⟩,_,by show bs.length-(i+1)<bs.length-i;omega,rfl,⟨rfl,rfl,rfl,rfl,trivial⟩,⟨rfl,rfl,trivial⟩⟩
  ·obtain rfl:i=bs.length:=by simp at hc;omega
   refine aM<|Xp<|Lw 4 rfl rfl bu (aX _ _)<|Sw 2 hGF rfl rfl rfl bu (aX _ _)<|Asg rfl<|aa<|aq<|Rr<|?_
   exact bG 2 rfl rfl rfl rfl isAgg35 sizeOf35 (by rw[List.length_map,aX]) (fun w hw=>⟨by rw[if_neg hA];rfl,ac hw⟩)
theorem jF(a:List (BitVec 64))(ha:a.length=6):Pure Tryz.prog Gt 54 [.agg ((a).map U64).toArray] (.agg ((BYs a 48).map U8).toArray):=by
 intro w hw
 refine Hf func54 rfl hw<|fun hGF=>Xp<|Bx 1 hGF rfl<|fun b1=>Al 2 hGF zv60<|fun b2=>aa<|Xp<|Al 3 hGF zv60<|fun b3=>aa<|ah<|Xp<|Mv rfl<|aa<|ai<|bg (ι:={i:Nat // i≤48}) (fun x=>[(1,.pointer (some ⟨b1,0,none⟩)),(2,.pointer (some ⟨b2,0,none⟩)),(3,.pointer (some ⟨b3,0,none⟩)),(6,I (x.1:Int))]) (fun x=>[(1,b1,a.map U64,25),(2,b2,(List.replicate 48 0#8).map U8,60),(3,b3,(BYs a x.1).map U8,60)]) (fun x=>48-x.1) ⟨0,by omega⟩ hGF ⟨rfl,rfl,rfl,rfl,trivial⟩ ⟨rfl,rfl,rfl,trivial⟩<|?_
 rintro ⟨i,hi⟩
 dsimp only
 refine Xp<|Bnr rfl rfl (fun _=>av _ _ _)<|aa<|ah<|?_
 refine ba rfl (fun hc=> ?_) (fun hc=> ?_)
 ·simp only[decide_eq_true_eq]at hc
  refine au<|ah<|ai<|Xp<|Mv rfl<|Asg rfl<|aa<|Xp<|Mv rfl<|Bnr (v:=I ((47-i:Nat):Int)) rfl rfl (fun _=>(aL _ _ _ (by unfold inI;omega)).trans (by rw[show ((47:Int)-(i:Int))=((47-i:Nat):Int) by omega]))<|Asg rfl<|aa<|Xq<|Mv rfl<|Mv rfl<|Bnr (v:=I (((47-i) / 8:Nat):Int)) rfl rfl (fun _=>dS _ _ _ (by decide) (show inI (((47-i) / 8:Nat):Int) by unfold inI;omega))<|Ia (((47-i) / 8)) rfl rfl underlying25 sizeOf24<|Lm 1 U64 0 rfl rfl isAgg24 (by rw[ha];omega)<|Mv rfl<|Bnr (v:=I (((47-i) % 8:Nat):Int)) rfl rfl (fun _=>cV _ _ _ (by decide))<|bO (v:=I ((8*((47-i) % 8):Nat):Int)) rfl rfl (fun _=>rfl) (fun _=>(aT _ _ _ (by unfold inI;omega)).trans (by rw[show (8:Int)*(((47-i) % 8:Nat):Int)=((8*((47-i) % 8):Nat):Int) by omega])) rfl rfl<|bO (v:=U64 (a.getD ((47-i) / 8) 0>>>(8*((47-i) % 8)))) rfl rfl (fun _=>rfl) (fun _=>cy _ _ _ (by omega)) rfl rfl<|bt rfl rfl (fun _=>ej underlying24 underlying5 _) rfl rfl<|Ia (i) rfl rfl underlying60 sizeOf5<|aK 3 U8 hGF rfl rfl rfl sizeOf5 rfl (by rw[aW];omega) rfl<|aa<|Xq<|Bnr rfl rfl (fun _=>ap _ _ _ (by unfold inI;omega))<|Mv rfl<|aa<|?_
  repeat (refine aJ ?_)
  exact aA<|⟨rfl,⟨i+1,by omega⟩,_,by show 48-(i+1)<48-i;omega,rfl,⟨rfl,rfl,rfl,rfl,trivial⟩,⟨rfl,rfl,rfl,trivial⟩⟩
 ·obtain rfl:i=48:=by simp at hc;omega
  refine aM<|Xp<|Lw 3 rfl rfl s4 (aW _ _)<|Sx 2 hGF rfl rfl rfl s4 (aW _ _) (ca _)<|aa<|aq<|Rr<|?_
  exact aw 2 rfl rfl rfl isAgg60 sizeOf60 (by rw[List.length_map,aW]) (fun w hw=>⟨rfl,ac hw⟩)
theorem f9(a:List (BitVec 64))(ha:a.length=6):Pure Tryz.prog Gt 184 [.agg ((a).map U64).toArray] (.agg ((BYs a 48).map U8).toArray):=by
 intro w hw
 refine Hf func184 rfl hw<|fun hGF=>Xp<|Bx 1 hGF rfl<|fun b1=>Al 2 hGF zv60<|fun b2=>aa<|Xp<|Al 3 hGF zv60<|fun b3=>aa<|ah<|Xp<|Asg rfl<|aa<|ai<|bg (ι:={i:Nat // i≤48}) (fun x=>[(1,.pointer (some ⟨b1,0,none⟩)),(2,.pointer (some ⟨b2,0,none⟩)),(3,.pointer (some ⟨b3,0,none⟩)),(4,I (x.1:Int))]) (fun x=>[(1,b1,a.map U64,35),(2,b2,(List.replicate 48 0#8).map U8,60),(3,b3,(BYs a x.1).map U8,60)]) (fun x=>48-x.1) ⟨0,by omega⟩ hGF ⟨rfl,rfl,rfl,rfl,trivial⟩ ⟨rfl,rfl,rfl,trivial⟩<|?_
 rintro ⟨i,hi⟩
 dsimp only
 refine ah<|Xp<|Mv rfl<|Bnr rfl rfl (fun _=>av _ _ _)<|aa<|?_
 refine ba rfl (fun hc=> ?_) (fun hc=> ?_)
 ·simp only[decide_eq_true_eq]at hc
  refine au<|ah<|ai<|Xp<|Mv rfl<|Bnr (v:=I ((47-i:Nat):Int)) rfl rfl (fun _=>(aL _ _ _ (by unfold inI;omega)).trans (by rw[show ((47:Int)-(i:Int))=((47-i:Nat):Int) by omega]))<|Asg rfl<|aa<|Xq<|Mv rfl<|Mv rfl<|Bnr (v:=I (((47-i) / 8:Nat):Int)) rfl rfl (fun _=>dS _ _ _ (by decide) (show inI (((47-i) / 8:Nat):Int) by unfold inI;omega))<|Ia (((47-i) / 8)) rfl rfl underlying35 sizeOf24<|Lm 1 U64 0 rfl rfl isAgg24 (by rw[ha];omega)<|Mv rfl<|Bnr (v:=I (((47-i) % 8:Nat):Int)) rfl rfl (fun _=>cV _ _ _ (by decide))<|bO (v:=I ((8*((47-i) % 8):Nat):Int)) rfl rfl (fun _=>rfl) (fun _=>(aT _ _ _ (by unfold inI;omega)).trans (by rw[show (8:Int)*(((47-i) % 8:Nat):Int)=((8*((47-i) % 8):Nat):Int) by omega])) rfl rfl<|bO (v:=U64 (a.getD ((47-i) / 8) 0>>>(8*((47-i) % 8)))) rfl rfl (fun _=>rfl) (fun _=>cy _ _ _ (by omega)) rfl rfl<|bt rfl rfl (fun _=>ej underlying24 underlying5 _) rfl rfl<|Ia (i) rfl rfl underlying60 sizeOf5<|aK 3 U8 hGF rfl rfl rfl sizeOf5 rfl (by rw[aW];omega) rfl<|aa<|Xq<|Mv rfl<|Bnr rfl rfl (fun _=>ap _ _ _ (by unfold inI;omega))<|Asg rfl<|aa<|?_
  repeat (refine aJ ?_)
  exact aA<|⟨rfl,⟨i+1,by omega⟩,_,by show 48-(i+1)<48-i;omega,rfl,⟨rfl,rfl,rfl,rfl,trivial⟩,⟨rfl,rfl,rfl,trivial⟩⟩
 ·obtain rfl:i=48:=by simp at hc;omega
  refine aM<|Xp<|Lw 3 rfl rfl s4 (aW _ _)<|Sx 2 hGF rfl rfl rfl s4 (aW _ _) (ca _)<|aa<|aq<|Rr<|?_
  exact aw 2 rfl rfl rfl isAgg60 sizeOf60 (by rw[List.length_map,aW]) (fun w hw=>⟨rfl,ac hw⟩)
end
section
open Go.RowKit
theorem ml(a:BitVec 64){P:Program}{w:World}:(Op.unary .neg (U64 a)).run P w=.ok (U64 (-a)) w:=by
 show (Op.intArith .sub .u64 0 (a.toNat:Int)).run P w=_
 simp only[Op.intArith,Sem.run_pure]
 have h:=a.isLt
 congr 2
 simp only[BitVec.toNat_neg]
 congr 1
 simp only[IntKind.wrap,IntKind.signed,IntKind.bits,Bool.false_and]
 simp
 omega
theorem jC(n:BitVec 64):Pure Tryz.prog Gt 130 [U64 n] (U64 (IV n 5)):=by
 intro w hw
 refine Hf func130 rfl hw<|fun hGF=>Xp<|Asg rfl<|aa<|Xp<|Mv rfl<|Asg rfl<|aa<|ah<|Xp<|Mv rfl<|aa<|ai<|bg (ι:={i:Nat // i≤5}) (fun x=>[(0,U64 n),(2,U64 0),(3,U64 (IV n x.1)),(5,I (x.1:Int))]) (fun x=>[]) (fun x=>5-x.1) ⟨0,by omega⟩ hGF ⟨rfl,rfl,rfl,rfl,trivial⟩ trivial<|?_
 rintro ⟨i,hi⟩
 dsimp only
 refine Xp<|Bnr rfl rfl (fun _=>av _ _ _)<|aa<|ah<|?_
 refine ba rfl (fun hc=> ?_) (fun hc=> ?_)
 ·simp only[decide_eq_true_eq]at hc
  refine au<|ah<|ai<|Xq<|Mv rfl<|Mv rfl<|Mv rfl<|Bnr rfl rfl (fun _=>bE _ _ _)<|Bnr rfl rfl (fun _=>fq _ _ _)<|Bnr rfl rfl (fun _=>bE _ _ _)<|Asg rfl<|aa<|Xq<|Bnr rfl rfl (fun _=>ap _ _ _ (by unfold inI;omega))<|Mv rfl<|aa<|?_
  repeat (refine aJ ?_)
  exact aA<|⟨rfl,⟨i+1,by omega⟩,_,by show 5-(i+1)<5-i;omega,rfl,⟨rfl,rfl,rfl,rfl,trivial⟩,trivial⟩
 ·obtain rfl:i=5:=by simp at hc;omega
  refine aM<|Xp<|Mv rfl<|Asg rfl<|aa<|aq<|Rr<|?_
  exact aQ rfl rfl (fun w hw=>⟨rfl,ac hw⟩)
theorem HP:(Tryz.prog.info? 24).map (·.size)=some 1:=by kernel_rfl
theorem xG(a:List (BitVec 64))(h:a.length=6):lay 0 (a.map U64) ((List.replicate 12 0#64).map U64)=(a++List.replicate 6 0).map U64:=by
 rw[gV _ _ _ (by simp[h])]
 simp[h]
theorem kB(a b m:List (BitVec 64))(ha:a.length=6)(hb:b.length=6)(hm:m.length=6):Pure Tryz.prog Gt 84 [.agg ((a).map U64).toArray,.agg ((b).map U64).toArray,.agg ((m).map U64).toArray] (.agg ((jQ a b m).map U64).toArray):=by
 intro w hw
 refine Hf func84 rfl hw ?_
 intro hGF
 by_cases h0:m.getD 0 0 % 2=0
 ·refine Xp<|Bx 3 hGF rfl<|fun b3=>Bx 4 hGF rfl<|fun b4=>Bx 5 hGF rfl<|fun b5=>Al 6 hGF zv25<|fun b6=>aa<|ah<|Xp<|Ia (0) rfl rfl underlying25 sizeOf24<|Lm 5 U64 0 rfl rfl isAgg24 (by rw[hm];omega)<|Bnr rfl rfl (fun _=>dI _ _ _ (by decide))<|Bnr (v:=.bool true) rfl rfl (fun w=>(aY _ _ _).trans (congrArg (fun b=>Result.ok (Value.bool b) w) (beq_iff_eq.2 h0)))<|aa<|bf rfl<|Xp<|eS zv25 underlying25 sizeOf24 rfl rfl<|Sw 6 hGF rfl rfl rfl bD List.length_replicate<|aa<|aq<|Rr<|?_
  exact aw 6 rfl rfl rfl isAgg25 sizeOf25 (by rw[List.length_map,List.length_replicate]) (fun w hw=>⟨by rw[jQ,if_pos h0];rfl,ac hw⟩)
 cases h1:LT a m 6 with
 |true=>
  refine Xp<|Bx 3 hGF rfl<|fun b3=>Bx 4 hGF rfl<|fun b4=>Bx 5 hGF rfl<|fun b5=>Al 6 hGF zv25<|fun b6=>aa<|ah<|Xp<|Ia (0) rfl rfl underlying25 sizeOf24<|Lm 5 U64 0 rfl rfl isAgg24 (by rw[hm];omega)<|Bnr rfl rfl (fun _=>dI _ _ _ (by decide))<|Bnr (v:=.bool false) rfl rfl (fun w=>(aY _ _ _).trans (congrArg (fun b=>Result.ok (Value.bool b) w) (beq_eq_false_iff_ne.2 h0)))<|aa<|aV rfl<|au<|ah<|Xp<|Lw 3 rfl rfl bD ha<|Lw 5 rfl rfl bD hm<|Ca rfl (iQ a m ha hm)<|bT (v:=.bool false) rfl (fun _=>(bI _).trans (by rw[h1];rfl)) rfl rfl<|aa<|aV rfl<|au<|Xp<|Ia (0) rfl rfl underlying25 sizeOf24<|Lm 5 U64 0 rfl rfl isAgg24 (by rw[hm];omega)<|Ca rfl (jC _)<|bT rfl (fun _=>ml _) rfl rfl<|Asg rfl<|?_
  generalize hcl: -(IV (m.getD 0 0) 5)=cl
  refine aa<|Xp<|Al 9 hGF zv25<|fun b9=>aa<|Xp<|Asg rfl<|aa<|ah<|Xp<|Lw 3 rfl rfl bD ha<|Mv rfl<|aa<|ai<|bg (ι:={i:Nat // i≤6}) (fun x=>[(4,.pointer (some ⟨b4,0,none⟩)),(5,.pointer (some ⟨b5,0,none⟩)),(6,.pointer (some ⟨b6,0,none⟩)),(8,U64 cl),(9,.pointer (some ⟨b9,0,none⟩)),(10,U64 (MO a b m cl x.1).2),(38,.agg ((a).map U64).toArray),(39,I (x.1:Int))]) (fun x=>[(4,b4,b.map U64,25),(5,b5,m.map U64,25),(6,b6,(List.replicate 6 0#64).map U64,25),(9,b9,(MO a b m cl x.1).1.map U64,25)]) (fun x=>6-x.1) ⟨0,by omega⟩ hGF ⟨rfl,rfl,rfl,rfl,rfl,rfl,rfl,rfl,trivial⟩ ⟨rfl,rfl,rfl,rfl,trivial⟩<|?_
  rintro ⟨i,hi⟩
  dsimp only
  refine Xp<|Bnr rfl rfl (fun _=>av _ _ _)<|aa<|ah<|?_
  refine ba rfl (fun hc=> ?_) (fun hc=> ?_)
  ·simp only[decide_eq_true_eq]at hc
   refine au<|ah<|ai<|Xp<|fW U64 0 (i) rfl rfl underlying25 sizeOf24 isAgg24 (by omega) (by omega) (ha) rfl rfl<|Asg rfl<|aa<|Xp<|Asg rfl<|Asg rfl<|aa<|ah<|Xp<|Lw 4 rfl rfl bD hb<|Mv rfl<|aa<|ai<|bg (ι:={i:Nat // i≤6}) (fun x=>[(4,.pointer (some ⟨b4,0,none⟩)),(5,.pointer (some ⟨b5,0,none⟩)),(6,.pointer (some ⟨b6,0,none⟩)),(8,U64 cl),(9,.pointer (some ⟨b9,0,none⟩)),(10,U64 (MO a b m cl i).2),(38,.agg ((a).map U64).toArray),(39,I (i:Int)),(12,U64 (a.getD i 0)),(13,U64 (MJ (a.getD i 0) b (MO a b m cl i).1 x.1).2),(14,U64 0),(42,.agg ((b).map U64).toArray),(43,I (x.1:Int))]) (fun x=>[(4,b4,b.map U64,25),(5,b5,m.map U64,25),(6,b6,(List.replicate 6 0#64).map U64,25),(9,b9,(MJ (a.getD i 0) b (MO a b m cl i).1 x.1).1.map U64,25)]) (fun x=>6-x.1) ⟨0,by omega⟩ hGF ⟨rfl,rfl,rfl,rfl,rfl,rfl,rfl,rfl,rfl,rfl,rfl,rfl,rfl,trivial⟩ ⟨rfl,rfl,rfl,rfl,trivial⟩<|?_
   rintro ⟨j,hj⟩
   dsimp only
   refine Xp<|Bnr rfl rfl (fun _=>av _ _ _)<|aa<|ah<|?_
   refine ba rfl (fun hc=> ?_) (fun hc=> ?_)
   ·simp only[decide_eq_true_eq]at hc
    refine au<|ah<|ai<|Xp<|Mv rfl<|fW U64 0 (j) rfl rfl underlying25 sizeOf24 isAgg24 (by omega) (by omega) (hb) rfl rfl<|Asg rfl<|Asg rfl<|aa<|Xq<|Mv rfl<|Mv rfl<|Mv rfl<|Mv rfl<|Ia (j) rfl rfl underlying25 sizeOf24<|Lm 9 U64 0 rfl rfl isAgg24 (by rw[ik,df];omega)<|Mv rfl<|Ca rfl (eh _ _ _ _)<|Mv rfl<|Ext rfl rfl<|Ext rfl rfl<|Ia (j) rfl rfl underlying25 sizeOf24<|aK 9 U64 hGF rfl rfl rfl sizeOf24 rfl (by rw[ik,df];omega) rfl<|Asg rfl<|aa<|Xq<|Bnr rfl rfl (fun _=>ap _ _ _ (by unfold inI;omega))<|Mv rfl<|aa<|?_
    repeat (refine aJ ?_)
    exact aA<|⟨rfl,⟨j+1,by omega⟩,_,by show 6-(j+1)<6-j;omega,rfl,⟨rfl,rfl,rfl,rfl,rfl,rfl,rfl,rfl,rfl,rfl,rfl,rfl,rfl,trivial⟩,⟨rfl,rfl,rfl,rfl,trivial⟩⟩
   ·obtain rfl:j=6:=by simp at hc;omega
    generalize hS:MJ (a.getD i 0) b (MO a b m cl i).1 6=S1
    have hSl:S1.1.length=6:=by rw[←hS,ik,df]
    refine aM<|Xp<|Mv rfl<|Mv rfl<|aO rfl rfl (fun w=>bZ _ _ _ (by decide) w) rfl rfl<|Mv rfl<|Ext rfl rfl<|Ext rfl rfl<|Asg rfl<|Asg rfl<|aa<|Xp<|Ia (0) rfl rfl underlying25 sizeOf24<|Lm 9 U64 0 rfl rfl isAgg24 (by rw[hSl];omega)<|Mv rfl<|Bnr rfl rfl (fun _=>bE _ _ _)<|Asg rfl<|aa<|Xp<|Mv rfl<|Ia (0) rfl rfl underlying25 sizeOf24<|Lm 5 U64 0 rfl rfl isAgg24 (by rw[hm];omega)<|Ia (0) rfl rfl underlying25 sizeOf24<|Lm 9 U64 0 rfl rfl isAgg24 (by rw[hSl];omega)<|Ca rfl (eh _ _ _ _)<|Mv rfl<|Ext rfl rfl<|Ext rfl rfl<|Asg rfl<|aa<|ah<|Xp<|Asg rfl<|aa<|ai<|bg (ι:={i:Nat // i≤5}) (fun x=>[(4,.pointer (some ⟨b4,0,none⟩)),(5,.pointer (some ⟨b5,0,none⟩)),(6,.pointer (some ⟨b6,0,none⟩)),(8,U64 cl),(9,.pointer (some ⟨b9,0,none⟩)),(10,U64 (ADC (MO a b m cl i).2 S1.2 0).1),(38,.agg ((a).map U64).toArray),(39,I (i:Int)),(14,U64 (ADC (MO a b m cl i).2 S1.2 0).2),(17,U64 (S1.1.getD 0 0*cl)),(13,U64 (MR (S1.1.getD 0 0*cl) m S1.1 x.1).2),(18,I ((x.1+1:Nat):Int))]) (fun x=>[(4,b4,b.map U64,25),(5,b5,m.map U64,25),(6,b6,(List.replicate 6 0#64).map U64,25),(9,b9,(MR (S1.1.getD 0 0*cl) m S1.1 x.1).1.map U64,25)]) (fun x=>5-x.1) ⟨0,by omega⟩ hGF ⟨rfl,rfl,rfl,rfl,rfl,rfl,rfl,rfl,rfl,rfl,rfl,rfl,trivial⟩ ⟨rfl,rfl,rfl,rfl,trivial⟩<|?_
    rintro ⟨r,hr⟩
    dsimp only
    refine ah<|Xp<|Mv rfl<|Bnr rfl rfl (fun _=>av _ _ _)<|aa<|?_
    refine ba rfl (fun hc=> ?_) (fun hc=> ?_)
    ·simp only[decide_eq_true_eq]at hc
     refine au<|ah<|ai<|Xe []<|Mv rfl<|Bnr (v:=I (r:Int)) rfl rfl (fun _=>(aL _ _ _ (by unfold inI;omega)).trans (by rw[show (((r+1:Nat):Int)-1)=(r:Int) by omega]))<|Mv rfl<|Mv rfl<|Ia ((r+1)) rfl rfl underlying25 sizeOf24<|Lm 5 U64 0 rfl rfl isAgg24 (by rw[hm];omega)<|Mv rfl<|Ia ((r+1)) rfl rfl underlying25 sizeOf24<|Lm 9 U64 0 rfl rfl isAgg24 (by rw[gb,hSl];omega)<|Mv rfl<|Ca rfl (eh _ _ _ _)<|Mv rfl<|Ext rfl rfl<|Ext rfl rfl<|Ia (r) rfl rfl underlying25 sizeOf24<|aK 9 U64 hGF rfl rfl rfl sizeOf24 rfl (by rw[gb,hSl];omega) rfl<|Asg rfl<|aa<|Xq<|Mv rfl<|Bnr rfl rfl (fun _=>ap _ _ _ (by unfold inI;omega))<|Asg rfl<|aa<|?_
     repeat (refine aJ ?_)
     exact aA<|⟨rfl,⟨r+1,by omega⟩,_,by show 5-(r+1)<5-r;omega,rfl,⟨rfl,rfl,rfl,rfl,rfl,rfl,rfl,rfl,rfl,rfl,rfl,rfl,trivial⟩,⟨rfl,rfl,rfl,rfl,trivial⟩⟩
    ·obtain rfl:r=5:=by simp at hc;omega
     generalize hM:MR (S1.1.getD 0 0*cl) m S1.1 5=R1
     have hRl:R1.1.length=6:=by rw[←hM,gb,hSl]
     refine aM<|Xp<|Mv rfl<|Mv rfl<|aO rfl rfl (fun w=>bZ _ _ _ (by decide) w) rfl rfl<|Mv rfl<|Ext rfl rfl<|Ext rfl rfl<|Ia (5) rfl rfl underlying25 sizeOf24<|aK 9 U64 hGF rfl rfl rfl sizeOf24 rfl (by rw[hRl];omega) rfl<|Asg rfl<|aa<|Xq<|Mv rfl<|Mv rfl<|Bnr rfl rfl (fun _=>ay _ _ _)<|Asg rfl<|aa<|Xq<|Bnr rfl rfl (fun _=>ap _ _ _ (by unfold inI;omega))<|Mv rfl<|aa<|?_
     repeat (refine aJ ?_)
     exact aA<|⟨rfl,⟨i+1,by omega⟩,_,by show 6-(i+1)<6-i;omega,rfl,⟨rfl,rfl,rfl,rfl,rfl,by rw[lR a b m cl i hS hM];rfl,rfl,rfl,trivial⟩,⟨rfl,rfl,rfl,by rw[lR a b m cl i hS hM];rfl,trivial⟩⟩
  ·obtain rfl:i=6:=by simp at hc;omega
   refine aM<|Xp<|Lw 9 rfl rfl bD (df _ _ _ _ _)<|Mv rfl<|Lw 5 rfl rfl bD hm<|Ca rfl (mq _ _ _ (df _ _ _ _ _) hm)<|Sw 6 hGF rfl rfl rfl bD (gU _ _ _ (df _ _ _ _ _))<|aa<|aq<|Rr<|?_
   exact aw 6 rfl rfl rfl isAgg25 sizeOf25 (by rw[List.length_map];exact gU _ _ _ (df _ _ _ _ _)) (fun w hw=>⟨by rw[jQ,if_neg h0,if_pos h1,MN,hcl],ac hw⟩)
 |false=>
  refine Xp<|Bx 3 hGF rfl<|fun b3=>Bx 4 hGF rfl<|fun b4=>Bx 5 hGF rfl<|fun b5=>Al 6 hGF zv25<|fun b6=>aa<|ah<|Xp<|Ia (0) rfl rfl underlying25 sizeOf24<|Lm 5 U64 0 rfl rfl isAgg24 (by rw[hm];omega)<|Bnr rfl rfl (fun _=>dI _ _ _ (by decide))<|Bnr (v:=.bool false) rfl rfl (fun w=>(aY _ _ _).trans (congrArg (fun b=>Result.ok (Value.bool b) w) (beq_eq_false_iff_ne.2 h0)))<|aa<|aV rfl<|au<|ah<|Xp<|Lw 3 rfl rfl bD ha<|Lw 5 rfl rfl bD hm<|Ca rfl (iQ a m ha hm)<|bT (v:=.bool true) rfl (fun _=>(bI _).trans (by rw[h1];rfl)) rfl rfl<|aa<|bf rfl<|Xp<|Al 7 hGF zv137<|fun b7=>aa<|Xd []<|ci (l:=0) (h':=12) rfl underlying137 sizeOf24 rfl rfl (by omega) (by omega) rfl rfl<|ci (l:=0) (h':=6) rfl underlying25 sizeOf24 rfl rfl (by omega) (by omega) rfl rfl<|vA (cs:=a.map U64) 7 hGF rfl rfl rfl underlying153 HP (by rw[List.length_map,ha];rfl) (fun w' h j v hv=>by rw[Addr.add_mid];exact aU (n:=3) rfl w' h j v hv) (bq _) (by rw[List.length_map,List.length_map,ha];decide) rfl rfl<|?_
  rw[xG a ha]
  refine aa<|Xq<|cC 7 rfl rfl isAgg137 sizeOf137 (by rw[List.length_map,List.length_append,ha,List.length_replicate]) rfl rfl<|Lw 5 rfl rfl bD hm<|Ca rfl (zf (a++List.replicate 6 0) m (by rw[List.length_append,ha];rfl) hm)<|aF 3 hGF rfl rfl rfl sizeOf25 (by rw[List.length_map,jR _ _]) (by rw[List.length_map,ha]) (bq _) rfl<|aa<|Xp<|Ia (0) rfl rfl underlying25 sizeOf24<|Lm 5 U64 0 rfl rfl isAgg24 (by rw[hm];omega)<|Ca rfl (jC _)<|bT rfl (fun _=>ml _) rfl rfl<|Asg rfl<|?_
  generalize hcl: -(IV (m.getD 0 0) 5)=cl
  refine aa<|Xp<|Al 9 hGF zv25<|fun b9=>aa<|Xp<|Asg rfl<|aa<|ah<|Xp<|Lw 3 rfl rfl bD (jR _ _)<|Mv rfl<|aa<|ai<|bg (ι:={i:Nat // i≤6}) (fun x=>[(4,.pointer (some ⟨b4,0,none⟩)),(5,.pointer (some ⟨b5,0,none⟩)),(6,.pointer (some ⟨b6,0,none⟩)),(8,U64 cl),(9,.pointer (some ⟨b9,0,none⟩)),(10,U64 (MO (MOD (a++List.replicate 6 0) m) b m cl x.1).2),(38,.agg (((MOD (a++List.replicate 6 0) m)).map U64).toArray),(39,I (x.1:Int))]) (fun x=>[(4,b4,b.map U64,25),(5,b5,m.map U64,25),(6,b6,(List.replicate 6 0#64).map U64,25),(9,b9,(MO (MOD (a++List.replicate 6 0) m) b m cl x.1).1.map U64,25)]) (fun x=>6-x.1) ⟨0,by omega⟩ hGF ⟨rfl,rfl,rfl,rfl,rfl,rfl,rfl,rfl,trivial⟩ ⟨rfl,rfl,rfl,rfl,trivial⟩<|?_
  rintro ⟨i,hi⟩
  dsimp only
  refine Xp<|Bnr rfl rfl (fun _=>av _ _ _)<|aa<|ah<|?_
  refine ba rfl (fun hc=> ?_) (fun hc=> ?_)
  ·simp only[decide_eq_true_eq]at hc
   refine au<|ah<|ai<|Xp<|fW U64 0 (i) rfl rfl underlying25 sizeOf24 isAgg24 (by omega) (by omega) (jR _ _) rfl rfl<|Asg rfl<|aa<|Xp<|Asg rfl<|Asg rfl<|aa<|ah<|Xp<|Lw 4 rfl rfl bD hb<|Mv rfl<|aa<|ai<|bg (ι:={i:Nat // i≤6}) (fun x=>[(4,.pointer (some ⟨b4,0,none⟩)),(5,.pointer (some ⟨b5,0,none⟩)),(6,.pointer (some ⟨b6,0,none⟩)),(8,U64 cl),(9,.pointer (some ⟨b9,0,none⟩)),(10,U64 (MO (MOD (a++List.replicate 6 0) m) b m cl i).2),(38,.agg (((MOD (a++List.replicate 6 0) m)).map U64).toArray),(39,I (i:Int)),(12,U64 ((MOD (a++List.replicate 6 0) m).getD i 0)),(13,U64 (MJ ((MOD (a++List.replicate 6 0) m).getD i 0) b (MO (MOD (a++List.replicate 6 0) m) b m cl i).1 x.1).2),(14,U64 0),(42,.agg ((b).map U64).toArray),(43,I (x.1:Int))]) (fun x=>[(4,b4,b.map U64,25),(5,b5,m.map U64,25),(6,b6,(List.replicate 6 0#64).map U64,25),(9,b9,(MJ ((MOD (a++List.replicate 6 0) m).getD i 0) b (MO (MOD (a++List.replicate 6 0) m) b m cl i).1 x.1).1.map U64,25)]) (fun x=>6-x.1) ⟨0,by omega⟩ hGF ⟨rfl,rfl,rfl,rfl,rfl,rfl,rfl,rfl,rfl,rfl,rfl,rfl,rfl,trivial⟩ ⟨rfl,rfl,rfl,rfl,trivial⟩<|?_
   rintro ⟨j,hj⟩
   dsimp only
   refine Xp<|Bnr rfl rfl (fun _=>av _ _ _)<|aa<|ah<|?_
   refine ba rfl (fun hc=> ?_) (fun hc=> ?_)
   ·simp only[decide_eq_true_eq]at hc
    refine au<|ah<|ai<|Xp<|Mv rfl<|fW U64 0 (j) rfl rfl underlying25 sizeOf24 isAgg24 (by omega) (by omega) (hb) rfl rfl<|Asg rfl<|Asg rfl<|aa<|Xq<|Mv rfl<|Mv rfl<|Mv rfl<|Mv rfl<|Ia (j) rfl rfl underlying25 sizeOf24<|Lm 9 U64 0 rfl rfl isAgg24 (by rw[ik,df];omega)<|Mv rfl<|Ca rfl (eh _ _ _ _)<|Mv rfl<|Ext rfl rfl<|Ext rfl rfl<|Ia (j) rfl rfl underlying25 sizeOf24<|aK 9 U64 hGF rfl rfl rfl sizeOf24 rfl (by rw[ik,df];omega) rfl<|Asg rfl<|aa<|Xq<|Bnr rfl rfl (fun _=>ap _ _ _ (by unfold inI;omega))<|Mv rfl<|aa<|?_
    repeat (refine aJ ?_)
    exact aA<|⟨rfl,⟨j+1,by omega⟩,_,by show 6-(j+1)<6-j;omega,rfl,⟨rfl,rfl,rfl,rfl,rfl,rfl,rfl,rfl,rfl,rfl,rfl,rfl,rfl,trivial⟩,⟨rfl,rfl,rfl,rfl,trivial⟩⟩
   ·obtain rfl:j=6:=by simp at hc;omega
    generalize hS:MJ ((MOD (a++List.replicate 6 0) m).getD i 0) b (MO (MOD (a++List.replicate 6 0) m) b m cl i).1 6=S1
    have hSl:S1.1.length=6:=by rw[←hS,ik,df]
    refine aM<|Xp<|Mv rfl<|Mv rfl<|aO rfl rfl (fun w=>bZ _ _ _ (by decide) w) rfl rfl<|Mv rfl<|Ext rfl rfl<|Ext rfl rfl<|Asg rfl<|Asg rfl<|aa<|Xp<|Ia (0) rfl rfl underlying25 sizeOf24<|Lm 9 U64 0 rfl rfl isAgg24 (by rw[hSl];omega)<|Mv rfl<|Bnr rfl rfl (fun _=>bE _ _ _)<|Asg rfl<|aa<|Xp<|Mv rfl<|Ia (0) rfl rfl underlying25 sizeOf24<|Lm 5 U64 0 rfl rfl isAgg24 (by rw[hm];omega)<|Ia (0) rfl rfl underlying25 sizeOf24<|Lm 9 U64 0 rfl rfl isAgg24 (by rw[hSl];omega)<|Ca rfl (eh _ _ _ _)<|Mv rfl<|Ext rfl rfl<|Ext rfl rfl<|Asg rfl<|aa<|ah<|Xp<|Asg rfl<|aa<|ai<|bg (ι:={i:Nat // i≤5}) (fun x=>[(4,.pointer (some ⟨b4,0,none⟩)),(5,.pointer (some ⟨b5,0,none⟩)),(6,.pointer (some ⟨b6,0,none⟩)),(8,U64 cl),(9,.pointer (some ⟨b9,0,none⟩)),(10,U64 (ADC (MO (MOD (a++List.replicate 6 0) m) b m cl i).2 S1.2 0).1),(38,.agg (((MOD (a++List.replicate 6 0) m)).map U64).toArray),(39,I (i:Int)),(14,U64 (ADC (MO (MOD (a++List.replicate 6 0) m) b m cl i).2 S1.2 0).2),(17,U64 (S1.1.getD 0 0*cl)),(13,U64 (MR (S1.1.getD 0 0*cl) m S1.1 x.1).2),(18,I ((x.1+1:Nat):Int))]) (fun x=>[(4,b4,b.map U64,25),(5,b5,m.map U64,25),(6,b6,(List.replicate 6 0#64).map U64,25),(9,b9,(MR (S1.1.getD 0 0*cl) m S1.1 x.1).1.map U64,25)]) (fun x=>5-x.1) ⟨0,by omega⟩ hGF ⟨rfl,rfl,rfl,rfl,rfl,rfl,rfl,rfl,rfl,rfl,rfl,rfl,trivial⟩ ⟨rfl,rfl,rfl,rfl,trivial⟩<|?_
    rintro ⟨r,hr⟩
    dsimp only
    refine ah<|Xp<|Mv rfl<|Bnr rfl rfl (fun _=>av _ _ _)<|aa<|?_
    refine ba rfl (fun hc=> ?_) (fun hc=> ?_)
    ·simp only[decide_eq_true_eq]at hc
     refine au<|ah<|ai<|Xe []<|Mv rfl<|Bnr (v:=I (r:Int)) rfl rfl (fun _=>(aL _ _ _ (by unfold inI;omega)).trans (by rw[show (((r+1:Nat):Int)-1)=(r:Int) by omega]))<|Mv rfl<|Mv rfl<|Ia ((r+1)) rfl rfl underlying25 sizeOf24<|Lm 5 U64 0 rfl rfl isAgg24 (by rw[hm];omega)<|Mv rfl<|Ia ((r+1)) rfl rfl underlying25 sizeOf24<|Lm 9 U64 0 rfl rfl isAgg24 (by rw[gb,hSl];omega)<|Mv rfl<|Ca rfl (eh _ _ _ _)<|Mv rfl<|Ext rfl rfl<|Ext rfl rfl<|Ia (r) rfl rfl underlying25 sizeOf24<|aK 9 U64 hGF rfl rfl rfl sizeOf24 rfl (by rw[gb,hSl];omega) rfl<|Asg rfl<|aa<|Xq<|Mv rfl<|Bnr rfl rfl (fun _=>ap _ _ _ (by unfold inI;omega))<|Asg rfl<|aa<|?_
     repeat (refine aJ ?_)
     exact aA<|⟨rfl,⟨r+1,by omega⟩,_,by show 5-(r+1)<5-r;omega,rfl,⟨rfl,rfl,rfl,rfl,rfl,rfl,rfl,rfl,rfl,rfl,rfl,rfl,trivial⟩,⟨rfl,rfl,rfl,rfl,trivial⟩⟩
    ·obtain rfl:r=5:=by simp at hc;omega
     generalize hM:MR (S1.1.getD 0 0*cl) m S1.1 5=R1
     have hRl:R1.1.length=6:=by rw[←hM,gb,hSl]
     refine aM<|Xp<|Mv rfl<|Mv rfl<|aO rfl rfl (fun w=>bZ _ _ _ (by decide) w) rfl rfl<|Mv rfl<|Ext rfl rfl<|Ext rfl rfl<|Ia (5) rfl rfl underlying25 sizeOf24<|aK 9 U64 hGF rfl rfl rfl sizeOf24 rfl (by rw[hRl];omega) rfl<|Asg rfl<|aa<|Xq<|Mv rfl<|Mv rfl<|Bnr rfl rfl (fun _=>ay _ _ _)<|Asg rfl<|aa<|Xq<|Bnr rfl rfl (fun _=>ap _ _ _ (by unfold inI;omega))<|Mv rfl<|aa<|?_
     repeat (refine aJ ?_)
     exact aA<|⟨rfl,⟨i+1,by omega⟩,_,by show 6-(i+1)<6-i;omega,rfl,⟨rfl,rfl,rfl,rfl,rfl,by rw[lR (MOD (a++List.replicate 6 0) m) b m cl i hS hM];rfl,rfl,rfl,trivial⟩,⟨rfl,rfl,rfl,by rw[lR (MOD (a++List.replicate 6 0) m) b m cl i hS hM];rfl,trivial⟩⟩
  ·obtain rfl:i=6:=by simp at hc;omega
   refine aM<|Xp<|Lw 9 rfl rfl bD (df _ _ _ _ _)<|Mv rfl<|Lw 5 rfl rfl bD hm<|Ca rfl (mq _ _ _ (df _ _ _ _ _) hm)<|Sw 6 hGF rfl rfl rfl bD (gU _ _ _ (df _ _ _ _ _))<|aa<|aq<|Rr<|?_
   exact aw 6 rfl rfl rfl isAgg25 sizeOf25 (by rw[List.length_map];exact gU _ _ _ (df _ _ _ _ _)) (fun w hw=>⟨by rw[jQ,if_neg h0,if_neg (by rw[h1];decide),MN,hcl],ac hw⟩)
end
end Go.Proofs.YtodgbdcjjhmnkaaGreatDoor
