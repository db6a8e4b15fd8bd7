/-
 The walks of sums, differences, order and products.
 The walks of what is left by a modulus.
 The walks of what is left by a modulus, bit by bit.
 The walks of bytes and bits.
 The walk of Montgomery's product.
-/
import Derived.Test.YtodgbdcjjhmnkaaGreatDoorX4
import Derived.Test.YtodgbdcjjhmnkaaGreatDoorX5
import Derived.Test.YtodgbdcjjhmnkaaGreatDoorXW
set_option maxRecDepth 100000
set_option maxHeartbeats 1000000
namespace Go.Proofs.YtodgbdcjjhmnkaaGreatDoor
open Go.Proofs.Tryz
section
open Go.RowKit
def xr:Array Value→Sem Value:=fun args=>do
 let (x,y,b)←Extern.MathBitsCarry.three "Sub64" args
 pure (Extern.MathBitsCarry.pair ((x+Extern.MathBitsCarry.m64-y-b) % Extern.MathBitsCarry.m64) (if x<y+b then 1 else 0))
theorem bZ(x y c:BitVec 64)(hc:c.toNat≤1)(w:World):(callFunc 105 [U64 x,U64 y,U64 c].toArray).run Tryz.prog w=.ok (.value (.tuple #[U64 (ADC x y c).1,U64 (ADC x y c).2])) w:=by
 show (callFunc 105 #[U64 x,U64 y,U64 c]).run Tryz.prog w=_
 rw[run_callFunc_extern func105 (by kernel_rfl) (by kernel_rfl) (by kernel_rfl) (e:=add64Entry) (by kernel_rfl)]
 simp only[U64]
 rw[run_add64 _ _ _ (by omega) (by omega) (by omega) (by omega)]
 have h1:=x.isLt
 have h2:=y.isLt
 have e1:((x.toNat:Int)+(y.toNat:Int)+(c.toNat:Int)) % 18446744073709551616=((ADC x y c).1.toNat:Int):=by simp only[ADC,BitVec.toNat_ofNat];omega
 have e2:((x.toNat:Int)+(y.toNat:Int)+(c.toNat:Int)) / 18446744073709551616=((ADC x y c).2.toNat:Int):=by simp only[ADC,BitVec.toNat_ofNat];omega
 rw[e1,e2]
 rfl
theorem Ds(x y c:BitVec 64)(hc:c.toNat≤1)(w:World):(callFunc 133 [U64 x,U64 y,U64 c].toArray).run Tryz.prog w=.ok (.value (.tuple #[U64 (SBB x y c).1,U64 (SBB x y c).2])) w:=by
 show (callFunc 133 #[U64 x,U64 y,U64 c]).run Tryz.prog w=_
 rw[run_callFunc_extern func133 (by kernel_rfl) (by kernel_rfl) (by kernel_rfl) (e:=xr) (by kernel_rfl)]
 have key: ∀b:Nat,b≤1→(xr #[.int .u64 (x.toNat:Int),.int .u64 (y.toNat:Int),.int .u64 (b:Int)]).run Tryz.prog w=
  .ok (.tuple #[.int .u64 (((x.toNat+18446744073709551616-y.toNat-b) % 18446744073709551616:Nat):Int),.int .u64 ((if x.toNat<y.toNat+b then 1 else 0:Nat):Int)]) w:=fun b hb=>by
  have:b=0∨b=1:=by omega
  rcases this with rfl|rfl<;>rfl
 simp only[U64]
 rw[key _ hc]
 simp only[Result.andThen,SBB,BitVec.toNat_ofNat]
 congr 5
 split<;>rfl
theorem ent39:ah Tryz.prog 39:=fun _ _=>by kernel_rfl
theorem ent124:ah Tryz.prog 124:=fun _ _=>by kernel_rfl
theorem ent161:ah Tryz.prog 161:=fun _ _=>by kernel_rfl
theorem ent176:ah Tryz.prog 176:=fun _ _=>by kernel_rfl
theorem zv25(w:World):(zeroValue 25).run Tryz.prog w=.ok (.agg ((List.replicate 6 (0#64)).map U64).toArray) w:=(zeroValue25 w).trans (by rfl)
theorem zv35(w:World):(zeroValue 35).run Tryz.prog w=.ok (.agg ((List.replicate 6 (0#64)).map U64).toArray) w:=(zeroValue35 w).trans (by rfl)
theorem zv137(w:World):(zeroValue 137).run Tryz.prog w=.ok (.agg ((List.replicate 12 (0#64)).map U64).toArray) w:=(zeroValue137 w).trans (by rfl)
theorem zv60(w:World):(zeroValue 60).run Tryz.prog w=.ok (.agg ((List.replicate 48 (0#8)).map U8).toArray) w:=(zeroValue60 w).trans (by rfl)
theorem lF(a b:List (BitVec 64))(ha:a.length=6)(hb:b.length=6):Pure Tryz.prog Gt 85 [.agg ((a).map U64).toArray,.agg ((b).map U64).toArray] (.tuple #[.agg (((AS a b 6).1).map U64).toArray,U64 (AS a b 6).2]):=by
 intro w hw
 refine Hf func85 rfl hw<|fun hGF=>Xp<|Bx 2 hGF rfl<|fun b2=>Bx 3 hGF rfl<|fun b3=>Al 4 hGF zv25<|fun b4=>Asg rfl<|aa<|Xp<|Al 6 hGF zv25<|fun b6=>aa<|Xp<|Asg rfl<|aa<|ae<|Xp<|Mv rfl<|aa<|ai<|bB (ι:={i:Nat // i≤6}) (fun x=>[(2,.pointer (some ⟨b2,0,none⟩)),(3,.pointer (some ⟨b3,0,none⟩)),(4,.pointer (some ⟨b4,0,none⟩)),(6,.pointer (some ⟨b6,0,none⟩)),(7,U64 (AS a b x.1).2),(9,I (x.1:Int))]) (fun x=>[(2,b2,a.map U64,25),(3,b3,b.map U64,25),(4,b4,(List.replicate 6 0#64).map U64,25),(6,b6,(AS a b x.1).1.map U64,25)]) (fun x=>6-x.1) ⟨0,by omega⟩ hGF ⟨rfl,rfl,rfl,rfl,rfl,rfl,trivial⟩ ⟨rfl,rfl,rfl,rfl,trivial⟩<|?_
 rintro ⟨i,hi⟩
 dsimp only
 refine Xp<|Bnr rfl rfl (fun _=>aA _ _ _)<|aa<|ae<|?_
 refine bj rfl (fun hc=> ?_) (fun hc=> ?_)
 ·simp only[decide_eq_true_eq]at hc
  refine au<|ae<|ai<|Xp<|Mv rfl<|Asg rfl<|aa<|Xe []<|Mv rfl<|Mv rfl<|Ia (i) rfl rfl underlying25 sizeOf24<|Lm 2 U64 0 rfl rfl isAgg24 (by rw[ha];omega)<|Mv rfl<|Ia (i) rfl rfl underlying25 sizeOf24<|Lm 3 U64 0 rfl rfl isAgg24 (by rw[hb];omega)<|Mv rfl<|aI rfl rfl (fun w=>bZ _ _ _ (wu a b i) w) rfl rfl<|Mv rfl<|Ext rfl rfl<|Ext rfl rfl<|Ia (i) rfl rfl underlying25 sizeOf24<|aP 6 U64 hGF rfl rfl rfl sizeOf24 rfl (by rw[aE];omega) rfl<|Asg rfl<|aa<|Xq<|Bnr rfl rfl (fun _=>aw _ _ _ (by unfold inI;omega))<|Mv rfl<|aa<|?_
  repeat (refine aR ?_)
  exact aG<|⟨rfl,⟨i+1,by omega⟩,_,by show 6-(i+1)<6-i;omega,rfl,⟨rfl,rfl,rfl,rfl,rfl,rfl,trivial⟩,⟨rfl,rfl,rfl,rfl,trivial⟩⟩
 ·obtain rfl:i=6:=by simp at hc;omega
  refine aT<|Xp<|Lw 6 rfl rfl bk (aE _ _ _)<|Mv rfl<|Sw 4 hGF rfl rfl rfl bk (aE _ _ _)<|Asg rfl<|aa<|ap<|Rr<|?_
  exact bw 4 rfl rfl rfl rfl isAgg25 sizeOf25 (by rw[List.length_map,aE]) (fun w hw=>⟨rfl,ac hw⟩)
theorem gV(a b:List (BitVec 64))(ha:a.length=6)(hb:b.length=6):Pure Tryz.prog Gt 86 [.agg ((a).map U64).toArray,.agg ((b).map U64).toArray] (.tuple #[.agg (((SS a b 6).1).map U64).toArray,U64 (SS a b 6).2]):=by
 intro w hw
 refine Hf func86 rfl hw<|fun hGF=>Xp<|Bx 2 hGF rfl<|fun b2=>Bx 3 hGF rfl<|fun b3=>Al 4 hGF zv25<|fun b4=>Asg rfl<|aa<|Xp<|Al 6 hGF zv25<|fun b6=>aa<|Xp<|Asg rfl<|aa<|ae<|Xp<|Mv rfl<|aa<|ai<|bB (ι:={i:Nat // i≤6}) (fun x=>[(2,.pointer (some ⟨b2,0,none⟩)),(3,.pointer (some ⟨b3,0,none⟩)),(4,.pointer (some ⟨b4,0,none⟩)),(6,.pointer (some ⟨b6,0,none⟩)),(7,U64 (SS a b x.1).2),(9,I (x.1:Int))]) (fun x=>[(2,b2,a.map U64,25),(3,b3,b.map U64,25),(4,b4,(List.replicate 6 0#64).map U64,25),(6,b6,(SS a b x.1).1.map U64,25)]) (fun x=>6-x.1) ⟨0,by omega⟩ hGF ⟨rfl,rfl,rfl,rfl,rfl,rfl,trivial⟩ ⟨rfl,rfl,rfl,rfl,trivial⟩<|?_
 rintro ⟨i,hi⟩
 dsimp only
 refine Xp<|Bnr rfl rfl (fun _=>aA _ _ _)<|aa<|ae<|?_
 refine bj rfl (fun hc=> ?_) (fun hc=> ?_)
 ·simp only[decide_eq_true_eq]at hc
  refine au<|ae<|ai<|Xp<|Mv rfl<|Asg rfl<|aa<|Xe []<|Mv rfl<|Mv rfl<|Ia (i) rfl rfl underlying25 sizeOf24<|Lm 2 U64 0 rfl rfl isAgg24 (by rw[ha];omega)<|Mv rfl<|Ia (i) rfl rfl underlying25 sizeOf24<|Lm 3 U64 0 rfl rfl isAgg24 (by rw[hb];omega)<|Mv rfl<|aI rfl rfl (fun w=>Ds _ _ _ (mo a b i) w) rfl rfl<|Mv rfl<|Ext rfl rfl<|Ext rfl rfl<|Ia (i) rfl rfl underlying25 sizeOf24<|aP 6 U64 hGF rfl rfl rfl sizeOf24 rfl (by rw[az];omega) rfl<|Asg rfl<|aa<|Xq<|Bnr rfl rfl (fun _=>aw _ _ _ (by unfold inI;omega))<|Mv rfl<|aa<|?_
  repeat (refine aR ?_)
  exact aG<|⟨rfl,⟨i+1,by omega⟩,_,by show 6-(i+1)<6-i;omega,rfl,⟨rfl,rfl,rfl,rfl,rfl,rfl,trivial⟩,⟨rfl,rfl,rfl,rfl,trivial⟩⟩
 ·obtain rfl:i=6:=by simp at hc;omega
  refine aT<|Xp<|Lw 6 rfl rfl bk (az _ _ _)<|Mv rfl<|Sw 4 hGF rfl rfl rfl bk (az _ _ _)<|Asg rfl<|aa<|ap<|Rr<|?_
  exact bw 4 rfl rfl rfl rfl isAgg25 sizeOf25 (by rw[List.length_map,az]) (fun w hw=>⟨rfl,ac hw⟩)
theorem fI(a b:List (BitVec 64))(ha:a.length=6)(hb:b.length=6):Pure Tryz.prog Gt 159 [.agg ((a).map U64).toArray,.agg ((b).map U64).toArray] (.tuple #[.agg (((AS a b 6).1).map U64).toArray,U64 (AS a b 6).2]):=by
 intro w hw
 refine Hf func159 rfl hw<|fun hGF=>Xp<|Bx 2 hGF rfl<|fun b2=>Bx 3 hGF rfl<|fun b3=>Al 4 hGF zv35<|fun b4=>Asg rfl<|aa<|Xp<|Al 6 hGF zv35<|fun b6=>aa<|Xp<|Asg rfl<|aa<|ae<|Xp<|Asg rfl<|aa<|ai<|bB (ι:={i:Nat // i≤6}) (fun x=>[(2,.pointer (some ⟨b2,0,none⟩)),(3,.pointer (some ⟨b3,0,none⟩)),(4,.pointer (some ⟨b4,0,none⟩)),(6,.pointer (some ⟨b6,0,none⟩)),(7,U64 (AS a b x.1).2),(8,I (x.1:Int))]) (fun x=>[(2,b2,a.map U64,35),(3,b3,b.map U64,35),(4,b4,(List.replicate 6 0#64).map U64,35),(6,b6,(AS a b x.1).1.map U64,35)]) (fun x=>6-x.1) ⟨0,by omega⟩ hGF ⟨rfl,rfl,rfl,rfl,rfl,rfl,trivial⟩ ⟨rfl,rfl,rfl,rfl,trivial⟩<|?_
 rintro ⟨i,hi⟩
 dsimp only
 refine ae<|Xp<|Mv rfl<|Bnr rfl rfl (fun _=>aA _ _ _)<|aa<|?_
 refine bj rfl (fun hc=> ?_) (fun hc=> ?_)
 ·simp only[decide_eq_true_eq]at hc
  refine au<|ae<|ai<|Xe []<|Mv rfl<|Mv rfl<|Ia (i) rfl rfl underlying35 sizeOf24<|Lm 2 U64 0 rfl rfl isAgg24 (by rw[ha];omega)<|Mv rfl<|Ia (i) rfl rfl underlying35 sizeOf24<|Lm 3 U64 0 rfl rfl isAgg24 (by rw[hb];omega)<|Mv rfl<|aI rfl rfl (fun w=>bZ _ _ _ (wu a b i) w) rfl rfl<|Mv rfl<|Ext rfl rfl<|Ext rfl rfl<|Ia (i) rfl rfl underlying35 sizeOf24<|aP 6 U64 hGF rfl rfl rfl sizeOf24 rfl (by rw[aE];omega) rfl<|Asg rfl<|aa<|Xq<|Mv rfl<|Bnr rfl rfl (fun _=>aw _ _ _ (by unfold inI;omega))<|Asg rfl<|aa<|?_
  repeat (refine aR ?_)
  exact aG<|⟨rfl,⟨i+1,by omega⟩,_,by show 6-(i+1)<6-i;omega,rfl,⟨rfl,rfl,rfl,rfl,rfl,rfl,trivial⟩,⟨rfl,rfl,rfl,rfl,trivial⟩⟩
 ·obtain rfl:i=6:=by simp at hc;omega
  refine aT<|Xp<|Lw 6 rfl rfl bu (aE _ _ _)<|Mv rfl<|Sw 4 hGF rfl rfl rfl bu (aE _ _ _)<|Asg rfl<|aa<|ap<|Rr<|?_
  exact bw 4 rfl rfl rfl rfl isAgg35 sizeOf35 (by rw[List.length_map,aE]) (fun w hw=>⟨rfl,ac hw⟩)
theorem cH(a b:List (BitVec 64))(ha:a.length=6)(hb:b.length=6):Pure Tryz.prog Gt 152 [.agg ((a).map U64).toArray,.agg ((b).map U64).toArray] (.tuple #[.agg (((SS a b 6).1).map U64).toArray,U64 (SS a b 6).2]):=by
 intro w hw
 refine Hf func152 rfl hw<|fun hGF=>Xp<|Bx 2 hGF rfl<|fun b2=>Bx 3 hGF rfl<|fun b3=>Al 4 hGF zv35<|fun b4=>Asg rfl<|aa<|Xp<|Al 6 hGF zv35<|fun b6=>aa<|Xp<|Asg rfl<|aa<|ae<|Xp<|Asg rfl<|aa<|ai<|bB (ι:={i:Nat // i≤6}) (fun x=>[(2,.pointer (some ⟨b2,0,none⟩)),(3,.pointer (some ⟨b3,0,none⟩)),(4,.pointer (some ⟨b4,0,none⟩)),(6,.pointer (some ⟨b6,0,none⟩)),(7,U64 (SS a b x.1).2),(8,I (x.1:Int))]) (fun x=>[(2,b2,a.map U64,35),(3,b3,b.map U64,35),(4,b4,(List.replicate 6 0#64).map U64,35),(6,b6,(SS a b x.1).1.map U64,35)]) (fun x=>6-x.1) ⟨0,by omega⟩ hGF ⟨rfl,rfl,rfl,rfl,rfl,rfl,trivial⟩ ⟨rfl,rfl,rfl,rfl,trivial⟩<|?_
 rintro ⟨i,hi⟩
 dsimp only
 refine ae<|Xp<|Mv rfl<|Bnr rfl rfl (fun _=>aA _ _ _)<|aa<|?_
 refine bj rfl (fun hc=> ?_) (fun hc=> ?_)
 ·simp only[decide_eq_true_eq]at hc
  refine au<|ae<|ai<|Xe []<|Mv rfl<|Mv rfl<|Ia (i) rfl rfl underlying35 sizeOf24<|Lm 2 U64 0 rfl rfl isAgg24 (by rw[ha];omega)<|Mv rfl<|Ia (i) rfl rfl underlying35 sizeOf24<|Lm 3 U64 0 rfl rfl isAgg24 (by rw[hb];omega)<|Mv rfl<|aI rfl rfl (fun w=>Ds _ _ _ (mo a b i) w) rfl rfl<|Mv rfl<|Ext rfl rfl<|Ext rfl rfl<|Ia (i) rfl rfl underlying35 sizeOf24<|aP 6 U64 hGF rfl rfl rfl sizeOf24 rfl (by rw[az];omega) rfl<|Asg rfl<|aa<|Xq<|Mv rfl<|Bnr rfl rfl (fun _=>aw _ _ _ (by unfold inI;omega))<|Asg rfl<|aa<|?_
  repeat (refine aR ?_)
  exact aG<|⟨rfl,⟨i+1,by omega⟩,_,by show 6-(i+1)<6-i;omega,rfl,⟨rfl,rfl,rfl,rfl,rfl,rfl,trivial⟩,⟨rfl,rfl,rfl,rfl,trivial⟩⟩
 ·obtain rfl:i=6:=by simp at hc;omega
  refine aT<|Xp<|Lw 6 rfl rfl bu (az _ _ _)<|Mv rfl<|Sw 4 hGF rfl rfl rfl bu (az _ _ _)<|Asg rfl<|aa<|ap<|Rr<|?_
  exact bw 4 rfl rfl rfl rfl isAgg35 sizeOf35 (by rw[List.length_map,az]) (fun w hw=>⟨rfl,ac hw⟩)
theorem hO(a b:List (BitVec 64))(ha:a.length=6)(hb:b.length=6):Pure Tryz.prog Gt 128 [.agg ((a).map U64).toArray,.agg ((b).map U64).toArray] (.bool (LT a b 6)):=by
 intro w hw
 refine Hf func128 rfl hw<|fun hGF=>Xp<|Bx 2 hGF rfl<|fun b2=>Bx 3 hGF rfl<|fun b3=>Asg rfl<|aa<|r4<|ae<|s9<|ae<|Xp<|Asg rfl<|aa<|ai<|bB (ι:={i:Nat // i≤6∧LT a b 6=LT a b i}) (fun x=>[(2,.pointer (some ⟨b2,0,none⟩)),(3,.pointer (some ⟨b3,0,none⟩)),(4,.bool false),(5,I ((x.1:Int)-1))]) (fun x=>[(2,b2,a.map U64,25),(3,b3,b.map U64,25)]) (fun x=>x.1) ⟨6,by omega,rfl⟩ hGF ⟨rfl,rfl,rfl,rfl,trivial⟩ ⟨rfl,rfl,trivial⟩<|?_
 rintro ⟨i,hi,hlt⟩
 dsimp only
 refine ae<|Xp<|Mv rfl<|Bnr rfl rfl (fun _=>dX _ _ _)<|aa<|?_
 refine bj rfl (fun hc=> ?_) (fun hc=> ?_)
 ·simp only[decide_eq_true_eq]at hc
  obtain ⟨k,rfl⟩: ∃k,i=k+1:=⟨i-1,by omega⟩
  refine au<|ae<|ai<|ai<|Xd []<|Mv rfl<|Ia (k) rfl rfl underlying25 sizeOf24<|Lm 2 U64 0 rfl rfl isAgg24 (by rw[ha];omega)<|Mv rfl<|Ia (k) rfl rfl underlying25 sizeOf24<|Lm 3 U64 0 rfl rfl isAgg24 (by rw[hb];omega)<|Bnr rfl rfl (fun _=>kd _ _ _)<|Asg rfl<|aa<|?_
  refine bj rfl (fun hc=> ?_) (fun hc=> ?_)
  ·simp only[decide_eq_true_eq]at hc
   have hfin:LT a b 6=true:=by rw[hlt,LT,if_pos hc]
   refine Xp<|Asg rfl<|aa<|ap<|?_
   repeat (first|refine ck ?_|refine cn ?_|refine kQ ?_)
   exact aJ rfl rfl (fun w hw=>⟨by rw[hfin];rfl,ac hw⟩)
  ·simp only[decide_eq_false_iff_not]at hc
   have hc1:=hc
   refine Xd []<|Mv rfl<|Ia (k) rfl rfl underlying25 sizeOf24<|Lm 2 U64 0 rfl rfl isAgg24 (by rw[ha];omega)<|Mv rfl<|Ia (k) rfl rfl underlying25 sizeOf24<|Lm 3 U64 0 rfl rfl isAgg24 (by rw[hb];omega)<|Bnr rfl rfl (fun _=>fq _ _ _)<|Asg rfl<|aa<|?_
   refine bj rfl (fun hc=> ?_) (fun hc=> ?_)
   ·simp only[decide_eq_true_eq]at hc
    have hfin:LT a b 6=false:=by rw[hlt,LT,if_neg hc1,if_pos hc]
    refine aT<|Xp<|Asg rfl<|aa<|ap<|?_
    repeat (first|refine ck ?_|refine cn ?_|refine kQ ?_)
    exact aJ rfl rfl (fun w hw=>⟨by rw[hfin];rfl,ac hw⟩)
   ·simp only[decide_eq_false_iff_not]at hc
    refine au<|Xq<|Mv rfl<|Bnr (v:=I ((k:Int)-1)) rfl rfl (fun _=>(aX _ _ _ (by unfold inI;omega)).trans (by rw[show (((k+1:Nat):Int)-1)-1=(k:Int)-1 by omega]))<|Asg rfl<|aa<|?_
    repeat (refine aR ?_)
    exact aG<|⟨rfl,⟨k,by omega,by rw[hlt,LT,if_neg hc1,if_neg hc]⟩,_,by show k<k+1;omega,rfl,⟨rfl,rfl,rfl,rfl,trivial⟩,⟨rfl,rfl,trivial⟩⟩
 ·simp only[decide_eq_false_iff_not]at hc
  obtain rfl:i=0:=by omega
  have hfin:LT a b 6=false:=hlt
  refine aT<|Xp<|Asg rfl<|aa<|ap<|?_
  repeat (first|refine ck ?_|refine cn ?_|refine kQ ?_)
  exact aJ rfl rfl (fun w hw=>⟨by rw[hfin];rfl,ac hw⟩)
theorem aV(x y:BitVec 64):Pure Tryz.prog Gt 151 [U64 x,U64 y] (.tuple #[U64 (MH x y),U64 (MLo x y)]):=by
 intro w hw
 refine Hf func151 rfl hw<|fun hGF=>Xp<|Asg rfl<|Asg rfl<|aa<|Xp<|Mv rfl<|Bnr rfl rfl (fun _=>dr _ _ _)<|Asg rfl<|aa<|Xp<|Mv rfl<|Bnr rfl rfl (fun _=>cB _ _ _)<|Asg rfl<|aa<|Xp<|Mv rfl<|Bnr rfl rfl (fun _=>dr _ _ _)<|Asg rfl<|aa<|Xp<|Mv rfl<|Bnr rfl rfl (fun _=>cB _ _ _)<|Asg rfl<|aa<|Xp<|Mv rfl<|Mv rfl<|Bnr rfl rfl (fun _=>bD _ _ _)<|Asg rfl<|aa<|Xp<|Mv rfl<|Mv rfl<|Bnr rfl rfl (fun _=>bD _ _ _)<|Mv rfl<|Bnr rfl rfl (fun _=>cB _ _ _)<|Bnr rfl rfl (fun _=>aq _ _ _)<|Asg rfl<|aa<|?_
 refine Xp<|Mv rfl<|Bnr rfl rfl (fun _=>dr _ _ _)<|Asg rfl<|aa<|Xp<|Mv rfl<|Bnr rfl rfl (fun _=>cB _ _ _)<|Asg rfl<|aa<|Xp<|Mv rfl<|Mv rfl<|Mv rfl<|Bnr rfl rfl (fun _=>bD _ _ _)<|Bnr rfl rfl (fun _=>aq _ _ _)<|Asg rfl<|aa<|Xp<|Mv rfl<|Mv rfl<|Bnr rfl rfl (fun _=>bD _ _ _)<|Mv rfl<|Bnr rfl rfl (fun _=>aq _ _ _)<|Mv rfl<|Bnr rfl rfl (fun _=>cB _ _ _)<|Bnr rfl rfl (fun _=>aq _ _ _)<|Asg rfl<|aa<|Xp<|Mv rfl<|Mv rfl<|Bnr rfl rfl (fun _=>bD _ _ _)<|Asg rfl<|aa<|ap<|Rr<|?_
 exact cW rfl rfl rfl (fun w hw=>⟨by rw[←J9,←Gl];rfl,ac hw⟩)
theorem dw(x y c d:BitVec 64):Pure Tryz.prog Gt 131 [U64 x,U64 y,U64 c,U64 d] (.tuple #[U64 (MA x y c d).1,U64 (MA x y c d).2]):=by
 intro w hw
 refine Hf func131 rfl hw<|fun hGF=>Xp<|Asg rfl<|Asg rfl<|aa<|Xp<|Mv rfl<|Mv rfl<|Ca rfl (aV _ _)<|Mv rfl<|Ext rfl rfl<|Ext rfl rfl<|Asg rfl<|Asg rfl<|aa<|Xp<|Mv rfl<|Mv rfl<|aI rfl rfl (fun w=>bZ _ _ _ (by decide) w) rfl rfl<|Mv rfl<|Ext rfl rfl<|Ext rfl rfl<|Asg rfl<|Asg rfl<|aa<|Xp<|Mv rfl<|Mv rfl<|Bnr rfl rfl (fun _=>aq _ _ _)<|Asg rfl<|aa<|Xp<|Mv rfl<|Mv rfl<|aI rfl rfl (fun w=>bZ _ _ _ (by decide) w) rfl rfl<|Mv rfl<|Ext rfl rfl<|Ext rfl rfl<|Asg rfl<|Asg rfl<|?_
 refine aa<|Xp<|Mv rfl<|Mv rfl<|Mv rfl<|Bnr rfl rfl (fun _=>aq _ _ _)<|Asg rfl<|Asg rfl<|aa<|ap<|Rr<|?_
 exact cW rfl rfl rfl (fun w hw=>⟨rfl,ac hw⟩)
end
section
open Go.RowKit
theorem eqg(op:BinOp)(x y:Operand)(xs ys:Array Value)(w:World):(eqGuard op 25 x y (.agg xs) (.agg ys)).run Tryz.prog w=.ok () w:=run_eqGuard_agg w op 25 x y xs ys (by kernel_rfl)
theorem KY(op:BinOp)(x y:Operand)(xs ys:Array Value)(w:World):(eqGuard op 35 x y (.agg xs) (.agg ys)).run Tryz.prog w=.ok () w:=run_eqGuard_agg w op 35 x y xs ys (by kernel_rfl)
theorem eq23(xs ys:List (BitVec 64))(h:xs.length=6)(h':ys.length=6)(w:World):(binOp .eql 25 (.agg (xs.map U64).toArray) (.agg (ys.map U64).toArray)).run Tryz.prog w=.ok (.bool (decide (xs=ys))) w:=l9 underlying25 underlying24 sizeOf24 isAgg24 xs ys h h' w
theorem eq27(xs ys:List (BitVec 64))(h:xs.length=6)(h':ys.length=6)(w:World):(binOp .eql 35 (.agg (xs.map U64).toArray) (.agg (ys.map U64).toArray)).run Tryz.prog w=.ok (.bool (decide (xs=ys))) w:=l9 underlying35 underlying24 sizeOf24 isAgg24 xs ys h h' w
theorem bJ{n:Nat}{b1:Nat}{c1:List Value}{t1:TypeId}: ∀i j b c t c' t',lkB [(n,b1,c1,t1)] i=some (b,c,t)→lkB [(n,b1,c1,t1)] j=some (b,c',t')→i=j:=by
 intro i j b c t c' t' h1 h2
 rcases aF h1 with ⟨e1,x1⟩|⟨_,h1⟩
 ·rcases aF h2 with ⟨e2,x2⟩|⟨_,h2⟩
  ·exact e1.trans e2.symm
  ·cases h2
 ·cases h1
theorem bQ{J:(Nat→Prop)→World→Prop}(hr:Rides J){Y:Nat→Prop}{w:World}(h:J Y w):J (fun _=>False) w:=hr.less _ _ _ (fun _ h=>h.elim) h
theorem lR(a:List (BitVec 64))(top:BitVec 64)(m:List (BitVec 64))(ha:a.length=6)(hm:m.length=6):Pure Tryz.prog Gt 132 [.agg ((a).map U64).toArray,U64 top,.agg ((m).map U64).toArray] (.agg ((RED a top m).map U64).toArray):=by
 intro w hw
 refine Hf func132 rfl hw ?_
 intro hGF
 by_cases h1:top=0
 ·by_cases h2:(SS a m 6).2=1
  ·refine Xp<|Bx 3 hGF rfl<|fun b3=>Bx 5 hGF rfl<|fun b5=>Al 6 hGF zv25<|fun b6=>aa<|Xp<|Lw 3 rfl rfl bk ha<|Lw 5 rfl rfl bk hm<|Ca rfl (gV a m ha hm)<|Mv rfl<|Ext rfl rfl<|Ext rfl rfl<|Al 7 hGF zv25<|fun b7=>Sw 7 hGF rfl rfl rfl bk (az _ _ _)<|Asg rfl<|aa<|ae<|Xp<|Mv rfl<|Bnr (v:=.bool true) rfl rfl (fun w=>(a5 _ _ _).trans (congrArg (fun b=>Result.ok (Value.bool b) w) (beq_iff_eq.2 h1)))<|Mv rfl<|Mv rfl<|Bnr (v:=.bool true) rfl rfl (fun w=>(a5 _ _ _).trans (congrArg (fun b=>Result.ok (Value.bool b) w) (beq_iff_eq.2 h2)))<|Pk rfl rfl rfl<|aa<|ba rfl<|Xp<|Lw 3 rfl rfl bk ha<|Sw 6 hGF rfl rfl rfl bk ha<|aa<|ap<|Rr<|?_
   exact av 6 rfl rfl rfl isAgg25 sizeOf25 (by rw[List.length_map,ha]) (fun w hw=>⟨by rw[RED,if_pos (⟨h1,h2⟩)],ac hw⟩)
  ·refine Xp<|Bx 3 hGF rfl<|fun b3=>Bx 5 hGF rfl<|fun b5=>Al 6 hGF zv25<|fun b6=>aa<|Xp<|Lw 3 rfl rfl bk ha<|Lw 5 rfl rfl bk hm<|Ca rfl (gV a m ha hm)<|Mv rfl<|Ext rfl rfl<|Ext rfl rfl<|Al 7 hGF zv25<|fun b7=>Sw 7 hGF rfl rfl rfl bk (az _ _ _)<|Asg rfl<|aa<|ae<|Xp<|Mv rfl<|Bnr (v:=.bool true) rfl rfl (fun w=>(a5 _ _ _).trans (congrArg (fun b=>Result.ok (Value.bool b) w) (beq_iff_eq.2 h1)))<|Mv rfl<|Mv rfl<|Bnr (v:=.bool false) rfl rfl (fun w=>(a5 _ _ _).trans (congrArg (fun b=>Result.ok (Value.bool b) w) (beq_eq_false_iff_ne.2 h2)))<|Pk rfl rfl rfl<|aa<|aL rfl<|au<|Xp<|Lw 7 rfl rfl bk (az _ _ _)<|Sw 6 hGF rfl rfl rfl bk (az _ _ _)<|aa<|ap<|Rr<|?_
   exact av 6 rfl rfl rfl isAgg25 sizeOf25 (by rw[List.length_map,az]) (fun w hw=>⟨by rw[RED,if_neg (fun h=>h2 h.2)],ac hw⟩)
 ·refine Xp<|Bx 3 hGF rfl<|fun b3=>Bx 5 hGF rfl<|fun b5=>Al 6 hGF zv25<|fun b6=>aa<|Xp<|Lw 3 rfl rfl bk ha<|Lw 5 rfl rfl bk hm<|Ca rfl (gV a m ha hm)<|Mv rfl<|Ext rfl rfl<|Ext rfl rfl<|Al 7 hGF zv25<|fun b7=>Sw 7 hGF rfl rfl rfl bk (az _ _ _)<|Asg rfl<|aa<|ae<|Xp<|Mv rfl<|Bnr (v:=.bool false) rfl rfl (fun w=>(a5 _ _ _).trans (congrArg (fun b=>Result.ok (Value.bool b) w) (beq_eq_false_iff_ne.2 h1)))<|Mv rfl<|Sk<|Sk<|Pk rfl rfl rfl<|aa<|aL rfl<|au<|Xp<|Lw 7 rfl rfl bk (az _ _ _)<|Sw 6 hGF rfl rfl rfl bk (az _ _ _)<|aa<|ap<|Rr<|?_
  exact av 6 rfl rfl rfl isAgg25 sizeOf25 (by rw[List.length_map,az]) (fun w hw=>⟨by rw[RED,if_neg (fun h=>h1 h.1)],ac hw⟩)
def nN(bb b:Nat)(a:List (BitVec 64))(n:Nat):Cls:=fun W=>W.cell? ⟨bb,0,none⟩=some (.slice (some ⟨b,0,none⟩) n n)∧W.rangeAt b 0 (a.map U64)
def DG(a:List (BitVec 64))(n:Nat):List (List Value):=(List.range (64*n)).map fun j=>[I ((64*n-1-j:Nat):Int),U64 (dig a (64*n-1-j))]
theorem dp(a:List (BitVec 64))(n:Nat):(DG a n).length=64*n:=by simp[DG]
theorem HV(a:List (BitVec 64))(n q s:Nat)(hq:q<n)(hs:s<64):(DG a n)[64*(n-(q+1))+(64-(s+1))]? =some [I ((64*q+s:Nat):Int),U64 (dig a (64*q+s))]:=by
 have h:64*(n-(q+1))+(64-(s+1))<64*n:=by omega
 rw[DG,List.getElem?_map,List.getElem?_range h]
 simp only[Option.map_some]
 rw[show 64*n-1-(64*(n-(q+1))+(64-(s+1)))=64*q+s by omega]
theorem JY(a:List (BitVec 64))(n k:Nat)(x:List Value)(h:(DG a n)[k]? =some x):k<64*n∧x=[I ((64*n-1-k:Nat):Int),U64 (dig a (64*n-1-k))]:=by
 have hk:k<64*n:=by
  rcases Nat.lt_or_ge k (64*n)with h'|h'
  ·exact h'
  ·rw[List.getElem?_eq_none (by rw[dp];exact h')]at h;cases h
 rw[DG,List.getElem?_map,List.getElem?_range hk]at h
 exact ⟨hk,(Option.some.inj h).symm⟩
theorem nG(sv:Value)(hs:sv.cells= #[sv])(w:World)(hw:Gt w):Calls Tryz.prog 161 [sv].toArray w (fun e w'=> ∃b1,e=.returned (.func (.func 176) #[] #[.pointer (some ⟨b1,0,none⟩)])∧Grow w w'∧w.heap.size≤b1∧OwnB w' b1 [sv] 153):=by
 refine Hf func161 rfl hw<|fun hGF=>Xp<|jH 1 hGF rfl rfl rfl<|fun b1=>Asg rfl<|aa<|Xp<|ia rfl rfl rfl rfl<|Asg rfl<|aa<|ap<|Rr<|?_
 exact aJ rfl rfl (fun w hw=>⟨b1,rfl,ac hw,(hw.own 1 b1 _ _ rfl).2.elim id False.elim,(by have:=(hw.own 1 b1 _ _ rfl).1;rw[hs]at this;exact this)⟩)
theorem rB(bb b:Nat)(a:List (BitVec 64))(n:Nat)(hn:n≤100)(ha:a.length=n):gI Tryz.prog Gt 176 [.pointer (some ⟨bb,0,none⟩)] (DG a n) (nN bb b a n):=by
 intro l J Jx hJ hJx hRd hGx hY w hj
 have okJ: ∀k,BOk Gt (Bi w (fun Y=>J Y k)):=fun k=>⟨fun _ _ _ h=>(hRd _ _ _ h.rid).1,hJ k⟩
 have okX: ∀k,BOk Gt (Bi w (fun Y=>Jx Y k)):=fun k=>⟨fun _ _ _ h=>hGx _ _ _ h.rid,hJx k⟩
 have c1: ∀k L w',Hp (Bi w (fun Y=>J Y k)) L w'→nN bb b a n w':=fun k L w' h=>(hRd _ _ _ h.rid).2
 refine cr (G:=Gt) func176 rfl rfl (Hp (Bi w (fun Y=>J Y 0)) []) (cu (Bi w _) hj (hJ 0)) (ay (okJ 0))<|r4<|ae<|s9<|Xp<|bp rfl isAgg153 (fun w h=>(c1 _ _ w h).1) rfl rfl<|aZ rfl (fun _=>aC underlying153 _ _ _ _) rfl rfl<|Bnr rfl rfl (fun _=>aX _ _ _ (by unfold inI;omega))<|Asg rfl<|aa<|ai<|iA (ι:={i:Nat // i≤n}) (fun x=>[(0,.func (.yield l) #[] #[]),(1,.pointer (some ⟨bb,0,none⟩)),(3,I ((x.1:Int)-1))]) (fun x=>Bi w (fun Y=>J Y (64*(n-x.1)))) (fun x=>[]) (fun x=>x.1) ⟨n,Nat.le_refl _⟩ (fun _=>okJ _) (by rw[Nat.sub_self]) ⟨rfl,rfl,rfl,trivial⟩ trivial<|?_
 rintro ⟨i,hi⟩
 dsimp only
 refine ae<|Xp<|Mv rfl<|Bnr rfl rfl (fun _=>dX _ _ _)<|aa<|?_
 refine bj rfl (fun hc=> ?_) (fun hc=> ?_)
 ·simp only[decide_eq_true_eq]at hc
  obtain ⟨q,rfl⟩: ∃q,i=q+1:=⟨i-1,by omega⟩
  clear hc
  rw[show ((q+1:Nat):Int)-1=(q:Int) by omega]
  refine au<|ae<|ai<|Xp<|Asg rfl<|aa<|ai<|iA (ι:={r:Nat // r≤64}) (fun x=>[(0,.func (.yield l) #[] #[]),(1,.pointer (some ⟨bb,0,none⟩)),(3,I (q:Int)),(4,I ((x.1:Int)-1))]) (fun x=>Bi w (fun Y=>J Y (64*(n-(q+1))+(64-x.1)))) (fun x=>[]) (fun x=>x.1) ⟨64,Nat.le_refl _⟩ (fun _=>okJ _) rfl ⟨rfl,rfl,rfl,rfl,trivial⟩ trivial<|?_
  rintro ⟨r,hr⟩
  dsimp only
  refine ae<|Xp<|Mv rfl<|Bnr rfl rfl (fun _=>dX _ _ _)<|aa<|?_
  refine bj rfl (fun hc=> ?_) (fun hc=> ?_)
  ·simp only[decide_eq_true_eq]at hc
   obtain ⟨s,rfl⟩: ∃s,r=s+1:=⟨r-1,by omega⟩
   clear hc
   rw[show ((s+1:Nat):Int)-1=(s:Int) by omega]
   refine au<|ae<|ai<|Xp<|Mv rfl<|Mv rfl<|Bnr (v:=I ((64*q:Nat):Int)) rfl rfl (fun _=>(a7 _ _ _ (by unfold inI;omega)).trans (by rw[show (64:Int)*(q:Int)=((64*q:Nat):Int) by omega]))<|Mv rfl<|Bnr (v:=I ((64*q+s:Nat):Int)) rfl rfl (fun _=>(aw _ _ _ (by unfold inI;omega)).trans (by rw[show ((64*q:Nat):Int)+(s:Int)=((64*q+s:Nat):Int) by omega]))<|bp rfl isAgg153 (fun w h=>(c1 _ _ w h).1) rfl rfl<|Mv rfl<|GK q rfl rfl underlying153 sizeOf24 (by omega) (by omega) rfl rfl<|bp rfl isAgg24 (fun w h=>(c1 _ _ w h).2 q _ (gm U64 a 0 q (by omega))) rfl rfl<|Mv rfl<|Bnr rfl rfl (fun _=>dg _ _ _ (by omega))<|Bnr (v:=U64 (dig a (64*q+s))) rfl rfl (fun _=>(dr _ _ _).trans (by rw[←Gs a q s (by omega)];rfl))<|?_
   refine dM (hY.b (k:=64*(n-(q+1))+(64-(s+1))) (HV a n q s (by omega) (by omega)) w) (okJ _) (okX _) rfl rfl rfl rfl rfl ?_ ?_
   ·refine bz rfl (fun _=>bi _) rfl rfl<|aa<|aL rfl<|au<|Xq<|Mv rfl<|Bnr rfl rfl (fun _=>aX _ _ _ (by unfold inI;omega))<|Asg rfl<|aa<|?_
    rw[show 64*(n-(q+1))+(64-(s+1))+1=64*(n-(q+1))+(64-s) by omega]
    repeat (refine aR ?_)
    exact aG<|⟨rfl,⟨s,by omega⟩,_,by show s<s+1;omega,rfl,⟨rfl,rfl,rfl,rfl,trivial⟩,trivial⟩
   ·refine bz rfl (fun _=>bi _) rfl rfl<|aa<|ba rfl<|aT<|?_
    repeat (first|refine ew ?_|refine dH ?_|refine eT rfl ?_)
    exact CT<|cv rfl (fun w hw=>⟨⟨_,rfl⟩,.inr ⟨_,bQ (hJx _) hw.rid⟩⟩)
  ·simp only[decide_eq_false_iff_not]at hc
   obtain rfl:r=0:=by omega
   clear hc
   rw[show 64*(n-(q+1))+(64-0)=64*(n-q) by omega]
   refine aT<|Xq<|Mv rfl<|Bnr rfl rfl (fun _=>aX _ _ _ (by unfold inI;omega))<|Asg rfl<|aa<|?_
   repeat (refine aR ?_)
   exact aG<|⟨rfl,⟨q,by omega⟩,_,by show q<q+1;omega,rfl,⟨rfl,rfl,rfl,trivial⟩,trivial⟩
 ·simp only[decide_eq_false_iff_not]at hc
  obtain rfl:i=0:=by omega
  refine aT ?_
  repeat (first|refine ew ?_|refine dH ?_|refine eT rfl ?_)
  refine CT ?_
  refine cv rfl (fun w hw=>⟨⟨_,rfl⟩,.inl ?_⟩)
  have:=bQ (hJ _) hw.rid
  rw[dp]
  exact this
end
section
open Go.RowKit
theorem xm(t m:List (BitVec 64))(ht:t.length=12)(hm:m.length=6):Pure Tryz.prog Gt 129 [.agg ((t).map U64).toArray,.agg ((m).map U64).toArray] (.agg ((MOD t m).map U64).toArray):=by
 intro w hw
 have hGF:BOk Gt (pl w):=gt_low.plain hw
 refine dq (G:=Gt) func129 rfl rfl (Hp (pl w) []) (cu (pl w) trivial ao) (ay hGF)<|ak (E:=EE [161])<|Bx 2 hGF rfl<|fun b2=>Bx 3 hGF rfl<|fun b3=>Al 4 hGF zv25<|fun b4=>aa<|ak (E:=EE [161])<|Al 5 hGF zv25<|fun b5=>aa<|ae<|ak (E:=EE [161])<|Lw 3 rfl rfl bk hm<|Lw 5 rfl rfl bk List.length_replicate<|bW rfl rfl (fun w=>eqg _ _ _ _ _ w) (fun w=>eq23 m (List.replicate 6 0) hm rfl w) rfl rfl<|aa<|?_
 refine bj rfl (fun hc=> ?_) (fun hc=> ?_)
 ·simp only[decide_eq_true_eq]at hc
  refine ak (E:=EE [161])<|Lw 5 rfl rfl bk List.length_replicate<|aH 4 hGF rfl rfl rfl sizeOf25 (by simp) (by rw[List.length_map,List.length_replicate]) (bg _) rfl<|aa<|ap<|Rr<|?_
  exact Au (.inl rfl) (av 4 rfl rfl rfl isAgg25 sizeOf25 (by rw[List.length_map,List.length_replicate]) (fun w hw=>⟨by rw[MOD,if_pos hc];rfl,ac hw⟩))
 ·simp only[decide_eq_false_iff_not]at hc
  refine au<|ae<|ak (E:=EE [161])<|cg (l:=0) (h':=12) rfl underlying137 sizeOf24 rfl rfl (by omega) (by omega) rfl rfl<|?_
  refine gG rfl rfl ent161 rfl rfl (fun w' hw'=>(nG _ rfl w' (hGF.g _ _ _ hw')).mono fun e w'' h=> ?_)
  obtain ⟨c1,rfl,hg,h1,ho⟩:=h
  refine ⟨_,_,rfl,ay hGF,hw'.news ao hg [(33,c1,[.slice (some ⟨b2,0,none⟩) 12 12],153)] ?_ bJ, ?_⟩
  ·intro n' b' c' t' hl
   rcases aF hl with ⟨_,e⟩|⟨_,hl⟩
   ·cases e;exact ⟨h1,ho⟩
   ·cases hl
  clear hw' hg h1 ho
  refine aa<|ai<|?_
  refine h7 (fun _=>pl w) (fun _ _=>pl w) (fun _=>hGF) (fun _ _=>hGF) (fun _=>rfl) (fun _ _=>rfl) rfl rfl ent176 (rB c1 b2 t 12 (by decide) ht) (fun x hx=>by obtain ⟨k,hk,rfl⟩:=List.mem_map.1 hx;rfl) rfl (fun k=>[(2,b2,t.map U64,137),(3,b3,m.map U64,25),(4,b4,(List.replicate 6 0#64).map U64,25),(5,b5,(MDs t m k).map U64,25),(33,c1,[.slice (some ⟨b2,0,none⟩) 12 12],153)]) (fun _ _ _=>False) ⟨rfl,rfl,rfl,rfl,rfl,trivial⟩ (fun k _ w' h=>⟨cm (n:=33) rfl rfl w' h,bv (n:=2) rfl w' h⟩) ?_ ?_ (fun _ _ _ _ _ h=>h.elim)
  ·intro k x hx R hR
   obtain ⟨hk,rfl⟩:=JY t 12 k x hx
   rw[show 64*12-1-k=767-k from rfl]
   refine cM (E:=EE [161])<|Asg rfl<|aa<|?_
   refine ⟨rfl,_,rfl, ?_⟩
   exact ai<|ak (E:=EE [161])<|Lw 5 rfl rfl bk (eF _ _ _)<|Lw 5 rfl rfl bk (eF _ _ _)<|Ca rfl (lF _ _ (eF t m _) (eF t m _))<|Mv rfl<|Ext rfl rfl<|Ext rfl rfl<|dZ 8 (hR (pl w) rfl hGF).2.1 zv25 rfl rfl<|fun b8=>aH 8 (hR (pl w) rfl hGF).2.1 rfl rfl rfl sizeOf25 (by rw[List.length_map,aE]) (by rw[List.length_map,List.length_replicate]) (bg _) rfl<|Asg rfl<|aa<|ak (E:=EE [161])<|Ia (0) rfl rfl underlying25 sizeOf24<|Lm 8 U64 0 rfl rfl isAgg24 (by rw[aE];omega)<|Mv rfl<|Bnr rfl rfl (fun _=>dV _ _ _)<|Ia (0) rfl rfl underlying25 sizeOf24<|aP 8 U64 (hR (pl w) rfl hGF).2.1 rfl rfl rfl sizeOf24 rfl (by rw[aE];omega) rfl<|aa<|cM (E:=EE [161])<|cx 8 rfl rfl isAgg25 sizeOf25 (by rw[List.length_map,List.length_set,aE]) rfl rfl<|Mv rfl<|Lw 3 rfl rfl bk hm<|Ca rfl (lR _ _ _ (rL _ _) hm)<|aH 5 (hR (pl w) rfl hGF).2.1 rfl rfl rfl sizeOf25 (by rw[List.length_map];exact ge _ _ _ (rL _ _)) (by rw[List.length_map,eF]) (bg _) rfl<|aa<|⟨_,rfl,⟨rfl,rfl,rfl,rfl,rfl,trivial⟩⟩
  ·intro D hD
   rw[dp]
   refine ak (E:=EE [161])<|Lw 5 rfl rfl bk (eF _ _ _)<|Sw 4 hD rfl rfl rfl bk (eF _ _ _)<|aa<|ap<|Rr<|?_
   exact ib (.inl rfl) ao (av 4 rfl rfl rfl isAgg25 sizeOf25 (by rw[List.length_map,eF]) (fun w hw=>⟨by rw[MOD,if_neg hc],ac hw⟩))
end
section
open Go.RowKit
theorem rD(a:Option Addr)(cap:Nat)(bs:List (BitVec 8))(w:World)(hw:Gt w)(hby:BytesAt w a bs):
 Calls Tryz.prog 39 [.slice a bs.length cap].toArray w (fun e w'=>e=.returned (if 48<bs.length then .tuple #[.agg ((List.replicate 6 0#64).map U64).toArray,.bool false]else .tuple #[.agg ((FRs bs bs.length).map U64).toArray,.bool true])∧Grow w w'):=by
 refine Hf func39 rfl hw ?_
 intro hGF
 by_cases hA:48<bs.length
 ·refine Xp<|Al 2 hGF zv25<|fun b2=>Asg rfl<|aa<|Xp<|Al 4 hGF zv25<|fun b4=>aa<|ae<|Xp<|Mv rfl<|aZ rfl (fun _=>aC underlying22 _ _ _ _) rfl rfl<|Bnr (v:=.bool true) rfl rfl (fun _=>(aU _ _ _).trans (by rw[decide_eq_true (by omega:((bs.length:Int)>48))]))<|aa<|ba rfl<|Xp<|Lw 4 rfl rfl bk List.length_replicate<|Sw 2 hGF rfl rfl rfl bk List.length_replicate<|Asg rfl<|aa<|ap<|Rr<|?_
  exact bw 2 rfl rfl rfl rfl isAgg25 sizeOf25 (by rw[List.length_map,List.length_replicate]) (fun w hw=>⟨by rw[if_pos hA];rfl,ac hw⟩)
 ·refine Xp<|Al 2 hGF zv25<|fun b2=>Asg rfl<|aa<|Xp<|Al 4 hGF zv25<|fun b4=>aa<|ae<|Xp<|Mv rfl<|aZ rfl (fun _=>aC underlying22 _ _ _ _) rfl rfl<|Bnr (v:=.bool false) rfl rfl (fun _=>(aU _ _ _).trans (by rw[decide_eq_false (by omega: ¬((bs.length:Int)>48))]))<|aa<|aL rfl<|au<|ae<|Xp<|Mv rfl<|aZ rfl (fun _=>aC underlying22 _ _ _ _) rfl rfl<|Mv rfl<|aa<|ai<|bB (ι:={i:Nat // i≤bs.length}) (fun x=>[(0,.slice a bs.length cap),(2,.pointer (some ⟨b2,0,none⟩)),(4,.pointer (some ⟨b4,0,none⟩)),(12,.slice a bs.length cap),(13,I (bs.length:Int)),(14,I (x.1:Int))]) (fun x=>[(2,b2,(List.replicate 6 0#64).map U64,25),(4,b4,(FRs bs x.1).map U64,25)]) (fun x=>bs.length-x.1) ⟨0,by omega⟩ hGF ⟨rfl,rfl,rfl,rfl,rfl,rfl,trivial⟩ ⟨rfl,rfl,trivial⟩<|?_
  rintro ⟨i,hi⟩
  dsimp only
  refine Xp<|Bnr rfl rfl (fun _=>aA _ _ _)<|aa<|ae<|?_
  refine bj rfl (fun hc=> ?_) (fun hc=> ?_)
  ·simp only[decide_eq_true_eq]at hc
   refine au<|ae<|ai<|Xp<|Mv rfl<|?_
   obtain ⟨ad,rfl,_⟩:=hby i _ (gm U8 bs 0 i (by omega))
   refine iH i rfl rfl underlying22 sizeOf5 rfl (by omega) rfl rfl<|bp rfl isAgg5 (fun w' h=>by obtain ⟨ad',e,hc⟩:=(hby.grow (ac h)) i _ (gm U8 bs 0 i (by omega));cases e;exact hc) rfl rfl<|Asg rfl<|Asg rfl<|aa<|Xp<|Mv rfl<|aZ rfl (fun _=>aC underlying22 _ _ _ _) rfl rfl<|Bnr (v:=I ((bs.length:Int)-1)) rfl rfl (fun _=>aX _ _ _ (by unfold inI;omega))<|Mv rfl<|Bnr (v:=I ((bs.length-1-i:Nat):Int)) rfl rfl (fun _=>(aX _ _ _ (by unfold inI;omega)).trans (by rw[show ((bs.length:Int)-1-(i:Int))=((bs.length-1-i:Nat):Int) by omega]))<|Asg rfl<|aa<|Xe []<|Mv rfl<|Bnr (v:=I (((bs.length-1-i) / 8:Nat):Int)) rfl rfl (fun _=>cw _ _ _ (by decide) (show inI (((bs.length-1-i) / 8:Nat):Int) by unfold inI;omega))<|Ia (((bs.length-1-i) / 8)) rfl rfl underlying25 sizeOf24<|Lm 4 U64 0 rfl rfl isAgg24 (by rw[aQ];omega)<|Mv rfl<|bF rfl rfl (fun _=>kh underlying5 underlying24 _) rfl rfl<|Mv rfl<|Bnr (v:=I (((bs.length-1-i) % 8:Nat):Int)) rfl rfl (fun _=>dY _ _ _ (by decide))<|bW (v:=I ((8*((bs.length-1-i) % 8):Nat):Int)) rfl rfl (fun _=>rfl) (fun _=>(a7 _ _ _ (by unfold inI;omega)).trans (by rw[show (8:Int)*(((bs.length-1-i) % 8:Nat):Int)=((8*((bs.length-1-i) % 8):Nat):Int) by omega])) rfl rfl<|bW (v:=U64 ((bs.getD i 0).setWidth 64<<<(8*((bs.length-1-i) % 8)))) rfl rfl (fun _=>rfl) (fun _=>im _ _ _ (by omega)) rfl rfl<|Bnr rfl rfl (fun _=>dV _ _ _)<|Ia (((bs.length-1-i) / 8)) rfl rfl underlying25 sizeOf24<|aP 4 U64 hGF rfl rfl rfl sizeOf24 rfl (by rw[aQ];omega) rfl<|aa<|Xq<|Bnr rfl rfl (fun _=>aw _ _ _ (by unfold inI;omega))<|Mv rfl<|aa<|?_
   repeat (refine aR ?_)
   exact aG<|⟨rfl,⟨i+1,by omega⟩,_,by show bs.length-(i+1)<bs.length-i;omega,rfl,⟨rfl,rfl,rfl,rfl,rfl,rfl,trivial⟩,⟨rfl,rfl,trivial⟩⟩
  ·obtain rfl:i=bs.length:=by simp at hc;omega
   refine aT<|Xp<|Lw 4 rfl rfl bk (aQ _ _)<|Sw 2 hGF rfl rfl rfl bk (aQ _ _)<|Asg rfl<|aa<|ap<|Rr<|?_
   exact bw 2 rfl rfl rfl rfl isAgg25 sizeOf25 (by rw[List.length_map,aQ]) (fun w hw=>⟨by rw[if_neg hA];rfl,ac hw⟩)
theorem pO(a:Option Addr)(cap:Nat)(bs:List (BitVec 8))(w:World)(hw:Gt w)(hby:BytesAt w a bs):
 Calls Tryz.prog 124 [.slice a bs.length cap].toArray w (fun e w'=>e=.returned (if 48<bs.length then .tuple #[.agg ((List.replicate 6 0#64).map U64).toArray,.bool false]else .tuple #[.agg ((FRs bs bs.length).map U64).toArray,.bool true])∧Grow w w'):=by
 refine Hf func124 rfl hw ?_
 intro hGF
 by_cases hA:48<bs.length
 ·refine Xp<|Al 2 hGF zv35<|fun b2=>Asg rfl<|aa<|ae<|Xp<|Mv rfl<|aZ rfl (fun _=>aC underlying22 _ _ _ _) rfl rfl<|Bnr (v:=.bool true) rfl rfl (fun _=>(aU _ _ _).trans (by rw[decide_eq_true (by omega:((bs.length:Int)>48))]))<|aa<|ba rfl<|Xp<|eP zv35 underlying35 sizeOf24 rfl rfl<|Sw 2 hGF rfl rfl rfl bu List.length_replicate<|Asg rfl<|aa<|ap<|Rr<|?_
  exact bw 2 rfl rfl rfl rfl isAgg35 sizeOf35 (by rw[List.length_map,List.length_replicate]) (fun w hw=>⟨by rw[if_pos hA];rfl,ac hw⟩)
 ·refine Xp<|Al 2 hGF zv35<|fun b2=>Asg rfl<|aa<|ae<|Xp<|Mv rfl<|aZ rfl (fun _=>aC underlying22 _ _ _ _) rfl rfl<|Bnr (v:=.bool false) rfl rfl (fun _=>(aU _ _ _).trans (by rw[decide_eq_false (by omega: ¬((bs.length:Int)>48))]))<|aa<|aL rfl<|au<|Xp<|Al 4 hGF zv35<|fun b4=>aa<|ae<|Xp<|Asg rfl<|aa<|ai<|bB (ι:={i:Nat // i≤bs.length}) (fun x=>[(0,.slice a bs.length cap),(2,.pointer (some ⟨b2,0,none⟩)),(4,.pointer (some ⟨b4,0,none⟩)),(5,I (x.1:Int))]) (fun x=>[(2,b2,(List.replicate 6 0#64).map U64,35),(4,b4,(FRs bs x.1).map U64,35)]) (fun x=>bs.length-x.1) ⟨0,by omega⟩ hGF ⟨rfl,rfl,rfl,rfl,trivial⟩ ⟨rfl,rfl,trivial⟩<|?_
  rintro ⟨i,hi⟩
  dsimp only
  refine ae<|Xp<|Mv rfl<|Mv rfl<|aZ rfl (fun _=>aC underlying22 _ _ _ _) rfl rfl<|Bnr rfl rfl (fun _=>aA _ _ _)<|aa<|?_
  refine bj rfl (fun hc=> ?_) (fun hc=> ?_)
  ·simp only[decide_eq_true_eq]at hc
   refine au<|ae<|ai<|Xp<|Mv rfl<|aZ rfl (fun _=>aC underlying22 _ _ _ _) rfl rfl<|Bnr (v:=I ((bs.length:Int)-1)) rfl rfl (fun _=>aX _ _ _ (by unfold inI;omega))<|Mv rfl<|Bnr (v:=I ((bs.length-1-i:Nat):Int)) rfl rfl (fun _=>(aX _ _ _ (by unfold inI;omega)).trans (by rw[show ((bs.length:Int)-1-(i:Int))=((bs.length-1-i:Nat):Int) by omega]))<|Asg rfl<|aa<|Xe []<|Mv rfl<|Bnr (v:=I (((bs.length-1-i) / 8:Nat):Int)) rfl rfl (fun _=>cw _ _ _ (by decide) (show inI (((bs.length-1-i) / 8:Nat):Int) by unfold inI;omega))<|Ia (((bs.length-1-i) / 8)) rfl rfl underlying35 sizeOf24<|Lm 4 U64 0 rfl rfl isAgg24 (by rw[aQ];omega)<|Mv rfl<|Mv rfl<|?_
   obtain ⟨ad,rfl,_⟩:=hby i _ (gm U8 bs 0 i (by omega))
   refine iH i rfl rfl underlying22 sizeOf5 rfl (by omega) rfl rfl<|bp rfl isAgg5 (fun w' h=>by obtain ⟨ad',e,hc⟩:=(hby.grow (ac h)) i _ (gm U8 bs 0 i (by omega));cases e;exact hc) rfl rfl<|bF rfl rfl (fun _=>kh underlying5 underlying24 _) rfl rfl<|Mv rfl<|Bnr (v:=I (((bs.length-1-i) % 8:Nat):Int)) rfl rfl (fun _=>dY _ _ _ (by decide))<|bW (v:=I ((8*((bs.length-1-i) % 8):Nat):Int)) rfl rfl (fun _=>rfl) (fun _=>(a7 _ _ _ (by unfold inI;omega)).trans (by rw[show (8:Int)*(((bs.length-1-i) % 8:Nat):Int)=((8*((bs.length-1-i) % 8):Nat):Int) by omega])) rfl rfl<|bW (v:=U64 ((bs.getD i 0).setWidth 64<<<(8*((bs.length-1-i) % 8)))) rfl rfl (fun _=>rfl) (fun _=>im _ _ _ (by omega)) rfl rfl<|Bnr rfl rfl (fun _=>dV _ _ _)<|Ia (((bs.length-1-i) / 8)) rfl rfl underlying35 sizeOf24<|aP 4 U64 hGF rfl rfl rfl sizeOf24 rfl (by rw[aQ];omega) rfl<|aa<|Xq<|Mv rfl<|Bnr rfl rfl (fun _=>aw _ _ _ (by unfold inI;omega))<|Asg rfl<|aa<|?_
   repeat (refine aR ?_)
   exact aG<|⟨rfl,⟨i+1,by omega⟩,_,by show bs.length-(i+1)<bs.length-i;omega,rfl,⟨rfl,rfl,rfl,rfl,trivial⟩,⟨rfl,rfl,trivial⟩⟩
  ·obtain rfl:i=bs.length:=by simp at hc;omega
   refine aT<|Xp<|Lw 4 rfl rfl bu (aQ _ _)<|Sw 2 hGF rfl rfl rfl bu (aQ _ _)<|Asg rfl<|aa<|ap<|Rr<|?_
   exact bw 2 rfl rfl rfl rfl isAgg35 sizeOf35 (by rw[List.length_map,aQ]) (fun w hw=>⟨by rw[if_neg hA];rfl,ac hw⟩)
theorem iL(a:List (BitVec 64))(ha:a.length=6):Pure Tryz.prog Gt 54 [.agg ((a).map U64).toArray] (.agg ((BYs a 48).map U8).toArray):=by
 intro w hw
 refine Hf func54 rfl hw<|fun hGF=>Xp<|Bx 1 hGF rfl<|fun b1=>Al 2 hGF zv60<|fun b2=>aa<|Xp<|Al 3 hGF zv60<|fun b3=>aa<|ae<|Xp<|Mv rfl<|aa<|ai<|bB (ι:={i:Nat // i≤48}) (fun x=>[(1,.pointer (some ⟨b1,0,none⟩)),(2,.pointer (some ⟨b2,0,none⟩)),(3,.pointer (some ⟨b3,0,none⟩)),(6,I (x.1:Int))]) (fun x=>[(1,b1,a.map U64,25),(2,b2,(List.replicate 48 0#8).map U8,60),(3,b3,(BYs a x.1).map U8,60)]) (fun x=>48-x.1) ⟨0,by omega⟩ hGF ⟨rfl,rfl,rfl,rfl,trivial⟩ ⟨rfl,rfl,rfl,trivial⟩<|?_
 rintro ⟨i,hi⟩
 dsimp only
 refine Xp<|Bnr rfl rfl (fun _=>aA _ _ _)<|aa<|ae<|?_
 refine bj rfl (fun hc=> ?_) (fun hc=> ?_)
 ·simp only[decide_eq_true_eq]at hc
  refine au<|ae<|ai<|Xp<|Mv rfl<|Asg rfl<|aa<|Xp<|Mv rfl<|Bnr (v:=I ((47-i:Nat):Int)) rfl rfl (fun _=>(aX _ _ _ (by unfold inI;omega)).trans (by rw[show ((47:Int)-(i:Int))=((47-i:Nat):Int) by omega]))<|Asg rfl<|aa<|Xq<|Mv rfl<|Mv rfl<|Bnr (v:=I (((47-i) / 8:Nat):Int)) rfl rfl (fun _=>cw _ _ _ (by decide) (show inI (((47-i) / 8:Nat):Int) by unfold inI;omega))<|Ia (((47-i) / 8)) rfl rfl underlying25 sizeOf24<|Lm 1 U64 0 rfl rfl isAgg24 (by rw[ha];omega)<|Mv rfl<|Bnr (v:=I (((47-i) % 8:Nat):Int)) rfl rfl (fun _=>dY _ _ _ (by decide))<|bW (v:=I ((8*((47-i) % 8):Nat):Int)) rfl rfl (fun _=>rfl) (fun _=>(a7 _ _ _ (by unfold inI;omega)).trans (by rw[show (8:Int)*(((47-i) % 8:Nat):Int)=((8*((47-i) % 8):Nat):Int) by omega])) rfl rfl<|bW (v:=U64 (a.getD ((47-i) / 8) 0>>>(8*((47-i) % 8)))) rfl rfl (fun _=>rfl) (fun _=>dg _ _ _ (by omega)) rfl rfl<|bF rfl rfl (fun _=>fy underlying24 underlying5 _) rfl rfl<|Ia (i) rfl rfl underlying60 sizeOf5<|aP 3 U8 hGF rfl rfl rfl sizeOf5 rfl (by rw[aK];omega) rfl<|aa<|Xq<|Bnr rfl rfl (fun _=>aw _ _ _ (by unfold inI;omega))<|Mv rfl<|aa<|?_
  repeat (refine aR ?_)
  exact aG<|⟨rfl,⟨i+1,by omega⟩,_,by show 48-(i+1)<48-i;omega,rfl,⟨rfl,rfl,rfl,rfl,trivial⟩,⟨rfl,rfl,rfl,trivial⟩⟩
 ·obtain rfl:i=48:=by simp at hc;omega
  refine aT<|Xp<|Lw 3 rfl rfl ri (aK _ _)<|Sx 2 hGF rfl rfl rfl ri (aK _ _) (cf _)<|aa<|ap<|Rr<|?_
  exact av 2 rfl rfl rfl isAgg60 sizeOf60 (by rw[List.length_map,aK]) (fun w hw=>⟨rfl,ac hw⟩)
theorem fG(a:List (BitVec 64))(ha:a.length=6):Pure Tryz.prog Gt 184 [.agg ((a).map U64).toArray] (.agg ((BYs a 48).map U8).toArray):=by
 intro w hw
 refine Hf func184 rfl hw<|fun hGF=>Xp<|Bx 1 hGF rfl<|fun b1=>Al 2 hGF zv60<|fun b2=>aa<|Xp<|Al 3 hGF zv60<|fun b3=>aa<|ae<|Xp<|Asg rfl<|aa<|ai<|bB (ι:={i:Nat // i≤48}) (fun x=>[(1,.pointer (some ⟨b1,0,none⟩)),(2,.pointer (some ⟨b2,0,none⟩)),(3,.pointer (some ⟨b3,0,none⟩)),(4,I (x.1:Int))]) (fun x=>[(1,b1,a.map U64,35),(2,b2,(List.replicate 48 0#8).map U8,60),(3,b3,(BYs a x.1).map U8,60)]) (fun x=>48-x.1) ⟨0,by omega⟩ hGF ⟨rfl,rfl,rfl,rfl,trivial⟩ ⟨rfl,rfl,rfl,trivial⟩<|?_
 rintro ⟨i,hi⟩
 dsimp only
 refine ae<|Xp<|Mv rfl<|Bnr rfl rfl (fun _=>aA _ _ _)<|aa<|?_
 refine bj rfl (fun hc=> ?_) (fun hc=> ?_)
 ·simp only[decide_eq_true_eq]at hc
  refine au<|ae<|ai<|Xp<|Mv rfl<|Bnr (v:=I ((47-i:Nat):Int)) rfl rfl (fun _=>(aX _ _ _ (by unfold inI;omega)).trans (by rw[show ((47:Int)-(i:Int))=((47-i:Nat):Int) by omega]))<|Asg rfl<|aa<|Xq<|Mv rfl<|Mv rfl<|Bnr (v:=I (((47-i) / 8:Nat):Int)) rfl rfl (fun _=>cw _ _ _ (by decide) (show inI (((47-i) / 8:Nat):Int) by unfold inI;omega))<|Ia (((47-i) / 8)) rfl rfl underlying35 sizeOf24<|Lm 1 U64 0 rfl rfl isAgg24 (by rw[ha];omega)<|Mv rfl<|Bnr (v:=I (((47-i) % 8:Nat):Int)) rfl rfl (fun _=>dY _ _ _ (by decide))<|bW (v:=I ((8*((47-i) % 8):Nat):Int)) rfl rfl (fun _=>rfl) (fun _=>(a7 _ _ _ (by unfold inI;omega)).trans (by rw[show (8:Int)*(((47-i) % 8:Nat):Int)=((8*((47-i) % 8):Nat):Int) by omega])) rfl rfl<|bW (v:=U64 (a.getD ((47-i) / 8) 0>>>(8*((47-i) % 8)))) rfl rfl (fun _=>rfl) (fun _=>dg _ _ _ (by omega)) rfl rfl<|bF rfl rfl (fun _=>fy underlying24 underlying5 _) rfl rfl<|Ia (i) rfl rfl underlying60 sizeOf5<|aP 3 U8 hGF rfl rfl rfl sizeOf5 rfl (by rw[aK];omega) rfl<|aa<|Xq<|Mv rfl<|Bnr rfl rfl (fun _=>aw _ _ _ (by unfold inI;omega))<|Asg rfl<|aa<|?_
  repeat (refine aR ?_)
  exact aG<|⟨rfl,⟨i+1,by omega⟩,_,by show 48-(i+1)<48-i;omega,rfl,⟨rfl,rfl,rfl,rfl,trivial⟩,⟨rfl,rfl,rfl,trivial⟩⟩
 ·obtain rfl:i=48:=by simp at hc;omega
  refine aT<|Xp<|Lw 3 rfl rfl ri (aK _ _)<|Sx 2 hGF rfl rfl rfl ri (aK _ _) (cf _)<|aa<|ap<|Rr<|?_
  exact av 2 rfl rfl rfl isAgg60 sizeOf60 (by rw[List.length_map,aK]) (fun w hw=>⟨rfl,ac hw⟩)
end
section
open Go.RowKit
theorem mh(a:BitVec 64){P:Program}{w:World}:(Op.unary .neg (U64 a)).run P w=.ok (U64 (-a)) w:=by
 show (Op.intArith .sub .u64 0 (a.toNat:Int)).run P w=_
 simp only[Op.intArith,Sem.run_pure]
 have h:=a.isLt
 congr 2
 simp only[BitVec.toNat_neg]
 congr 1
 simp only[IntKind.wrap,IntKind.signed,IntKind.bits,Bool.false_and]
 simp
 omega
theorem iN(n:BitVec 64):Pure Tryz.prog Gt 130 [U64 n] (U64 (IV n 5)):=by
 intro w hw
 refine Hf func130 rfl hw<|fun hGF=>Xp<|Asg rfl<|aa<|Xp<|Mv rfl<|Asg rfl<|aa<|ae<|Xp<|Mv rfl<|aa<|ai<|bB (ι:={i:Nat // i≤5}) (fun x=>[(0,U64 n),(2,U64 0),(3,U64 (IV n x.1)),(5,I (x.1:Int))]) (fun x=>[]) (fun x=>5-x.1) ⟨0,by omega⟩ hGF ⟨rfl,rfl,rfl,rfl,trivial⟩ trivial<|?_
 rintro ⟨i,hi⟩
 dsimp only
 refine Xp<|Bnr rfl rfl (fun _=>aA _ _ _)<|aa<|ae<|?_
 refine bj rfl (fun hc=> ?_) (fun hc=> ?_)
 ·simp only[decide_eq_true_eq]at hc
  refine au<|ae<|ai<|Xq<|Mv rfl<|Mv rfl<|Mv rfl<|Bnr rfl rfl (fun _=>bD _ _ _)<|Bnr rfl rfl (fun _=>eh _ _ _)<|Bnr rfl rfl (fun _=>bD _ _ _)<|Asg rfl<|aa<|Xq<|Bnr rfl rfl (fun _=>aw _ _ _ (by unfold inI;omega))<|Mv rfl<|aa<|?_
  repeat (refine aR ?_)
  exact aG<|⟨rfl,⟨i+1,by omega⟩,_,by show 5-(i+1)<5-i;omega,rfl,⟨rfl,rfl,rfl,rfl,trivial⟩,trivial⟩
 ·obtain rfl:i=5:=by simp at hc;omega
  refine aT<|Xp<|Mv rfl<|Asg rfl<|aa<|ap<|Rr<|?_
  exact aJ rfl rfl (fun w hw=>⟨rfl,ac hw⟩)
theorem FA:(Tryz.prog.info? 24).map (·.size)=some 1:=by kernel_rfl
theorem uI(a:List (BitVec 64))(h:a.length=6):lay 0 (a.map U64) ((List.replicate 12 0#64).map U64)=(a++List.replicate 6 0).map U64:=by
 rw[gi _ _ _ (by simp[h])]
 simp[h]
theorem jB(a b m:List (BitVec 64))(ha:a.length=6)(hb:b.length=6)(hm:m.length=6):Pure Tryz.prog Gt 84 [.agg ((a).map U64).toArray,.agg ((b).map U64).toArray,.agg ((m).map U64).toArray] (.agg ((iM a b m).map U64).toArray):=by
 intro w hw
 refine Hf func84 rfl hw ?_
 intro hGF
 by_cases h0:m.getD 0 0 % 2=0
 ·refine Xp<|Bx 3 hGF rfl<|fun b3=>Bx 4 hGF rfl<|fun b4=>Bx 5 hGF rfl<|fun b5=>Al 6 hGF zv25<|fun b6=>aa<|ae<|Xp<|Ia (0) rfl rfl underlying25 sizeOf24<|Lm 5 U64 0 rfl rfl isAgg24 (by rw[hm];omega)<|Bnr rfl rfl (fun _=>cS _ _ _ (by decide))<|Bnr (v:=.bool true) rfl rfl (fun w=>(a5 _ _ _).trans (congrArg (fun b=>Result.ok (Value.bool b) w) (beq_iff_eq.2 h0)))<|aa<|ba rfl<|Xp<|eP zv25 underlying25 sizeOf24 rfl rfl<|Sw 6 hGF rfl rfl rfl bk List.length_replicate<|aa<|ap<|Rr<|?_
  exact av 6 rfl rfl rfl isAgg25 sizeOf25 (by rw[List.length_map,List.length_replicate]) (fun w hw=>⟨by rw[iM,if_pos h0];rfl,ac hw⟩)
 cases h1:LT a m 6 with
 |true=>
  refine Xp<|Bx 3 hGF rfl<|fun b3=>Bx 4 hGF rfl<|fun b4=>Bx 5 hGF rfl<|fun b5=>Al 6 hGF zv25<|fun b6=>aa<|ae<|Xp<|Ia (0) rfl rfl underlying25 sizeOf24<|Lm 5 U64 0 rfl rfl isAgg24 (by rw[hm];omega)<|Bnr rfl rfl (fun _=>cS _ _ _ (by decide))<|Bnr (v:=.bool false) rfl rfl (fun w=>(a5 _ _ _).trans (congrArg (fun b=>Result.ok (Value.bool b) w) (beq_eq_false_iff_ne.2 h0)))<|aa<|aL rfl<|au<|ae<|Xp<|Lw 3 rfl rfl bk ha<|Lw 5 rfl rfl bk hm<|Ca rfl (hO a m ha hm)<|bz (v:=.bool false) rfl (fun _=>(bi _).trans (by rw[h1];rfl)) rfl rfl<|aa<|aL rfl<|au<|Xp<|Ia (0) rfl rfl underlying25 sizeOf24<|Lm 5 U64 0 rfl rfl isAgg24 (by rw[hm];omega)<|Ca rfl (iN _)<|bz rfl (fun _=>mh _) rfl rfl<|Asg rfl<|?_
  generalize hcl: -(IV (m.getD 0 0) 5)=cl
  refine aa<|Xp<|Al 9 hGF zv25<|fun b9=>aa<|Xp<|Asg rfl<|aa<|ae<|Xp<|Lw 3 rfl rfl bk ha<|Mv rfl<|aa<|ai<|bB (ι:={i:Nat // i≤6}) (fun x=>[(4,.pointer (some ⟨b4,0,none⟩)),(5,.pointer (some ⟨b5,0,none⟩)),(6,.pointer (some ⟨b6,0,none⟩)),(8,U64 cl),(9,.pointer (some ⟨b9,0,none⟩)),(10,U64 (MO a b m cl x.1).2),(38,.agg ((a).map U64).toArray),(39,I (x.1:Int))]) (fun x=>[(4,b4,b.map U64,25),(5,b5,m.map U64,25),(6,b6,(List.replicate 6 0#64).map U64,25),(9,b9,(MO a b m cl x.1).1.map U64,25)]) (fun x=>6-x.1) ⟨0,by omega⟩ hGF ⟨rfl,rfl,rfl,rfl,rfl,rfl,rfl,rfl,trivial⟩ ⟨rfl,rfl,rfl,rfl,trivial⟩<|?_
  rintro ⟨i,hi⟩
  dsimp only
  refine Xp<|Bnr rfl rfl (fun _=>aA _ _ _)<|aa<|ae<|?_
  refine bj rfl (fun hc=> ?_) (fun hc=> ?_)
  ·simp only[decide_eq_true_eq]at hc
   refine au<|ae<|ai<|Xp<|fk U64 0 (i) rfl rfl underlying25 sizeOf24 isAgg24 (by omega) (by omega) (ha) rfl rfl<|Asg rfl<|aa<|Xp<|Asg rfl<|Asg rfl<|aa<|ae<|Xp<|Lw 4 rfl rfl bk hb<|Mv rfl<|aa<|ai<|bB (ι:={i:Nat // i≤6}) (fun x=>[(4,.pointer (some ⟨b4,0,none⟩)),(5,.pointer (some ⟨b5,0,none⟩)),(6,.pointer (some ⟨b6,0,none⟩)),(8,U64 cl),(9,.pointer (some ⟨b9,0,none⟩)),(10,U64 (MO a b m cl i).2),(38,.agg ((a).map U64).toArray),(39,I (i:Int)),(12,U64 (a.getD i 0)),(13,U64 (MJ (a.getD i 0) b (MO a b m cl i).1 x.1).2),(14,U64 0),(42,.agg ((b).map U64).toArray),(43,I (x.1:Int))]) (fun x=>[(4,b4,b.map U64,25),(5,b5,m.map U64,25),(6,b6,(List.replicate 6 0#64).map U64,25),(9,b9,(MJ (a.getD i 0) b (MO a b m cl i).1 x.1).1.map U64,25)]) (fun x=>6-x.1) ⟨0,by omega⟩ hGF ⟨rfl,rfl,rfl,rfl,rfl,rfl,rfl,rfl,rfl,rfl,rfl,rfl,rfl,trivial⟩ ⟨rfl,rfl,rfl,rfl,trivial⟩<|?_
   rintro ⟨j,hj⟩
   dsimp only
   refine Xp<|Bnr rfl rfl (fun _=>aA _ _ _)<|aa<|ae<|?_
   refine bj rfl (fun hc=> ?_) (fun hc=> ?_)
   ·simp only[decide_eq_true_eq]at hc
    refine au<|ae<|ai<|Xp<|Mv rfl<|fk U64 0 (j) rfl rfl underlying25 sizeOf24 isAgg24 (by omega) (by omega) (hb) rfl rfl<|Asg rfl<|Asg rfl<|aa<|Xq<|Mv rfl<|Mv rfl<|Mv rfl<|Mv rfl<|Ia (j) rfl rfl underlying25 sizeOf24<|Lm 9 U64 0 rfl rfl isAgg24 (by rw[gP,cJ];omega)<|Mv rfl<|Ca rfl (dw _ _ _ _)<|Mv rfl<|Ext rfl rfl<|Ext rfl rfl<|Ia (j) rfl rfl underlying25 sizeOf24<|aP 9 U64 hGF rfl rfl rfl sizeOf24 rfl (by rw[gP,cJ];omega) rfl<|Asg rfl<|aa<|Xq<|Bnr rfl rfl (fun _=>aw _ _ _ (by unfold inI;omega))<|Mv rfl<|aa<|?_
    repeat (refine aR ?_)
    exact aG<|⟨rfl,⟨j+1,by omega⟩,_,by show 6-(j+1)<6-j;omega,rfl,⟨rfl,rfl,rfl,rfl,rfl,rfl,rfl,rfl,rfl,rfl,rfl,rfl,rfl,trivial⟩,⟨rfl,rfl,rfl,rfl,trivial⟩⟩
   ·obtain rfl:j=6:=by simp at hc;omega
    generalize hS:MJ (a.getD i 0) b (MO a b m cl i).1 6=S1
    have hSl:S1.1.length=6:=by rw[←hS,gP,cJ]
    refine aT<|Xp<|Mv rfl<|Mv rfl<|aI rfl rfl (fun w=>bZ _ _ _ (by decide) w) rfl rfl<|Mv rfl<|Ext rfl rfl<|Ext rfl rfl<|Asg rfl<|Asg rfl<|aa<|Xp<|Ia (0) rfl rfl underlying25 sizeOf24<|Lm 9 U64 0 rfl rfl isAgg24 (by rw[hSl];omega)<|Mv rfl<|Bnr rfl rfl (fun _=>bD _ _ _)<|Asg rfl<|aa<|Xp<|Mv rfl<|Ia (0) rfl rfl underlying25 sizeOf24<|Lm 5 U64 0 rfl rfl isAgg24 (by rw[hm];omega)<|Ia (0) rfl rfl underlying25 sizeOf24<|Lm 9 U64 0 rfl rfl isAgg24 (by rw[hSl];omega)<|Ca rfl (dw _ _ _ _)<|Mv rfl<|Ext rfl rfl<|Ext rfl rfl<|Asg rfl<|aa<|ae<|Xp<|Asg rfl<|aa<|ai<|bB (ι:={i:Nat // i≤5}) (fun x=>[(4,.pointer (some ⟨b4,0,none⟩)),(5,.pointer (some ⟨b5,0,none⟩)),(6,.pointer (some ⟨b6,0,none⟩)),(8,U64 cl),(9,.pointer (some ⟨b9,0,none⟩)),(10,U64 (ADC (MO a b m cl i).2 S1.2 0).1),(38,.agg ((a).map U64).toArray),(39,I (i:Int)),(14,U64 (ADC (MO a b m cl i).2 S1.2 0).2),(17,U64 (S1.1.getD 0 0*cl)),(13,U64 (MR (S1.1.getD 0 0*cl) m S1.1 x.1).2),(18,I ((x.1+1:Nat):Int))]) (fun x=>[(4,b4,b.map U64,25),(5,b5,m.map U64,25),(6,b6,(List.replicate 6 0#64).map U64,25),(9,b9,(MR (S1.1.getD 0 0*cl) m S1.1 x.1).1.map U64,25)]) (fun x=>5-x.1) ⟨0,by omega⟩ hGF ⟨rfl,rfl,rfl,rfl,rfl,rfl,rfl,rfl,rfl,rfl,rfl,rfl,trivial⟩ ⟨rfl,rfl,rfl,rfl,trivial⟩<|?_
    rintro ⟨r,hr⟩
    dsimp only
    refine ae<|Xp<|Mv rfl<|Bnr rfl rfl (fun _=>aA _ _ _)<|aa<|?_
    refine bj rfl (fun hc=> ?_) (fun hc=> ?_)
    ·simp only[decide_eq_true_eq]at hc
     refine au<|ae<|ai<|Xe []<|Mv rfl<|Bnr (v:=I (r:Int)) rfl rfl (fun _=>(aX _ _ _ (by unfold inI;omega)).trans (by rw[show (((r+1:Nat):Int)-1)=(r:Int) by omega]))<|Mv rfl<|Mv rfl<|Ia ((r+1)) rfl rfl underlying25 sizeOf24<|Lm 5 U64 0 rfl rfl isAgg24 (by rw[hm];omega)<|Mv rfl<|Ia ((r+1)) rfl rfl underlying25 sizeOf24<|Lm 9 U64 0 rfl rfl isAgg24 (by rw[fD,hSl];omega)<|Mv rfl<|Ca rfl (dw _ _ _ _)<|Mv rfl<|Ext rfl rfl<|Ext rfl rfl<|Ia (r) rfl rfl underlying25 sizeOf24<|aP 9 U64 hGF rfl rfl rfl sizeOf24 rfl (by rw[fD,hSl];omega) rfl<|Asg rfl<|aa<|Xq<|Mv rfl<|Bnr rfl rfl (fun _=>aw _ _ _ (by unfold inI;omega))<|Asg rfl<|aa<|?_
     repeat (refine aR ?_)
     exact aG<|⟨rfl,⟨r+1,by omega⟩,_,by show 5-(r+1)<5-r;omega,rfl,⟨rfl,rfl,rfl,rfl,rfl,rfl,rfl,rfl,rfl,rfl,rfl,rfl,trivial⟩,⟨rfl,rfl,rfl,rfl,trivial⟩⟩
    ·obtain rfl:r=5:=by simp at hc;omega
     generalize hM:MR (S1.1.getD 0 0*cl) m S1.1 5=R1
     have hRl:R1.1.length=6:=by rw[←hM,fD,hSl]
     refine aT<|Xp<|Mv rfl<|Mv rfl<|aI rfl rfl (fun w=>bZ _ _ _ (by decide) w) rfl rfl<|Mv rfl<|Ext rfl rfl<|Ext rfl rfl<|Ia (5) rfl rfl underlying25 sizeOf24<|aP 9 U64 hGF rfl rfl rfl sizeOf24 rfl (by rw[hRl];omega) rfl<|Asg rfl<|aa<|Xq<|Mv rfl<|Mv rfl<|Bnr rfl rfl (fun _=>aq _ _ _)<|Asg rfl<|aa<|Xq<|Bnr rfl rfl (fun _=>aw _ _ _ (by unfold inI;omega))<|Mv rfl<|aa<|?_
     repeat (refine aR ?_)
     exact aG<|⟨rfl,⟨i+1,by omega⟩,_,by show 6-(i+1)<6-i;omega,rfl,⟨rfl,rfl,rfl,rfl,rfl,by rw[kI a b m cl i hS hM];rfl,rfl,rfl,trivial⟩,⟨rfl,rfl,rfl,by rw[kI a b m cl i hS hM];rfl,trivial⟩⟩
  ·obtain rfl:i=6:=by simp at hc;omega
   refine aT<|Xp<|Lw 9 rfl rfl bk (cJ _ _ _ _ _)<|Mv rfl<|Lw 5 rfl rfl bk hm<|Ca rfl (lR _ _ _ (cJ _ _ _ _ _) hm)<|Sw 6 hGF rfl rfl rfl bk (ge _ _ _ (cJ _ _ _ _ _))<|aa<|ap<|Rr<|?_
   exact av 6 rfl rfl rfl isAgg25 sizeOf25 (by rw[List.length_map];exact ge _ _ _ (cJ _ _ _ _ _)) (fun w hw=>⟨by rw[iM,if_neg h0,if_pos h1,MN,hcl],ac hw⟩)
 |false=>
  refine Xp<|Bx 3 hGF rfl<|fun b3=>Bx 4 hGF rfl<|fun b4=>Bx 5 hGF rfl<|fun b5=>Al 6 hGF zv25<|fun b6=>aa<|ae<|Xp<|Ia (0) rfl rfl underlying25 sizeOf24<|Lm 5 U64 0 rfl rfl isAgg24 (by rw[hm];omega)<|Bnr rfl rfl (fun _=>cS _ _ _ (by decide))<|Bnr (v:=.bool false) rfl rfl (fun w=>(a5 _ _ _).trans (congrArg (fun b=>Result.ok (Value.bool b) w) (beq_eq_false_iff_ne.2 h0)))<|aa<|aL rfl<|au<|ae<|Xp<|Lw 3 rfl rfl bk ha<|Lw 5 rfl rfl bk hm<|Ca rfl (hO a m ha hm)<|bz (v:=.bool true) rfl (fun _=>(bi _).trans (by rw[h1];rfl)) rfl rfl<|aa<|ba rfl<|Xp<|Al 7 hGF zv137<|fun b7=>aa<|Xd []<|cg (l:=0) (h':=12) rfl underlying137 sizeOf24 rfl rfl (by omega) (by omega) rfl rfl<|cg (l:=0) (h':=6) rfl underlying25 sizeOf24 rfl rfl (by omega) (by omega) rfl rfl<|s8 (cs:=a.map U64) 7 hGF rfl rfl rfl underlying153 FA (by rw[List.length_map,ha];rfl) (fun w' h j v hv=>by rw[Addr.add_mid];exact bv (n:=3) rfl w' h j v hv) (bg _) (by rw[List.length_map,List.length_map,ha];decide) rfl rfl<|?_
  rw[uI a ha]
  refine aa<|Xq<|cx 7 rfl rfl isAgg137 sizeOf137 (by rw[List.length_map,List.length_append,ha,List.length_replicate]) rfl rfl<|Lw 5 rfl rfl bk hm<|Ca rfl (xm (a++List.replicate 6 0) m (by rw[List.length_append,ha];rfl) hm)<|aH 3 hGF rfl rfl rfl sizeOf25 (by rw[List.length_map,kF _ _]) (by rw[List.length_map,ha]) (bg _) rfl<|aa<|Xp<|Ia (0) rfl rfl underlying25 sizeOf24<|Lm 5 U64 0 rfl rfl isAgg24 (by rw[hm];omega)<|Ca rfl (iN _)<|bz rfl (fun _=>mh _) rfl rfl<|Asg rfl<|?_
  generalize hcl: -(IV (m.getD 0 0) 5)=cl
  refine aa<|Xp<|Al 9 hGF zv25<|fun b9=>aa<|Xp<|Asg rfl<|aa<|ae<|Xp<|Lw 3 rfl rfl bk (kF _ _)<|Mv rfl<|aa<|ai<|bB (ι:={i:Nat // i≤6}) (fun x=>[(4,.pointer (some ⟨b4,0,none⟩)),(5,.pointer (some ⟨b5,0,none⟩)),(6,.pointer (some ⟨b6,0,none⟩)),(8,U64 cl),(9,.pointer (some ⟨b9,0,none⟩)),(10,U64 (MO (MOD (a++List.replicate 6 0) m) b m cl x.1).2),(38,.agg (((MOD (a++List.replicate 6 0) m)).map U64).toArray),(39,I (x.1:Int))]) (fun x=>[(4,b4,b.map U64,25),(5,b5,m.map U64,25),(6,b6,(List.replicate 6 0#64).map U64,25),(9,b9,(MO (MOD (a++List.replicate 6 0) m) b m cl x.1).1.map U64,25)]) (fun x=>6-x.1) ⟨0,by omega⟩ hGF ⟨rfl,rfl,rfl,rfl,rfl,rfl,rfl,rfl,trivial⟩ ⟨rfl,rfl,rfl,rfl,trivial⟩<|?_
  rintro ⟨i,hi⟩
  dsimp only
  refine Xp<|Bnr rfl rfl (fun _=>aA _ _ _)<|aa<|ae<|?_
  refine bj rfl (fun hc=> ?_) (fun hc=> ?_)
  ·simp only[decide_eq_true_eq]at hc
   refine au<|ae<|ai<|Xp<|fk U64 0 (i) rfl rfl underlying25 sizeOf24 isAgg24 (by omega) (by omega) (kF _ _) rfl rfl<|Asg rfl<|aa<|Xp<|Asg rfl<|Asg rfl<|aa<|ae<|Xp<|Lw 4 rfl rfl bk hb<|Mv rfl<|aa<|ai<|bB (ι:={i:Nat // i≤6}) (fun x=>[(4,.pointer (some ⟨b4,0,none⟩)),(5,.pointer (some ⟨b5,0,none⟩)),(6,.pointer (some ⟨b6,0,none⟩)),(8,U64 cl),(9,.pointer (some ⟨b9,0,none⟩)),(10,U64 (MO (MOD (a++List.replicate 6 0) m) b m cl i).2),(38,.agg (((MOD (a++List.replicate 6 0) m)).map U64).toArray),(39,I (i:Int)),(12,U64 ((MOD (a++List.replicate 6 0) m).getD i 0)),(13,U64 (MJ ((MOD (a++List.replicate 6 0) m).getD i 0) b (MO (MOD (a++List.replicate 6 0) m) b m cl i).1 x.1).2),(14,U64 0),(42,.agg ((b).map U64).toArray),(43,I (x.1:Int))]) (fun x=>[(4,b4,b.map U64,25),(5,b5,m.map U64,25),(6,b6,(List.replicate 6 0#64).map U64,25),(9,b9,(MJ ((MOD (a++List.replicate 6 0) m).getD i 0) b (MO (MOD (a++List.replicate 6 0) m) b m cl i).1 x.1).1.map U64,25)]) (fun x=>6-x.1) ⟨0,by omega⟩ hGF ⟨rfl,rfl,rfl,rfl,rfl,rfl,rfl,rfl,rfl,rfl,rfl,rfl,rfl,trivial⟩ ⟨rfl,rfl,rfl,rfl,trivial⟩<|?_
   rintro ⟨j,hj⟩
   dsimp only
   refine Xp<|Bnr rfl rfl (fun _=>aA _ _ _)<|aa<|ae<|?_
   refine bj rfl (fun hc=> ?_) (fun hc=> ?_)
   ·simp only[decide_eq_true_eq]at hc
    refine au<|ae<|ai<|Xp<|Mv rfl<|fk U64 0 (j) rfl rfl underlying25 sizeOf24 isAgg24 (by omega) (by omega) (hb) rfl rfl<|Asg rfl<|Asg rfl<|aa<|Xq<|Mv rfl<|Mv rfl<|Mv rfl<|Mv rfl<|Ia (j) rfl rfl underlying25 sizeOf24<|Lm 9 U64 0 rfl rfl isAgg24 (by rw[gP,cJ];omega)<|Mv rfl<|Ca rfl (dw _ _ _ _)<|Mv rfl<|Ext rfl rfl<|Ext rfl rfl<|Ia (j) rfl rfl underlying25 sizeOf24<|aP 9 U64 hGF rfl rfl rfl sizeOf24 rfl (by rw[gP,cJ];omega) rfl<|Asg rfl<|aa<|Xq<|Bnr rfl rfl (fun _=>aw _ _ _ (by unfold inI;omega))<|Mv rfl<|aa<|?_
    repeat (refine aR ?_)
    exact aG<|⟨rfl,⟨j+1,by omega⟩,_,by show 6-(j+1)<6-j;omega,rfl,⟨rfl,rfl,rfl,rfl,rfl,rfl,rfl,rfl,rfl,rfl,rfl,rfl,rfl,trivial⟩,⟨rfl,rfl,rfl,rfl,trivial⟩⟩
   ·obtain rfl:j=6:=by simp at hc;omega
    generalize hS:MJ ((MOD (a++List.replicate 6 0) m).getD i 0) b (MO (MOD (a++List.replicate 6 0) m) b m cl i).1 6=S1
    have hSl:S1.1.length=6:=by rw[←hS,gP,cJ]
    refine aT<|Xp<|Mv rfl<|Mv rfl<|aI rfl rfl (fun w=>bZ _ _ _ (by decide) w) rfl rfl<|Mv rfl<|Ext rfl rfl<|Ext rfl rfl<|Asg rfl<|Asg rfl<|aa<|Xp<|Ia (0) rfl rfl underlying25 sizeOf24<|Lm 9 U64 0 rfl rfl isAgg24 (by rw[hSl];omega)<|Mv rfl<|Bnr rfl rfl (fun _=>bD _ _ _)<|Asg rfl<|aa<|Xp<|Mv rfl<|Ia (0) rfl rfl underlying25 sizeOf24<|Lm 5 U64 0 rfl rfl isAgg24 (by rw[hm];omega)<|Ia (0) rfl rfl underlying25 sizeOf24<|Lm 9 U64 0 rfl rfl isAgg24 (by rw[hSl];omega)<|Ca rfl (dw _ _ _ _)<|Mv rfl<|Ext rfl rfl<|Ext rfl rfl<|Asg rfl<|aa<|ae<|Xp<|Asg rfl<|aa<|ai<|bB (ι:={i:Nat // i≤5}) (fun x=>[(4,.pointer (some ⟨b4,0,none⟩)),(5,.pointer (some ⟨b5,0,none⟩)),(6,.pointer (some ⟨b6,0,none⟩)),(8,U64 cl),(9,.pointer (some ⟨b9,0,none⟩)),(10,U64 (ADC (MO (MOD (a++List.replicate 6 0) m) b m cl i).2 S1.2 0).1),(38,.agg (((MOD (a++List.replicate 6 0) m)).map U64).toArray),(39,I (i:Int)),(14,U64 (ADC (MO (MOD (a++List.replicate 6 0) m) b m cl i).2 S1.2 0).2),(17,U64 (S1.1.getD 0 0*cl)),(13,U64 (MR (S1.1.getD 0 0*cl) m S1.1 x.1).2),(18,I ((x.1+1:Nat):Int))]) (fun x=>[(4,b4,b.map U64,25),(5,b5,m.map U64,25),(6,b6,(List.replicate 6 0#64).map U64,25),(9,b9,(MR (S1.1.getD 0 0*cl) m S1.1 x.1).1.map U64,25)]) (fun x=>5-x.1) ⟨0,by omega⟩ hGF ⟨rfl,rfl,rfl,rfl,rfl,rfl,rfl,rfl,rfl,rfl,rfl,rfl,trivial⟩ ⟨rfl,rfl,rfl,rfl,trivial⟩<|?_
    rintro ⟨r,hr⟩
    dsimp only
    refine ae<|Xp<|Mv rfl<|Bnr rfl rfl (fun _=>aA _ _ _)<|aa<|?_
    refine bj rfl (fun hc=> ?_) (fun hc=> ?_)
    ·simp only[decide_eq_true_eq]at hc
     refine au<|ae<|ai<|Xe []<|Mv rfl<|Bnr (v:=I (r:Int)) rfl rfl (fun _=>(aX _ _ _ (by unfold inI;omega)).trans (by rw[show (((r+1:Nat):Int)-1)=(r:Int) by omega]))<|Mv rfl<|Mv rfl<|Ia ((r+1)) rfl rfl underlying25 sizeOf24<|Lm 5 U64 0 rfl rfl isAgg24 (by rw[hm];omega)<|Mv rfl<|Ia ((r+1)) rfl rfl underlying25 sizeOf24<|Lm 9 U64 0 rfl rfl isAgg24 (by rw[fD,hSl];omega)<|Mv rfl<|Ca rfl (dw _ _ _ _)<|Mv rfl<|Ext rfl rfl<|Ext rfl rfl<|Ia (r) rfl rfl underlying25 sizeOf24<|aP 9 U64 hGF rfl rfl rfl sizeOf24 rfl (by rw[fD,hSl];omega) rfl<|Asg rfl<|aa<|Xq<|Mv rfl<|Bnr rfl rfl (fun _=>aw _ _ _ (by unfold inI;omega))<|Asg rfl<|aa<|?_
     repeat (refine aR ?_)
     exact aG<|⟨rfl,⟨r+1,by omega⟩,_,by show 5-(r+1)<5-r;omega,rfl,⟨rfl,rfl,rfl,rfl,rfl,rfl,rfl,rfl,rfl,rfl,rfl,rfl,trivial⟩,⟨rfl,rfl,rfl,rfl,trivial⟩⟩
    ·obtain rfl:r=5:=by simp at hc;omega
     generalize hM:MR (S1.1.getD 0 0*cl) m S1.1 5=R1
     have hRl:R1.1.length=6:=by rw[←hM,fD,hSl]
     refine aT<|Xp<|Mv rfl<|Mv rfl<|aI rfl rfl (fun w=>bZ _ _ _ (by decide) w) rfl rfl<|Mv rfl<|Ext rfl rfl<|Ext rfl rfl<|Ia (5) rfl rfl underlying25 sizeOf24<|aP 9 U64 hGF rfl rfl rfl sizeOf24 rfl (by rw[hRl];omega) rfl<|Asg rfl<|aa<|Xq<|Mv rfl<|Mv rfl<|Bnr rfl rfl (fun _=>aq _ _ _)<|Asg rfl<|aa<|Xq<|Bnr rfl rfl (fun _=>aw _ _ _ (by unfold inI;omega))<|Mv rfl<|aa<|?_
     repeat (refine aR ?_)
     exact aG<|⟨rfl,⟨i+1,by omega⟩,_,by show 6-(i+1)<6-i;omega,rfl,⟨rfl,rfl,rfl,rfl,rfl,by rw[kI (MOD (a++List.replicate 6 0) m) b m cl i hS hM];rfl,rfl,rfl,trivial⟩,⟨rfl,rfl,rfl,by rw[kI (MOD (a++List.replicate 6 0) m) b m cl i hS hM];rfl,trivial⟩⟩
  ·obtain rfl:i=6:=by simp at hc;omega
   refine aT<|Xp<|Lw 9 rfl rfl bk (cJ _ _ _ _ _)<|Mv rfl<|Lw 5 rfl rfl bk hm<|Ca rfl (lR _ _ _ (cJ _ _ _ _ _) hm)<|Sw 6 hGF rfl rfl rfl bk (ge _ _ _ (cJ _ _ _ _ _))<|aa<|ap<|Rr<|?_
   exact av 6 rfl rfl rfl isAgg25 sizeOf25 (by rw[List.length_map];exact ge _ _ _ (cJ _ _ _ _ _)) (fun w hw=>⟨by rw[iM,if_neg h0,if_neg (by rw[h1];decide),MN,hcl],ac hw⟩)
end
end Go.Proofs.YtodgbdcjjhmnkaaGreatDoor
