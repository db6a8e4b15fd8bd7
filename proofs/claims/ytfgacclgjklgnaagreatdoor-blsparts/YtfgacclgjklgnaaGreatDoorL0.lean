/- L0 -/
import Derived.Test.YtfgacclgjklgnaaGreatDoorM0
import Derived.Test.YtfgacclgjklgnaaGreatDoorX5
import Derived.Test.YtfgacclgjklgnaaGreatDoorXW
import Derived.Test.YtfgacclgjklgnaaGreatDoorX2
import Derived.Test.YtfgacclgjklgnaaGreatDoorX3
set_option maxRecDepth 100000
set_option maxHeartbeats 1000000
namespace Go.Proofs.YtfgacclgjklgnaaGreatDoor
open Go.Proofs.Tryz
section
open Go.RowKit
def Hc:Array Value→Sem Value:=fun args=>do
 let (x,y,b)←Extern.MathBitsCarry.three "Sub64" args
 pure (Extern.MathBitsCarry.pair ((x+Extern.MathBitsCarry.m64-y-b) % Extern.MathBitsCarry.m64) (if x<y+b then 1 else 0))
theorem oR(x y c:BitVec 64)(hc:c.toNat≤1)(w:World):(callFunc 83 [U64 x,U64 y,U64 c].toArray).run prog w=.ok (.value (.tuple #[U64 (ADC x y c).1,U64 (ADC x y c).2])) w:=by
 show (callFunc 83 #[U64 x,U64 y,U64 c]).run prog w=_
 rw[run_callFunc_extern func83 kr kr kr (e:=add64Entry) kr]
 simp only[U64]
 rw[run_add64 _ _ _ om om om om]
 have h1:=x.isLt
 have h2:=y.isLt
 have e1:((x.toNat:Int)+(y.toNat:Int)+(c.toNat:Int)) % 18446744073709551616=((ADC x y c).1.toNat:Int):=by simp only[ADC,BitVec.toNat_ofNat];omega
 have e2:((x.toNat:Int)+(y.toNat:Int)+(c.toNat:Int)) / 18446744073709551616=((ADC x y c).2.toNat:Int):=by simp only[ADC,BitVec.toNat_ofNat];omega
 rw[e1,e2]
 rfl
theorem VQ(x y c:BitVec 64)(hc:c.toNat≤1)(w:World):(callFunc 132 [U64 x,U64 y,U64 c].toArray).run prog w=.ok (.value (.tuple #[U64 (SBB x y c).1,U64 (SBB x y c).2])) w:=by
 show (callFunc 132 #[U64 x,U64 y,U64 c]).run prog w=_
 rw[run_callFunc_extern func132 kr kr kr (e:=Hc) kr]
 have key: ∀b:Nat,b≤1→(Hc #[.int .u64 (x.toNat:Int),.int .u64 (y.toNat:Int),.int .u64 (b:Int)]).run prog w=
  .ok (.tuple #[.int .u64 (((x.toNat+18446744073709551616-y.toNat-b) % 18446744073709551616:Nat):Int),.int .u64 ((if x.toNat<y.toNat+b then 1 else 0:Nat):Int)]) w:=fun b hb=>by
  have:b=0∨b=1:=om
  rcases this with rfl|rfl<;>rfl
 simp only[U64]
 rw[key _ hc]
 simp only[Result.andThen,SBB,BitVec.toNat_ofNat]
 congr 5
 split<;>rfl
theorem ent38:ai prog 38:=fun _ _=>kr
theorem ent133:ai prog 133:=fun _ _=>kr
theorem ent188:ai prog 188:=fun _ _=>kr
theorem zv25(w:World):(zeroValue 25).run prog w=.ok (aT (List.replicate 6 (0#64))) w:=(zeroValue25 w).trans rr
theorem zv142(w:World):(zeroValue 142).run prog w=.ok (aT (List.replicate 12 (0#64))) w:=(zeroValue142 w).trans rr
theorem zv29(w:World):(zeroValue 29).run prog w=.ok (.agg ((List.replicate 48 (0#8)).map U8).toArray) w:=(zeroValue29 w).trans rr
theorem mx(a b:L6)(ha:a.length=6)(hb:b.length=6):PUR 77 [aT (a),aT (b)] (.tuple #[aT ((AS a b 6).1),U64 (AS a b 6).2]):=by
 intro w hw
 refine Hf func77 rfl hw<|fun hGF=>Xp<|Bx 2 hGF rfl<|fun b2=>Bx 3 hGF rfl<|fun b3=>Al 4 hGF zv25<|fun b4=>Asg rfl<|aa<|Xp<|Al 6 hGF zv25<|fun b6=>aa<|Xp<|Asg rfl<|aa<|ah<|Xp<|Mv rfl<|aa<|aj<|cG (ι:={i:Nat // i≤6}) (fun x=>[(2,pnt b2),(3,pnt b3),(4,pnt b4),(6,pnt b6),(7,U64 (AS a b x.1).2),(9,I (x.1:Int))]) (fun x=>[(2,b2,a.map U64,25),(3,b3,b.map U64,25),(4,b4,(List.replicate 6 0#64).map U64,25),(6,b6,(AS a b x.1).1.map U64,25)]) (fun x=>6-x.1) ⟨0,om⟩ hGF trv trv<|?_
 rintro ⟨i,hi⟩
 dsimp only
 refine Xp<|Bnr rfl rfl (fun _=>aF _ _ _)<|aa<|ah<|?_
 refine bZ rfl (fun hc=> ?_) (fun hc=> ?_)
 ·simp only[decide_eq_true_eq]at hc
  refine ap<|ah<|aj<|Xp<|Mv rfl<|Asg rfl<|aa<|Xe []<|Mv rfl<|Mv rfl<|Ia (i) rfl rfl underlying25 sizeOf24<|Lm 2 U64 0 rfl rfl isAgg24 (by rw[ha];omega)<|Mv rfl<|Ia (i) rfl rfl underlying25 sizeOf24<|Lm 3 U64 0 rfl rfl isAgg24 (by rw[hb];omega)<|Mv rfl<|ij rfl rfl (fun w=>oR _ _ _ (JO a b i) w) rfl rfl<|Mv rfl<|Ext rfl rfl<|Ext rfl rfl<|Ia (i) rfl rfl underlying25 sizeOf24<|bB 6 U64 hGF rfl rfl rfl sizeOf24 rfl (by rw[aU];omega) rfl<|Asg rfl<|aa<|Xq<|Bnr rfl rfl (fun _=>aA _ _ _ oi)<|Mv rfl<|aa<|?_
  repeat (refine a7 ?_)
  exact aR<|⟨rfl,⟨i+1,om⟩,_,by show 6-(i+1)<6-i;omega,rfl,trv,trv⟩
 ·obtain rfl:i=6:=by simp at hc;omega
  refine be<|Xp<|Lw 6 rfl rfl bK (aU _ _ _)<|Mv rfl<|Sw 4 hGF rfl rfl rfl bK (aU _ _ _)<|Asg rfl<|aa<|am<|Rr<|?_
  exact aZ 4 rfl rfl rfl rfl isAgg25 sizeOf25 (by rw[List.length_map,aU]) (fun w hw=>⟨rfl,ac hw⟩)
theorem iU(a b:L6)(ha:a.length=6)(hb:b.length=6):PUR 78 [aT (a),aT (b)] (.tuple #[aT ((SS a b 6).1),U64 (SS a b 6).2]):=by
 intro w hw
 refine Hf func78 rfl hw<|fun hGF=>Xp<|Bx 2 hGF rfl<|fun b2=>Bx 3 hGF rfl<|fun b3=>Al 4 hGF zv25<|fun b4=>Asg rfl<|aa<|Xp<|Al 6 hGF zv25<|fun b6=>aa<|Xp<|Asg rfl<|aa<|ah<|Xp<|Mv rfl<|aa<|aj<|cG (ι:={i:Nat // i≤6}) (fun x=>[(2,pnt b2),(3,pnt b3),(4,pnt b4),(6,pnt b6),(7,U64 (SS a b x.1).2),(9,I (x.1:Int))]) (fun x=>[(2,b2,a.map U64,25),(3,b3,b.map U64,25),(4,b4,(List.replicate 6 0#64).map U64,25),(6,b6,(SS a b x.1).1.map U64,25)]) (fun x=>6-x.1) ⟨0,om⟩ hGF trv trv<|?_
 rintro ⟨i,hi⟩
 dsimp only
 refine Xp<|Bnr rfl rfl (fun _=>aF _ _ _)<|aa<|ah<|?_
 refine bZ rfl (fun hc=> ?_) (fun hc=> ?_)
 ·simp only[decide_eq_true_eq]at hc
  refine ap<|ah<|aj<|Xp<|Mv rfl<|Asg rfl<|aa<|Xe []<|Mv rfl<|Mv rfl<|Ia (i) rfl rfl underlying25 sizeOf24<|Lm 2 U64 0 rfl rfl isAgg24 (by rw[ha];omega)<|Mv rfl<|Ia (i) rfl rfl underlying25 sizeOf24<|Lm 3 U64 0 rfl rfl isAgg24 (by rw[hb];omega)<|Mv rfl<|ij rfl rfl (fun w=>VQ _ _ _ (wy a b i) w) rfl rfl<|Mv rfl<|Ext rfl rfl<|Ext rfl rfl<|Ia (i) rfl rfl underlying25 sizeOf24<|bB 6 U64 hGF rfl rfl rfl sizeOf24 rfl (by rw[aP];omega) rfl<|Asg rfl<|aa<|Xq<|Bnr rfl rfl (fun _=>aA _ _ _ oi)<|Mv rfl<|aa<|?_
  repeat (refine a7 ?_)
  exact aR<|⟨rfl,⟨i+1,om⟩,_,by show 6-(i+1)<6-i;omega,rfl,trv,trv⟩
 ·obtain rfl:i=6:=by simp at hc;omega
  refine be<|Xp<|Lw 6 rfl rfl bK (aP _ _ _)<|Mv rfl<|Sw 4 hGF rfl rfl rfl bK (aP _ _ _)<|Asg rfl<|aa<|am<|Rr<|?_
  exact aZ 4 rfl rfl rfl rfl isAgg25 sizeOf25 (by rw[List.length_map,aP]) (fun w hw=>⟨rfl,ac hw⟩)
theorem kN(a b:L6)(ha:a.length=6)(hb:b.length=6):PUR 79 [aT (a),aT (b)] (.bool (LT a b 6)):=by
 intro w hw
 refine Hf func79 rfl hw<|fun hGF=>Xp<|Bx 2 hGF rfl<|fun b2=>Bx 3 hGF rfl<|fun b3=>Asg rfl<|aa<|gz<|ah<|i9<|ah<|Xp<|Asg rfl<|aa<|aj<|cG (ι:={i:Nat // i≤6∧LT a b 6=LT a b i}) (fun x=>[(2,pnt b2),(3,pnt b3),(4,.bool false),(5,I ((x.1:Int)-1))]) (fun x=>[(2,b2,a.map U64,25),(3,b3,b.map U64,25)]) (fun x=>x.1) ⟨6,om,rfl⟩ hGF trv trv<|?_
 rintro ⟨i,hi,hlt⟩
 dsimp only
 refine ah<|Xp<|Mv rfl<|Bnr rfl rfl (fun _=>dU _ _ _)<|aa<|?_
 refine bZ rfl (fun hc=> ?_) (fun hc=> ?_)
 ·simp only[decide_eq_true_eq]at hc
  obtain ⟨k,rfl⟩: ∃k,i=k+1:=⟨i-1,om⟩
  refine ap<|ah<|aj<|aj<|Xd []<|Mv rfl<|Ia (k) rfl rfl underlying25 sizeOf24<|Lm 2 U64 0 rfl rfl isAgg24 (by rw[ha];omega)<|Mv rfl<|Ia (k) rfl rfl underlying25 sizeOf24<|Lm 3 U64 0 rfl rfl isAgg24 (by rw[hb];omega)<|Bnr rfl rfl (fun _=>nh _ _ _)<|Asg rfl<|aa<|?_
  refine bZ rfl (fun hc=> ?_) (fun hc=> ?_)
  ·simp only[decide_eq_true_eq]at hc
   have hfin:LT a b 6=true:=by rw[hlt,LT,if_pos hc]
   refine Xp<|Asg rfl<|aa<|am<|?_
   repeat (first|refine bq ?_|refine bt ?_|refine dO ?_)
   exact aE rfl rfl (fun w hw=>⟨by rw[hfin];rfl,ac hw⟩)
  ·simp only[decide_eq_false_iff_not]at hc
   have hc1:=hc
   refine Xd []<|Mv rfl<|Ia (k) rfl rfl underlying25 sizeOf24<|Lm 2 U64 0 rfl rfl isAgg24 (by rw[ha];omega)<|Mv rfl<|Ia (k) rfl rfl underlying25 sizeOf24<|Lm 3 U64 0 rfl rfl isAgg24 (by rw[hb];omega)<|Bnr rfl rfl (fun _=>uL _ _ _)<|Asg rfl<|aa<|?_
   refine bZ rfl (fun hc=> ?_) (fun hc=> ?_)
   ·simp only[decide_eq_true_eq]at hc
    have hfin:LT a b 6=false:=by rw[hlt,LT,if_neg hc1,if_pos hc]
    refine be<|Xp<|Asg rfl<|aa<|am<|?_
    repeat (first|refine bq ?_|refine bt ?_|refine dO ?_)
    exact aE rfl rfl (fun w hw=>⟨by rw[hfin];rfl,ac hw⟩)
   ·simp only[decide_eq_false_iff_not]at hc
    refine ap<|Xq<|Mv rfl<|Bnr (v:=I ((k:Int)-1)) rfl rfl (fun _=>(bu _ _ _ oi).trans (by rw[show (((k+1:Nat):Int)-1)-1=(k:Int)-1 by omega]))<|Asg rfl<|aa<|?_
    repeat (refine a7 ?_)
    exact aR<|⟨rfl,⟨k,om,by rw[hlt,LT,if_neg hc1,if_neg hc]⟩,_,by show k<k+1;omega,rfl,trv,trv⟩
 ·simp only[decide_eq_false_iff_not]at hc
  obtain rfl:i=0:=om
  have hfin:LT a b 6=false:=hlt
  refine be<|Xp<|Asg rfl<|aa<|am<|?_
  repeat (first|refine bq ?_|refine bt ?_|refine dO ?_)
  exact aE rfl rfl (fun w hw=>⟨by rw[hfin];rfl,ac hw⟩)
theorem wi(x y:BitVec 64):PUR 134 [U64 x,U64 y] (.tuple #[U64 (MH x y),U64 (MLo x y)]):=by
 intro w hw
 refine Hf func134 rfl hw<|fun hGF=>Xp<|Asg rfl<|Asg rfl<|aa<|Xp<|Mv rfl<|Bnr rfl rfl (fun _=>fw _ _ _)<|Asg rfl<|aa<|Xp<|Mv rfl<|Bnr rfl rfl (fun _=>dJ _ _ _)<|Asg rfl<|aa<|Xp<|Mv rfl<|Bnr rfl rfl (fun _=>fw _ _ _)<|Asg rfl<|aa<|Xp<|Mv rfl<|Bnr rfl rfl (fun _=>dJ _ _ _)<|Asg rfl<|aa<|Xp<|Mv rfl<|Mv rfl<|Bnr rfl rfl (fun _=>cN _ _ _)<|Asg rfl<|aa<|Xp<|Mv rfl<|Mv rfl<|Bnr rfl rfl (fun _=>cN _ _ _)<|Mv rfl<|Bnr rfl rfl (fun _=>dJ _ _ _)<|Bnr rfl rfl (fun _=>du _ _ _)<|Asg rfl<|aa<|?_
 refine Xp<|Mv rfl<|Bnr rfl rfl (fun _=>fw _ _ _)<|Asg rfl<|aa<|Xp<|Mv rfl<|Bnr rfl rfl (fun _=>dJ _ _ _)<|Asg rfl<|aa<|Xp<|Mv rfl<|Mv rfl<|Mv rfl<|Bnr rfl rfl (fun _=>cN _ _ _)<|Bnr rfl rfl (fun _=>du _ _ _)<|Asg rfl<|aa<|Xp<|Mv rfl<|Mv rfl<|Bnr rfl rfl (fun _=>cN _ _ _)<|Mv rfl<|Bnr rfl rfl (fun _=>du _ _ _)<|Mv rfl<|Bnr rfl rfl (fun _=>dJ _ _ _)<|Bnr rfl rfl (fun _=>du _ _ _)<|Asg rfl<|aa<|Xp<|Mv rfl<|Mv rfl<|Bnr rfl rfl (fun _=>cN _ _ _)<|Asg rfl<|aa<|am<|Rr<|?_
 exact cY rfl rfl rfl (fun w hw=>⟨by rw[←RX,←Pu];rfl,ac hw⟩)
theorem fq(x y c d:BitVec 64):PUR 82 [U64 x,U64 y,U64 c,U64 d] (.tuple #[U64 (MA x y c d).1,U64 (MA x y c d).2]):=by
 intro w hw
 refine Hf func82 rfl hw<|fun hGF=>Xp<|Asg rfl<|Asg rfl<|aa<|Xp<|Mv rfl<|Mv rfl<|Ca rfl (wi _ _)<|Mv rfl<|Ext rfl rfl<|Ext rfl rfl<|Asg rfl<|Asg rfl<|aa<|Xp<|Mv rfl<|Mv rfl<|ij rfl rfl (fun w=>oR _ _ _ dc w) rfl rfl<|Mv rfl<|Ext rfl rfl<|Ext rfl rfl<|Asg rfl<|Asg rfl<|aa<|Xp<|Mv rfl<|Mv rfl<|Bnr rfl rfl (fun _=>du _ _ _)<|Asg rfl<|aa<|Xp<|Mv rfl<|Mv rfl<|ij rfl rfl (fun w=>oR _ _ _ dc w) rfl rfl<|Mv rfl<|Ext rfl rfl<|Ext rfl rfl<|Asg rfl<|Asg rfl<|?_
 refine aa<|Xp<|Mv rfl<|Mv rfl<|Mv rfl<|Bnr rfl rfl (fun _=>du _ _ _)<|Asg rfl<|Asg rfl<|aa<|am<|Rr<|?_
 exact cY rfl rfl rfl (fun w hw=>⟨rfl,ac hw⟩)
end
section
open Go.RowKit
theorem eqg(op:BinOp)(x y:Operand)(xs ys:Array Value)(w:World):(eqGuard op 25 x y (.agg xs) (.agg ys)).run prog w=.ok () w:=run_eqGuard_agg w op 25 x y xs ys kr
theorem eq23(xs ys:L6)(h:xs.length=6)(h':ys.length=6)(w:World):(binOp .eql 25 (aT xs) (aT ys)).run prog w=.ok (.bool (decide (xs=ys))) w:=vh underlying25 underlying24 sizeOf24 isAgg24 xs ys h h' w
theorem bN{n:Nat}{b1:Nat}{c1:List Value}{t1:TypeId}: ∀i j b c t c' t',lkB [(n,b1,c1,t1)] i=some (b,c,t)→lkB [(n,b1,c1,t1)] j=some (b,c',t')→i=j:=by
 intro i j b c t c' t' h1 h2
 rcases aC h1 with ⟨e1,x1⟩|⟨_,h1⟩
 ·rcases aC h2 with ⟨e2,x2⟩|⟨_,h2⟩
  ·exact e1.trans e2.symm
  ·cases h2
 ·cases h1
theorem bD{J:(Nat→Prop)→World→Prop}(hr:Rides J){Y:Nat→Prop}{w:World}(h:J Y w):J (fun _=>False) w:=hr.less _ _ _ (fun _ h=>h.elim) h
theorem qu(a:L6)(top:BitVec 64)(m:L6)(ha:a.length=6)(hm:m.length=6):PUR 84 [aT (a),U64 top,aT (m)] (aT (RED a top m)):=by
 intro w hw
 refine Hf func84 rfl hw ?_
 intro hGF
 by_cases h1:top=0
 ·by_cases h2:(SS a m 6).2=1
  ·refine Xp<|Bx 3 hGF rfl<|fun b3=>Bx 5 hGF rfl<|fun b5=>Al 6 hGF zv25<|fun b6=>aa<|Xp<|Lw 3 rfl rfl bK ha<|Lw 5 rfl rfl bK hm<|Ca rfl (iU a m ha hm)<|Mv rfl<|Ext rfl rfl<|Ext rfl rfl<|Al 7 hGF zv25<|fun b7=>Sw 7 hGF rfl rfl rfl bK (aP _ _ _)<|Asg rfl<|aa<|ah<|Xp<|Mv rfl<|Bnr (v:=.bool true) rfl rfl (fun w=>(bX _ _ _).trans (congrArg (fun b=>Result.ok (Value.bool b) w) (beq_iff_eq.2 h1)))<|Mv rfl<|Mv rfl<|Bnr (v:=.bool true) rfl rfl (fun w=>(bX _ _ _).trans (congrArg (fun b=>Result.ok (Value.bool b) w) (beq_iff_eq.2 h2)))<|Pk rfl rfl rfl<|aa<|aV rfl<|Xp<|Lw 3 rfl rfl bK ha<|Sw 6 hGF rfl rfl rfl bK ha<|aa<|am<|Rr<|?_
   exact ay 6 rfl rfl rfl isAgg25 sizeOf25 (by rw[List.length_map,ha]) (fun w hw=>⟨by rw[RED,if_pos (⟨h1,h2⟩)],ac hw⟩)
  ·refine Xp<|Bx 3 hGF rfl<|fun b3=>Bx 5 hGF rfl<|fun b5=>Al 6 hGF zv25<|fun b6=>aa<|Xp<|Lw 3 rfl rfl bK ha<|Lw 5 rfl rfl bK hm<|Ca rfl (iU a m ha hm)<|Mv rfl<|Ext rfl rfl<|Ext rfl rfl<|Al 7 hGF zv25<|fun b7=>Sw 7 hGF rfl rfl rfl bK (aP _ _ _)<|Asg rfl<|aa<|ah<|Xp<|Mv rfl<|Bnr (v:=.bool true) rfl rfl (fun w=>(bX _ _ _).trans (congrArg (fun b=>Result.ok (Value.bool b) w) (beq_iff_eq.2 h1)))<|Mv rfl<|Mv rfl<|Bnr (v:=.bool false) rfl rfl (fun w=>(bX _ _ _).trans (congrArg (fun b=>Result.ok (Value.bool b) w) (beq_eq_false_iff_ne.2 h2)))<|Pk rfl rfl rfl<|aa<|aq rfl<|ap<|Xp<|Lw 7 rfl rfl bK (aP _ _ _)<|Sw 6 hGF rfl rfl rfl bK (aP _ _ _)<|aa<|am<|Rr<|?_
   exact ay 6 rfl rfl rfl isAgg25 sizeOf25 (by rw[List.length_map,aP]) (fun w hw=>⟨by rw[RED,if_neg (fun h=>h2 h.2)],ac hw⟩)
 ·refine Xp<|Bx 3 hGF rfl<|fun b3=>Bx 5 hGF rfl<|fun b5=>Al 6 hGF zv25<|fun b6=>aa<|Xp<|Lw 3 rfl rfl bK ha<|Lw 5 rfl rfl bK hm<|Ca rfl (iU a m ha hm)<|Mv rfl<|Ext rfl rfl<|Ext rfl rfl<|Al 7 hGF zv25<|fun b7=>Sw 7 hGF rfl rfl rfl bK (aP _ _ _)<|Asg rfl<|aa<|ah<|Xp<|Mv rfl<|Bnr (v:=.bool false) rfl rfl (fun w=>(bX _ _ _).trans (congrArg (fun b=>Result.ok (Value.bool b) w) (beq_eq_false_iff_ne.2 h1)))<|Mv rfl<|Sk<|Sk<|Pk rfl rfl rfl<|aa<|aq rfl<|ap<|Xp<|Lw 7 rfl rfl bK (aP _ _ _)<|Sw 6 hGF rfl rfl rfl bK (aP _ _ _)<|aa<|am<|Rr<|?_
  exact ay 6 rfl rfl rfl isAgg25 sizeOf25 (by rw[List.length_map,aP]) (fun w hw=>⟨by rw[RED,if_neg (fun h=>h1 h.1)],ac hw⟩)
def sC(bb b:Nat)(a:L6)(n:Nat):Cls:=fun W=>W.cell? ⟨bb,0,none⟩=some (.slice (spt b) n n)∧W.rangeAt b 0 (a.map U64)
def DG(a:L6)(n:Nat):List (List Value):=(List.range (64*n)).map fun j=>[I ((64*n-1-j:Nat):Int),U64 (dig a (64*n-1-j))]
theorem eN(a:L6)(n:Nat):(DG a n).length=64*n:=by simp[DG]
theorem NI(a:L6)(n q s:Nat)(hq:q<n)(hs:s<64):(DG a n)[64*(n-(q+1))+(64-(s+1))]? =some [I ((64*q+s:Nat):Int),U64 (dig a (64*q+s))]:=by
 have h:64*(n-(q+1))+(64-(s+1))<64*n:=om
 rw[DG,List.getElem?_map,List.getElem?_range h]
 simp only[Option.map_some]
 rw[show 64*n-1-(64*(n-(q+1))+(64-(s+1)))=64*q+s by omega]
theorem LX(a:L6)(n k:Nat)(x:List Value)(h:(DG a n)[k]? =some x):k<64*n∧x=[I ((64*n-1-k:Nat):Int),U64 (dig a (64*n-1-k))]:=by
 have hk:k<64*n:=by
  rcases Nat.lt_or_ge k (64*n)with h'|h'
  ·exact h'
  ·rw[List.getElem?_eq_none (by rw[eN];exact h')]at h;cases h
 rw[DG,List.getElem?_map,List.getElem?_range hk]at h
 exact ⟨hk,(Option.some.inj h).symm⟩
theorem mq(sv:Value)(hs:sv.cells= #[sv])(w:World)(hw:Gt w):CLS 133 [sv].toArray w (fun e w'=> ∃b1,e=.returned (.func (.func 188) #[] #[pnt b1])∧Grow w w'∧w.heap.size≤b1∧OwnB w' b1 [sv] 67):=by
 refine Hf func133 rfl hw<|fun hGF=>Xp<|fN 1 hGF rfl rfl rfl<|fun b1=>Asg rfl<|aa<|Xp<|eV rfl rfl rfl rfl<|Asg rfl<|aa<|am<|Rr<|?_
 exact aE rfl rfl (fun w hw=>⟨b1,rfl,ac hw,(hw.own 1 b1 _ _ rfl).2.elim id False.elim,(by have:=(hw.own 1 b1 _ _ rfl).1;rw[hs]at this;exact this)⟩)
theorem pu(bb b:Nat)(a:L6)(n:Nat)(hn:n≤100)(ha:a.length=n):eG prog Gt 188 [pnt bb] (DG a n) (sC bb b a n):=by
 intro l J Jx hJ hJx hRd hGx hY w hj
 have okJ: ∀k,BOk Gt (Bi w (fun Y=>J Y k)):=fun k=>⟨fun _ _ _ h=>(hRd _ _ _ h.rid).1,hJ k⟩
 have okX: ∀k,BOk Gt (Bi w (fun Y=>Jx Y k)):=fun k=>⟨fun _ _ _ h=>hGx _ _ _ h.rid,hJx k⟩
 have c1: ∀k L w',Hp (Bi w (fun Y=>J Y k)) L w'→sC bb b a n w':=fun k L w' h=>(hRd _ _ _ h.rid).2
 refine cb (G:=Gt) func188 rfl rfl (Hp (Bi w (fun Y=>J Y 0)) []) (bO (Bi w _) hj (hJ 0)) (au (okJ 0))<|gz<|ah<|i9<|Xp<|bz rfl isAgg67 (fun w h=>(c1 _ _ w h).1) rfl rfl<|a5 rfl (fun _=>az underlying67 _ _ _ _) rfl rfl<|Bnr rfl rfl (fun _=>bu _ _ _ oi)<|Asg rfl<|aa<|aj<|fB (ι:={i:Nat // i≤n}) (fun x=>[(0,.func (.yield l) #[] #[]),(1,pnt bb),(3,I ((x.1:Int)-1))]) (fun x=>Bi w (fun Y=>J Y (64*(n-x.1)))) (fun x=>[]) (fun x=>x.1) ⟨n,Nat.le_refl _⟩ (fun _=>okJ _) (by rw[Nat.sub_self]) trv trivial<|?_
 rintro ⟨i,hi⟩
 dsimp only
 refine ah<|Xp<|Mv rfl<|Bnr rfl rfl (fun _=>dU _ _ _)<|aa<|?_
 refine bZ rfl (fun hc=> ?_) (fun hc=> ?_)
 ·simp only[decide_eq_true_eq]at hc
  obtain ⟨q,rfl⟩: ∃q,i=q+1:=⟨i-1,om⟩
  clear hc
  rw[show ((q+1:Nat):Int)-1=(q:Int) by omega]
  refine ap<|ah<|aj<|Xp<|Asg rfl<|aa<|aj<|fB (ι:={r:Nat // r≤64}) (fun x=>[(0,.func (.yield l) #[] #[]),(1,pnt bb),(3,I (q:Int)),(4,I ((x.1:Int)-1))]) (fun x=>Bi w (fun Y=>J Y (64*(n-(q+1))+(64-x.1)))) (fun x=>[]) (fun x=>x.1) ⟨64,Nat.le_refl _⟩ (fun _=>okJ _) rfl trv trivial<|?_
  rintro ⟨r,hr⟩
  dsimp only
  refine ah<|Xp<|Mv rfl<|Bnr rfl rfl (fun _=>dU _ _ _)<|aa<|?_
  refine bZ rfl (fun hc=> ?_) (fun hc=> ?_)
  ·simp only[decide_eq_true_eq]at hc
   obtain ⟨s,rfl⟩: ∃s,r=s+1:=⟨r-1,om⟩
   clear hc
   rw[show ((s+1:Nat):Int)-1=(s:Int) by omega]
   refine ap<|ah<|aj<|Xp<|Mv rfl<|Mv rfl<|Bnr (v:=I ((64*q:Nat):Int)) rfl rfl (fun _=>(bR _ _ _ oi).trans (by rw[show (64:Int)*(q:Int)=((64*q:Nat):Int) by omega]))<|Mv rfl<|Bnr (v:=I ((64*q+s:Nat):Int)) rfl rfl (fun _=>(aA _ _ _ oi).trans (by rw[show ((64*q:Nat):Int)+(s:Int)=((64*q+s:Nat):Int) by omega]))<|bz rfl isAgg67 (fun w h=>(c1 _ _ w h).1) rfl rfl<|Mv rfl<|Pi q rfl rfl underlying67 sizeOf24 om om rfl rfl<|bz rfl isAgg24 (fun w h=>(c1 _ _ w h).2 q _ (gm U64 a 0 q om)) rfl rfl<|Mv rfl<|Bnr rfl rfl (fun _=>eS _ _ _ om)<|Bnr (v:=U64 (dig a (64*q+s))) rfl rfl (fun _=>(fw _ _ _).trans (by rw[←P5 a q s om];rfl))<|?_
   refine cX (hY.b (k:=64*(n-(q+1))+(64-(s+1))) (NI a n q s om om) w) (okJ _) (okX _) rfl rfl rfl rfl rfl ?_ ?_
   ·refine aY rfl (fun _=>aJ _) rfl rfl<|aa<|aq rfl<|ap<|Xq<|Mv rfl<|Bnr rfl rfl (fun _=>bu _ _ _ oi)<|Asg rfl<|aa<|?_
    rw[show 64*(n-(q+1))+(64-(s+1))+1=64*(n-(q+1))+(64-s) by omega]
    repeat (refine a7 ?_)
    exact aR<|⟨rfl,⟨s,om⟩,_,by show s<s+1;omega,rfl,trv,trivial⟩
   ·refine aY rfl (fun _=>aJ _) rfl rfl<|aa<|aV rfl<|be<|?_
    repeat (first|refine cZ ?_|refine bY ?_|refine cU rfl ?_)
    exact zR<|cn rfl (fun w hw=>⟨⟨_,rfl⟩,.inr ⟨_,bD (hJx _) hw.rid⟩⟩)
  ·simp only[decide_eq_false_iff_not]at hc
   obtain rfl:r=0:=om
   clear hc
   rw[show 64*(n-(q+1))+(64-0)=64*(n-q) by omega]
   refine be<|Xq<|Mv rfl<|Bnr rfl rfl (fun _=>bu _ _ _ oi)<|Asg rfl<|aa<|?_
   repeat (refine a7 ?_)
   exact aR<|⟨rfl,⟨q,om⟩,_,by show q<q+1;omega,rfl,trv,trivial⟩
 ·simp only[decide_eq_false_iff_not]at hc
  obtain rfl:i=0:=om
  refine be ?_
  repeat (first|refine cZ ?_|refine bY ?_|refine cU rfl ?_)
  refine zR ?_
  refine cn rfl (fun w hw=>⟨⟨_,rfl⟩,.inl ?_⟩)
  have:=bD (hJ _) hw.rid
  rw[eN]
  exact this
end
section
open Go.RowKit
theorem Fs(t m:L6)(ht:t.length=12)(hm:m.length=6):PUR 80 [aT (t),aT (m)] (aT (MOD t m)):=by
 intro w hw
 have hGF:BOk Gt (pl w):=gt_low.plain hw
 refine bV (G:=Gt) func80 rfl rfl (Hp (pl w) []) (bO (pl w) trivial ak) (au hGF)<|ae (E:=EE [133])<|Bx 2 hGF rfl<|fun b2=>Bx 3 hGF rfl<|fun b3=>Al 4 hGF zv25<|fun b4=>aa<|ae (E:=EE [133])<|Al 5 hGF zv25<|fun b5=>aa<|ah<|ae (E:=EE [133])<|Lw 3 rfl rfl bK hm<|Lw 5 rfl rfl bK List.length_replicate<|dH rfl rfl (fun w=>eqg _ _ _ _ _ w) (fun w=>eq23 m (List.replicate 6 0) hm rfl w) rfl rfl<|aa<|?_
 refine bZ rfl (fun hc=> ?_) (fun hc=> ?_)
 ·simp only[decide_eq_true_eq]at hc
  refine ae (E:=EE [133])<|Lw 5 rfl rfl bK List.length_replicate<|ao 4 hGF rfl rfl rfl sizeOf25 sm (by rw[List.length_map,List.length_replicate]) (bk _) rfl<|aa<|am<|Rr<|?_
  exact IZ (.inl rfl) (ay 4 rfl rfl rfl isAgg25 sizeOf25 (by rw[List.length_map,List.length_replicate]) (fun w hw=>⟨by rw[MOD,if_pos hc];rfl,ac hw⟩))
 ·simp only[decide_eq_false_iff_not]at hc
  refine ap<|ah<|ae (E:=EE [133])<|cf (l:=0) (h':=12) rfl underlying142 sizeOf24 rfl rfl om om rfl rfl<|?_
  refine cV rfl rfl ent133 rfl rfl (fun w' hw'=>(mq _ rfl w' (hGF.g _ _ _ hw')).mono fun e w'' h=> ?_)
  obtain ⟨c1,rfl,hg,h1,ho⟩:=h
  refine ⟨_,_,rfl,au hGF,hw'.news ak hg [(33,c1,[.slice (spt b2) 12 12],67)] ?_ bN, ?_⟩
  ·intro n' b' c' t' hl
   rcases aC hl with ⟨_,e⟩|⟨_,hl⟩
   ·cases e;exact ⟨h1,ho⟩
   ·cases hl
  clear hw' hg h1 ho
  refine aa<|aj<|?_
  refine ef (fun _=>pl w) (fun _ _=>pl w) (fun _=>hGF) (fun _ _=>hGF) (fun _=>rfl) (fun _ _=>rfl) rfl rfl ent188 (pu c1 b2 t 12 dc ht) (fun x hx=>by obtain ⟨k,hk,rfl⟩:=List.mem_map.1 hx;rfl) rfl (fun k=>[(2,b2,t.map U64,142),(3,b3,m.map U64,25),(4,b4,(List.replicate 6 0#64).map U64,25),(5,b5,(MDs t m k).map U64,25),(33,c1,[.slice (spt b2) 12 12],67)]) (fun _ _ _=>False) trv (fun k _ w' h=>⟨cv (n:=33) rfl rfl w' h,aO (n:=2) rfl w' h⟩) ?_ ?_ (fun _ _ _ _ _ h=>h.elim)
  ·intro k x hx R hR
   obtain ⟨hk,rfl⟩:=LX t 12 k x hx
   rw[show 64*12-1-k=767-k from rfl]
   refine bC (E:=EE [133])<|Asg rfl<|aa<|?_
   refine ⟨rfl,_,rfl, ?_⟩
   exact aj<|ae (E:=EE [133])<|Lw 5 rfl rfl bK (gC _ _ _)<|Lw 5 rfl rfl bK (gC _ _ _)<|Ca rfl (mx _ _ (gC t m _) (gC t m _))<|Mv rfl<|Ext rfl rfl<|Ext rfl rfl<|cO 8 (hR (pl w) rfl hGF).2.1 zv25 rfl rfl<|fun b8=>ao 8 (hR (pl w) rfl hGF).2.1 rfl rfl rfl sizeOf25 (by rw[List.length_map,aU]) (by rw[List.length_map,List.length_replicate]) (bk _) rfl<|Asg rfl<|aa<|ae (E:=EE [133])<|Ia (0) rfl rfl underlying25 sizeOf24<|Lm 8 U64 0 rfl rfl isAgg24 (by rw[aU];omega)<|Mv rfl<|Bnr rfl rfl (fun _=>qf _ _ _)<|Ia (0) rfl rfl underlying25 sizeOf24<|bB 8 U64 (hR (pl w) rfl hGF).2.1 rfl rfl rfl sizeOf24 rfl (by rw[aU];omega) rfl<|aa<|bC (E:=EE [133])<|a9 8 rfl rfl isAgg25 sizeOf25 (by rw[List.length_map,List.length_set,aU]) rfl rfl<|Mv rfl<|Lw 3 rfl rfl bK hm<|Ca rfl (qu _ _ _ (wt _ _) hm)<|ao 5 (hR (pl w) rfl hGF).2.1 rfl rfl rfl sizeOf25 (by rw[List.length_map];exact jc _ _ _ (wt _ _)) (by rw[List.length_map,gC]) (bk _) rfl<|aa<|⟨_,rfl,trv⟩
  ·intro D hD
   rw[eN]
   refine ae (E:=EE [133])<|Lw 5 rfl rfl bK (gC _ _ _)<|Sw 4 hD rfl rfl rfl bK (gC _ _ _)<|aa<|am<|Rr<|?_
   exact cP (.inl rfl) ak (ay 4 rfl rfl rfl isAgg25 sizeOf25 (by rw[List.length_map,gC]) (fun w hw=>⟨by rw[MOD,if_neg hc],ac hw⟩))
end
section
open Go.RowKit
theorem pY(a:Option Addr)(cap:Nat)(bs:L8)(w:World)(hw:Gt w)(hby:BytesAt w a bs):
 CLS 38 [.slice a bs.length cap].toArray w (fun e w'=>e=.returned (if 48<bs.length then .tuple #[aT (List.replicate 6 0#64),.bool false]else .tuple #[aT (FRs bs bs.length),.bool true])∧Grow w w'):=by
 refine Hf func38 rfl hw ?_
 intro hGF
 by_cases hA:48<bs.length
 ·refine Xp<|Al 2 hGF zv25<|fun b2=>Asg rfl<|aa<|Xp<|Al 4 hGF zv25<|fun b4=>aa<|ah<|Xp<|Mv rfl<|a5 rfl (fun _=>az underlying22 _ _ _ _) rfl rfl<|Bnr (v:=.bool true) rfl rfl (fun _=>(ba _ _ _).trans (by rw[decide_eq_true (by omega:((bs.length:Int)>48))]))<|aa<|aV rfl<|Xp<|Lw 4 rfl rfl bK List.length_replicate<|Sw 2 hGF rfl rfl rfl bK List.length_replicate<|Asg rfl<|aa<|am<|Rr<|?_
  exact aZ 2 rfl rfl rfl rfl isAgg25 sizeOf25 (by rw[List.length_map,List.length_replicate]) (fun w hw=>⟨by rw[if_pos hA];rfl,ac hw⟩)
 ·refine Xp<|Al 2 hGF zv25<|fun b2=>Asg rfl<|aa<|Xp<|Al 4 hGF zv25<|fun b4=>aa<|ah<|Xp<|Mv rfl<|a5 rfl (fun _=>az underlying22 _ _ _ _) rfl rfl<|Bnr (v:=.bool false) rfl rfl (fun _=>(ba _ _ _).trans (by rw[decide_eq_false (by omega: ¬((bs.length:Int)>48))]))<|aa<|aq rfl<|ap<|ah<|Xp<|Mv rfl<|a5 rfl (fun _=>az underlying22 _ _ _ _) rfl rfl<|Mv rfl<|aa<|aj<|cG (ι:={i:Nat // i≤bs.length}) (fun x=>[(0,.slice a bs.length cap),(2,pnt b2),(4,pnt b4),(12,.slice a bs.length cap),(13,I (bs.length:Int)),(14,I (x.1:Int))]) (fun x=>[(2,b2,(List.replicate 6 0#64).map U64,25),(4,b4,(FRs bs x.1).map U64,25)]) (fun x=>bs.length-x.1) ⟨0,om⟩ hGF trv trv<|?_
  rintro ⟨i,hi⟩
  dsimp only
  refine Xp<|Bnr rfl rfl (fun _=>aF _ _ _)<|aa<|ah<|?_
  refine bZ rfl (fun hc=> ?_) (fun hc=> ?_)
  ·simp only[decide_eq_true_eq]at hc
   refine ap<|ah<|aj<|Xp<|Mv rfl<|?_
   obtain ⟨ad,rfl,_⟩:=hby i _ (gm U8 bs 0 i om)
   refine fR i rfl rfl underlying22 sizeOf5 rfl om rfl rfl<|bz rfl isAgg5 (fun w' h=>by obtain ⟨ad',e,hc⟩:=(hby.grow (ac h)) i _ (gm U8 bs 0 i om);cases e;exact hc) rfl rfl<|Asg rfl<|Asg rfl<|aa<|Xp<|Mv rfl<|a5 rfl (fun _=>az underlying22 _ _ _ _) rfl rfl<|Bnr (v:=I ((bs.length:Int)-1)) rfl rfl (fun _=>bu _ _ _ oi)<|Mv rfl<|Bnr (v:=I ((bs.length-1-i:Nat):Int)) rfl rfl (fun _=>(bu _ _ _ oi).trans (by rw[show ((bs.length:Int)-1-(i:Int))=((bs.length-1-i:Nat):Int) by omega]))<|Asg rfl<|aa<|Xe []<|Mv rfl<|Bnr (v:=I (((bs.length-1-i) / 8:Nat):Int)) rfl rfl (fun _=>mR _ _ _ dc (show inI (((bs.length-1-i) / 8:Nat):Int) by unfold inI;omega))<|Ia (((bs.length-1-i) / 8)) rfl rfl underlying25 sizeOf24<|Lm 4 U64 0 rfl rfl isAgg24 (by rw[aL];omega)<|Mv rfl<|cT rfl rfl (fun _=>vl underlying5 underlying24 _) rfl rfl<|Mv rfl<|Bnr (v:=I (((bs.length-1-i) % 8:Nat):Int)) rfl rfl (fun _=>fM _ _ _ dc)<|dH (v:=I ((8*((bs.length-1-i) % 8):Nat):Int)) rfl rfl (fun _=>rfl) (fun _=>(bR _ _ _ oi).trans (by rw[show (8:Int)*(((bs.length-1-i) % 8:Nat):Int)=((8*((bs.length-1-i) % 8):Nat):Int) by omega])) rfl rfl<|dH (v:=U64 ((bs.getD i 0).setWidth 64<<<(8*((bs.length-1-i) % 8)))) rfl rfl (fun _=>rfl) (fun _=>qR _ _ _ om) rfl rfl<|Bnr rfl rfl (fun _=>qf _ _ _)<|Ia (((bs.length-1-i) / 8)) rfl rfl underlying25 sizeOf24<|bB 4 U64 hGF rfl rfl rfl sizeOf24 rfl (by rw[aL];omega) rfl<|aa<|Xq<|Bnr rfl rfl (fun _=>aA _ _ _ oi)<|Mv rfl<|aa<|?_
   repeat (refine a7 ?_)
   exact aR<|⟨rfl,⟨i+1,om⟩,_,by show bs.length-(i+1)<bs.length-i;omega,rfl,trv,trv⟩
  ·obtain rfl:i=bs.length:=by simp at hc;omega
   refine be<|Xp<|Lw 4 rfl rfl bK (aL _ _)<|Sw 2 hGF rfl rfl rfl bK (aL _ _)<|Asg rfl<|aa<|am<|Rr<|?_
   exact aZ 2 rfl rfl rfl rfl isAgg25 sizeOf25 (by rw[List.length_map,aL]) (fun w hw=>⟨by rw[if_neg hA];rfl,ac hw⟩)
theorem lI(a:L6)(ha:a.length=6):PUR 107 [aT (a)] (.agg ((BYs a 48).map U8).toArray):=by
 intro w hw
 refine Hf func107 rfl hw<|fun hGF=>Xp<|Bx 1 hGF rfl<|fun b1=>Al 2 hGF zv29<|fun b2=>aa<|Xp<|Al 3 hGF zv29<|fun b3=>aa<|ah<|Xp<|Mv rfl<|aa<|aj<|cG (ι:={i:Nat // i≤48}) (fun x=>[(1,pnt b1),(2,pnt b2),(3,pnt b3),(6,I (x.1:Int))]) (fun x=>[(1,b1,a.map U64,25),(2,b2,(List.replicate 48 0#8).map U8,29),(3,b3,(BYs a x.1).map U8,29)]) (fun x=>48-x.1) ⟨0,om⟩ hGF trv trv<|?_
 rintro ⟨i,hi⟩
 dsimp only
 refine Xp<|Bnr rfl rfl (fun _=>aF _ _ _)<|aa<|ah<|?_
 refine bZ rfl (fun hc=> ?_) (fun hc=> ?_)
 ·simp only[decide_eq_true_eq]at hc
  refine ap<|ah<|aj<|Xp<|Mv rfl<|Asg rfl<|aa<|Xp<|Mv rfl<|Bnr (v:=I ((47-i:Nat):Int)) rfl rfl (fun _=>(bu _ _ _ oi).trans (by rw[show ((47:Int)-(i:Int))=((47-i:Nat):Int) by omega]))<|Asg rfl<|aa<|Xq<|Mv rfl<|Mv rfl<|Bnr (v:=I (((47-i) / 8:Nat):Int)) rfl rfl (fun _=>mR _ _ _ dc (show inI (((47-i) / 8:Nat):Int) by unfold inI;omega))<|Ia (((47-i) / 8)) rfl rfl underlying25 sizeOf24<|Lm 1 U64 0 rfl rfl isAgg24 (by rw[ha];omega)<|Mv rfl<|Bnr (v:=I (((47-i) % 8:Nat):Int)) rfl rfl (fun _=>fM _ _ _ dc)<|dH (v:=I ((8*((47-i) % 8):Nat):Int)) rfl rfl (fun _=>rfl) (fun _=>(bR _ _ _ oi).trans (by rw[show (8:Int)*(((47-i) % 8:Nat):Int)=((8*((47-i) % 8):Nat):Int) by omega])) rfl rfl<|dH (v:=U64 (a.getD ((47-i) / 8) 0>>>(8*((47-i) % 8)))) rfl rfl (fun _=>rfl) (fun _=>eS _ _ _ om) rfl rfl<|cT rfl rfl (fun _=>ir underlying24 underlying5 _) rfl rfl<|Ia (i) rfl rfl underlying29 sizeOf5<|bB 3 U8 hGF rfl rfl rfl sizeOf5 rfl (by rw[aK];omega) rfl<|aa<|Xq<|Bnr rfl rfl (fun _=>aA _ _ _ oi)<|Mv rfl<|aa<|?_
  repeat (refine a7 ?_)
  exact aR<|⟨rfl,⟨i+1,om⟩,_,by show 48-(i+1)<48-i;omega,rfl,trv,trv⟩
 ·obtain rfl:i=48:=by simp at hc;omega
  refine be<|Xp<|Lw 3 rfl rfl EI (aK _ _)<|Sx 2 hGF rfl rfl rfl EI (aK _ _) (bi _)<|aa<|am<|Rr<|?_
  exact ay 2 rfl rfl rfl isAgg29 sizeOf29 (by rw[List.length_map,aK]) (fun w hw=>⟨rfl,ac hw⟩)
def BT(a:L6):List (List Value):=(fJ a 384).map fun n:Nat=>[I (n:Int)]
theorem Ph(a:L6):(BT a).length=(fJ a 384).length:=by simp[BT]
theorem WM(a:L6)(k:Nat)(hk:k<384)(h:dig a (383-k)=1):(BT a)[(fJ a k).length]? =some [I ((383-k:Nat):Int)]:=by
 rw[BT,List.getElem?_map,HG a k hk h]
 rfl
theorem vi(a:L6)(k:Nat)(h:dig a (383-k)=1):(fJ a (k+1)).length=(fJ a k).length+1:=by rw[fJ,if_pos h];simp
theorem HT(a:L6)(k:Nat)(h: ¬dig a (383-k)=1):(fJ a (k+1)).length=(fJ a k).length:=by rw[fJ,if_neg h]
end
section
open Go.RowKit
end
section
open Go.RowKit
end
section
open Go.RowKit
def AB(t:L6)(c:BitVec 64):Nat→L6×BitVec 64
 |0=>(t.set 0 (ADC (t.getD 0 0) c 0).1,(ADC (t.getD 0 0) c 0).2)
 |j+1=>((AB t c j).1.set (j+1) (ADC ((AB t c j).1.getD (j+1) 0) 0 (AB t c j).2).1,(ADC ((AB t c j).1.getD (j+1) 0) 0 (AB t c j).2).2)
def WDs(bs:L8)(m:L6):Nat→L6
 |0=>List.replicate 6 0
 |i+1=>MOD (AB (MU (WDs bs m i) (256#64::List.replicate 5 0) 6) ((bs.getD i 0).setWidth 64) 11).1 m
theorem oc(bs:L8)(m:L6): ∀i,(WDs bs m i).length=6
 |0=>rfl
 |_+1=>oq _ _
end
section
open Go.RowKit
def eM(bs:L8)(i:Nat):BitVec 8:=(bs.getD (i / 8) 0>>>(7-i % 8)) &&& 1#8
end
section
open Go.RowKit
end
section
open Go.RowKit
end
section
open Go.RowKit
theorem oZ(a:BitVec 64){P:Program}{w:World}:(Op.unary .neg (U64 a)).run P w=.ok (U64 (-a)) w:=by
 show (Op.intArith .sub .u64 0 (a.toNat:Int)).run P w=_
 simp only[Op.intArith,Sem.run_pure]
 have h:=a.isLt
 congr 2
 simp only[BitVec.toNat_neg]
 congr 1
 simp only[IntKind.wrap,IntKind.signed,IntKind.bits,Bool.false_and]
 simp
 omega
theorem mw(n:BitVec 64):PUR 81 [U64 n] (U64 (IV n 5)):=by
 intro w hw
 refine Hf func81 rfl hw<|fun hGF=>Xp<|Asg rfl<|aa<|Xp<|Mv rfl<|Asg rfl<|aa<|ah<|Xp<|Mv rfl<|aa<|aj<|cG (ι:={i:Nat // i≤5}) (fun x=>[(0,U64 n),(2,U64 0),(3,U64 (IV n x.1)),(5,I (x.1:Int))]) (fun x=>[]) (fun x=>5-x.1) ⟨0,om⟩ hGF trv trivial<|?_
 rintro ⟨i,hi⟩
 dsimp only
 refine Xp<|Bnr rfl rfl (fun _=>aF _ _ _)<|aa<|ah<|?_
 refine bZ rfl (fun hc=> ?_) (fun hc=> ?_)
 ·simp only[decide_eq_true_eq]at hc
  refine ap<|ah<|aj<|Xq<|Mv rfl<|Mv rfl<|Mv rfl<|Bnr rfl rfl (fun _=>cN _ _ _)<|Bnr rfl rfl (fun _=>nf _ _ _)<|Bnr rfl rfl (fun _=>cN _ _ _)<|Asg rfl<|aa<|Xq<|Bnr rfl rfl (fun _=>aA _ _ _ oi)<|Mv rfl<|aa<|?_
  repeat (refine a7 ?_)
  exact aR<|⟨rfl,⟨i+1,om⟩,_,by show 5-(i+1)<5-i;omega,rfl,trv,trivial⟩
 ·obtain rfl:i=5:=by simp at hc;omega
  refine be<|Xp<|Mv rfl<|Asg rfl<|aa<|am<|Rr<|?_
  exact aE rfl rfl (fun w hw=>⟨rfl,ac hw⟩)
theorem OR:(prog.info? 24).map (·.size)=some 1:=kr
theorem Bu(a:L6)(h:a.length=6):lay 0 (a.map U64) ((List.replicate 12 0#64).map U64)=(a++List.replicate 6 0).map U64:=by
 rw[iz _ _ _ (by simp[h])]
 simp[h]
theorem gG(a b m:L6)(ha:a.length=6)(hb:b.length=6)(hm:m.length=6):PUR 39 [aT (a),aT (b),aT (m)] (aT (gx a b m)):=by
 intro w hw
 refine Hf func39 rfl hw ?_
 intro hGF
 by_cases h0:m.getD 0 0 % 2=0
 ·refine Xp<|Bx 3 hGF rfl<|fun b3=>Bx 4 hGF rfl<|fun b4=>Bx 5 hGF rfl<|fun b5=>Al 6 hGF zv25<|fun b6=>aa<|ah<|Xp<|Ia (0) rfl rfl underlying25 sizeOf24<|Lm 5 U64 0 rfl rfl isAgg24 (by rw[hm];omega)<|Bnr rfl rfl (fun _=>ek _ _ _ dc)<|Bnr (v:=.bool true) rfl rfl (fun w=>(bX _ _ _).trans (congrArg (fun b=>Result.ok (Value.bool b) w) (beq_iff_eq.2 h0)))<|aa<|aV rfl<|Xp<|gJ zv25 underlying25 sizeOf24 rfl rfl<|Sw 6 hGF rfl rfl rfl bK List.length_replicate<|aa<|am<|Rr<|?_
  exact ay 6 rfl rfl rfl isAgg25 sizeOf25 (by rw[List.length_map,List.length_replicate]) (fun w hw=>⟨by rw[gx,if_pos h0];rfl,ac hw⟩)
 cases h1:LT a m 6 with
 |true=>
  refine Xp<|Bx 3 hGF rfl<|fun b3=>Bx 4 hGF rfl<|fun b4=>Bx 5 hGF rfl<|fun b5=>Al 6 hGF zv25<|fun b6=>aa<|ah<|Xp<|Ia (0) rfl rfl underlying25 sizeOf24<|Lm 5 U64 0 rfl rfl isAgg24 (by rw[hm];omega)<|Bnr rfl rfl (fun _=>ek _ _ _ dc)<|Bnr (v:=.bool false) rfl rfl (fun w=>(bX _ _ _).trans (congrArg (fun b=>Result.ok (Value.bool b) w) (beq_eq_false_iff_ne.2 h0)))<|aa<|aq rfl<|ap<|ah<|Xp<|Lw 3 rfl rfl bK ha<|Lw 5 rfl rfl bK hm<|Ca rfl (kN a m ha hm)<|aY (v:=.bool false) rfl (fun _=>(aJ _).trans (by rw[h1];rfl)) rfl rfl<|aa<|aq rfl<|ap<|Xp<|Ia (0) rfl rfl underlying25 sizeOf24<|Lm 5 U64 0 rfl rfl isAgg24 (by rw[hm];omega)<|Ca rfl (mw _)<|aY rfl (fun _=>oZ _) rfl rfl<|Asg rfl<|?_
  generalize hcl: -(IV (m.getD 0 0) 5)=cl
  refine aa<|Xp<|Al 9 hGF zv25<|fun b9=>aa<|Xp<|Asg rfl<|aa<|ah<|Xp<|Lw 3 rfl rfl bK ha<|Mv rfl<|aa<|aj<|cG (ι:={i:Nat // i≤6}) (fun x=>[(4,pnt b4),(5,pnt b5),(6,pnt b6),(8,U64 cl),(9,pnt b9),(10,U64 (MO a b m cl x.1).2),(38,aT (a)),(39,I (x.1:Int))]) (fun x=>[(4,b4,b.map U64,25),(5,b5,m.map U64,25),(6,b6,(List.replicate 6 0#64).map U64,25),(9,b9,(MO a b m cl x.1).1.map U64,25)]) (fun x=>6-x.1) ⟨0,om⟩ hGF trv trv<|?_
  rintro ⟨i,hi⟩
  dsimp only
  refine Xp<|Bnr rfl rfl (fun _=>aF _ _ _)<|aa<|ah<|?_
  refine bZ rfl (fun hc=> ?_) (fun hc=> ?_)
  ·simp only[decide_eq_true_eq]at hc
   refine ap<|ah<|aj<|Xp<|jC U64 0 (i) rfl rfl underlying25 sizeOf24 isAgg24 om om (ha) rfl rfl<|Asg rfl<|aa<|Xp<|Asg rfl<|Asg rfl<|aa<|ah<|Xp<|Lw 4 rfl rfl bK hb<|Mv rfl<|aa<|aj<|cG (ι:={i:Nat // i≤6}) (fun x=>[(4,pnt b4),(5,pnt b5),(6,pnt b6),(8,U64 cl),(9,pnt b9),(10,U64 (MO a b m cl i).2),(38,aT (a)),(39,I (i:Int)),(12,U64 (a.getD i 0)),(13,U64 (MJ (a.getD i 0) b (MO a b m cl i).1 x.1).2),(14,U64 0),(42,aT (b)),(43,I (x.1:Int))]) (fun x=>[(4,b4,b.map U64,25),(5,b5,m.map U64,25),(6,b6,(List.replicate 6 0#64).map U64,25),(9,b9,(MJ (a.getD i 0) b (MO a b m cl i).1 x.1).1.map U64,25)]) (fun x=>6-x.1) ⟨0,om⟩ hGF trv trv<|?_
   rintro ⟨j,hj⟩
   dsimp only
   refine Xp<|Bnr rfl rfl (fun _=>aF _ _ _)<|aa<|ah<|?_
   refine bZ rfl (fun hc=> ?_) (fun hc=> ?_)
   ·simp only[decide_eq_true_eq]at hc
    refine ap<|ah<|aj<|Xp<|Mv rfl<|jC U64 0 (j) rfl rfl underlying25 sizeOf24 isAgg24 om om (hb) rfl rfl<|Asg rfl<|Asg rfl<|aa<|Xq<|Mv rfl<|Mv rfl<|Mv rfl<|Mv rfl<|Ia (j) rfl rfl underlying25 sizeOf24<|Lm 9 U64 0 rfl rfl isAgg24 (by rw[jS,dY];omega)<|Mv rfl<|Ca rfl (fq _ _ _ _)<|Mv rfl<|Ext rfl rfl<|Ext rfl rfl<|Ia (j) rfl rfl underlying25 sizeOf24<|bB 9 U64 hGF rfl rfl rfl sizeOf24 rfl (by rw[jS,dY];omega) rfl<|Asg rfl<|aa<|Xq<|Bnr rfl rfl (fun _=>aA _ _ _ oi)<|Mv rfl<|aa<|?_
    repeat (refine a7 ?_)
    exact aR<|⟨rfl,⟨j+1,om⟩,_,by show 6-(j+1)<6-j;omega,rfl,trv,trv⟩
   ·obtain rfl:j=6:=by simp at hc;omega
    generalize hS:MJ (a.getD i 0) b (MO a b m cl i).1 6=S1
    have hSl:S1.1.length=6:=by rw[←hS,jS,dY]
    refine be<|Xp<|Mv rfl<|Mv rfl<|ij rfl rfl (fun w=>oR _ _ _ dc w) rfl rfl<|Mv rfl<|Ext rfl rfl<|Ext rfl rfl<|Asg rfl<|Asg rfl<|aa<|Xp<|Ia (0) rfl rfl underlying25 sizeOf24<|Lm 9 U64 0 rfl rfl isAgg24 (by rw[hSl];omega)<|Mv rfl<|Bnr rfl rfl (fun _=>cN _ _ _)<|Asg rfl<|aa<|Xp<|Mv rfl<|Ia (0) rfl rfl underlying25 sizeOf24<|Lm 5 U64 0 rfl rfl isAgg24 (by rw[hm];omega)<|Ia (0) rfl rfl underlying25 sizeOf24<|Lm 9 U64 0 rfl rfl isAgg24 (by rw[hSl];omega)<|Ca rfl (fq _ _ _ _)<|Mv rfl<|Ext rfl rfl<|Ext rfl rfl<|Asg rfl<|aa<|ah<|Xp<|Asg rfl<|aa<|aj<|cG (ι:={i:Nat // i≤5}) (fun x=>[(4,pnt b4),(5,pnt b5),(6,pnt b6),(8,U64 cl),(9,pnt b9),(10,U64 (ADC (MO a b m cl i).2 S1.2 0).1),(38,aT (a)),(39,I (i:Int)),(14,U64 (ADC (MO a b m cl i).2 S1.2 0).2),(17,U64 (S1.1.getD 0 0*cl)),(13,U64 (MR (S1.1.getD 0 0*cl) m S1.1 x.1).2),(18,I ((x.1+1:Nat):Int))]) (fun x=>[(4,b4,b.map U64,25),(5,b5,m.map U64,25),(6,b6,(List.replicate 6 0#64).map U64,25),(9,b9,(MR (S1.1.getD 0 0*cl) m S1.1 x.1).1.map U64,25)]) (fun x=>5-x.1) ⟨0,om⟩ hGF trv trv<|?_
    rintro ⟨r,hr⟩
    dsimp only
    refine ah<|Xp<|Mv rfl<|Bnr rfl rfl (fun _=>aF _ _ _)<|aa<|?_
    refine bZ rfl (fun hc=> ?_) (fun hc=> ?_)
    ·simp only[decide_eq_true_eq]at hc
     refine ap<|ah<|aj<|Xe []<|Mv rfl<|Bnr (v:=I (r:Int)) rfl rfl (fun _=>(bu _ _ _ oi).trans (by rw[show (((r+1:Nat):Int)-1)=(r:Int) by omega]))<|Mv rfl<|Mv rfl<|Ia ((r+1)) rfl rfl underlying25 sizeOf24<|Lm 5 U64 0 rfl rfl isAgg24 (by rw[hm];omega)<|Mv rfl<|Ia ((r+1)) rfl rfl underlying25 sizeOf24<|Lm 9 U64 0 rfl rfl isAgg24 (by rw[iD,hSl];omega)<|Mv rfl<|Ca rfl (fq _ _ _ _)<|Mv rfl<|Ext rfl rfl<|Ext rfl rfl<|Ia (r) rfl rfl underlying25 sizeOf24<|bB 9 U64 hGF rfl rfl rfl sizeOf24 rfl (by rw[iD,hSl];omega) rfl<|Asg rfl<|aa<|Xq<|Mv rfl<|Bnr rfl rfl (fun _=>aA _ _ _ oi)<|Asg rfl<|aa<|?_
     repeat (refine a7 ?_)
     exact aR<|⟨rfl,⟨r+1,om⟩,_,by show 5-(r+1)<5-r;omega,rfl,trv,trv⟩
    ·obtain rfl:r=5:=by simp at hc;omega
     generalize hM:MR (S1.1.getD 0 0*cl) m S1.1 5=R1
     have hRl:R1.1.length=6:=by rw[←hM,iD,hSl]
     refine be<|Xp<|Mv rfl<|Mv rfl<|ij rfl rfl (fun w=>oR _ _ _ dc w) rfl rfl<|Mv rfl<|Ext rfl rfl<|Ext rfl rfl<|Ia (5) rfl rfl underlying25 sizeOf24<|bB 9 U64 hGF rfl rfl rfl sizeOf24 rfl (by rw[hRl];omega) rfl<|Asg rfl<|aa<|Xq<|Mv rfl<|Mv rfl<|Bnr rfl rfl (fun _=>du _ _ _)<|Asg rfl<|aa<|Xq<|Bnr rfl rfl (fun _=>aA _ _ _ oi)<|Mv rfl<|aa<|?_
     repeat (refine a7 ?_)
     exact aR<|⟨rfl,⟨i+1,om⟩,_,by show 6-(i+1)<6-i;omega,rfl,⟨rfl,rfl,rfl,rfl,rfl,by rw[nZ a b m cl i hS hM];rfl,rfl,rfl,trivial⟩,⟨rfl,rfl,rfl,by rw[nZ a b m cl i hS hM];rfl,trivial⟩⟩
  ·obtain rfl:i=6:=by simp at hc;omega
   refine be<|Xp<|Lw 9 rfl rfl bK (dY _ _ _ _ _)<|Mv rfl<|Lw 5 rfl rfl bK hm<|Ca rfl (qu _ _ _ (dY _ _ _ _ _) hm)<|Sw 6 hGF rfl rfl rfl bK (jc _ _ _ (dY _ _ _ _ _))<|aa<|am<|Rr<|?_
   exact ay 6 rfl rfl rfl isAgg25 sizeOf25 (by rw[List.length_map];exact jc _ _ _ (dY _ _ _ _ _)) (fun w hw=>⟨by rw[gx,if_neg h0,if_pos h1,MN,hcl],ac hw⟩)
 |false=>
  refine Xp<|Bx 3 hGF rfl<|fun b3=>Bx 4 hGF rfl<|fun b4=>Bx 5 hGF rfl<|fun b5=>Al 6 hGF zv25<|fun b6=>aa<|ah<|Xp<|Ia (0) rfl rfl underlying25 sizeOf24<|Lm 5 U64 0 rfl rfl isAgg24 (by rw[hm];omega)<|Bnr rfl rfl (fun _=>ek _ _ _ dc)<|Bnr (v:=.bool false) rfl rfl (fun w=>(bX _ _ _).trans (congrArg (fun b=>Result.ok (Value.bool b) w) (beq_eq_false_iff_ne.2 h0)))<|aa<|aq rfl<|ap<|ah<|Xp<|Lw 3 rfl rfl bK ha<|Lw 5 rfl rfl bK hm<|Ca rfl (kN a m ha hm)<|aY (v:=.bool true) rfl (fun _=>(aJ _).trans (by rw[h1];rfl)) rfl rfl<|aa<|aV rfl<|Xp<|Al 7 hGF zv142<|fun b7=>aa<|Xd []<|cf (l:=0) (h':=12) rfl underlying142 sizeOf24 rfl rfl om om rfl rfl<|cf (l:=0) (h':=6) rfl underlying25 sizeOf24 rfl rfl om om rfl rfl<|yE (cs:=a.map U64) 7 hGF rfl rfl rfl underlying67 OR (by rw[List.length_map,ha];rfl) (fun w' h j v hv=>by rw[Addr.add_mid];exact aO (n:=3) rfl w' h j v hv) (bk _) (by rw[List.length_map,List.length_map,ha];decide) rfl rfl<|?_
  rw[Bu a ha]
  refine aa<|Xq<|a9 7 rfl rfl isAgg142 sizeOf142 (by rw[List.length_map,List.length_append,ha,List.length_replicate]) rfl rfl<|Lw 5 rfl rfl bK hm<|Ca rfl (Fs (a++List.replicate 6 0) m (by rw[List.length_append,ha];rfl) hm)<|ao 3 hGF rfl rfl rfl sizeOf25 (by rw[List.length_map,oq _ _]) (by rw[List.length_map,ha]) (bk _) rfl<|aa<|Xp<|Ia (0) rfl rfl underlying25 sizeOf24<|Lm 5 U64 0 rfl rfl isAgg24 (by rw[hm];omega)<|Ca rfl (mw _)<|aY rfl (fun _=>oZ _) rfl rfl<|Asg rfl<|?_
  generalize hcl: -(IV (m.getD 0 0) 5)=cl
  refine aa<|Xp<|Al 9 hGF zv25<|fun b9=>aa<|Xp<|Asg rfl<|aa<|ah<|Xp<|Lw 3 rfl rfl bK (oq _ _)<|Mv rfl<|aa<|aj<|cG (ι:={i:Nat // i≤6}) (fun x=>[(4,pnt b4),(5,pnt b5),(6,pnt b6),(8,U64 cl),(9,pnt b9),(10,U64 (MO (MOD (a++List.replicate 6 0) m) b m cl x.1).2),(38,aT ((MOD (a++List.replicate 6 0) m))),(39,I (x.1:Int))]) (fun x=>[(4,b4,b.map U64,25),(5,b5,m.map U64,25),(6,b6,(List.replicate 6 0#64).map U64,25),(9,b9,(MO (MOD (a++List.replicate 6 0) m) b m cl x.1).1.map U64,25)]) (fun x=>6-x.1) ⟨0,om⟩ hGF trv trv<|?_
  rintro ⟨i,hi⟩
  dsimp only
  refine Xp<|Bnr rfl rfl (fun _=>aF _ _ _)<|aa<|ah<|?_
  refine bZ rfl (fun hc=> ?_) (fun hc=> ?_)
  ·simp only[decide_eq_true_eq]at hc
   refine ap<|ah<|aj<|Xp<|jC U64 0 (i) rfl rfl underlying25 sizeOf24 isAgg24 om om (oq _ _) rfl rfl<|Asg rfl<|aa<|Xp<|Asg rfl<|Asg rfl<|aa<|ah<|Xp<|Lw 4 rfl rfl bK hb<|Mv rfl<|aa<|aj<|cG (ι:={i:Nat // i≤6}) (fun x=>[(4,pnt b4),(5,pnt b5),(6,pnt b6),(8,U64 cl),(9,pnt b9),(10,U64 (MO (MOD (a++List.replicate 6 0) m) b m cl i).2),(38,aT ((MOD (a++List.replicate 6 0) m))),(39,I (i:Int)),(12,U64 ((MOD (a++List.replicate 6 0) m).getD i 0)),(13,U64 (MJ ((MOD (a++List.replicate 6 0) m).getD i 0) b (MO (MOD (a++List.replicate 6 0) m) b m cl i).1 x.1).2),(14,U64 0),(42,aT (b)),(43,I (x.1:Int))]) (fun x=>[(4,b4,b.map U64,25),(5,b5,m.map U64,25),(6,b6,(List.replicate 6 0#64).map U64,25),(9,b9,(MJ ((MOD (a++List.replicate 6 0) m).getD i 0) b (MO (MOD (a++List.replicate 6 0) m) b m cl i).1 x.1).1.map U64,25)]) (fun x=>6-x.1) ⟨0,om⟩ hGF trv trv<|?_
   rintro ⟨j,hj⟩
   dsimp only
   refine Xp<|Bnr rfl rfl (fun _=>aF _ _ _)<|aa<|ah<|?_
   refine bZ rfl (fun hc=> ?_) (fun hc=> ?_)
   ·simp only[decide_eq_true_eq]at hc
    refine ap<|ah<|aj<|Xp<|Mv rfl<|jC U64 0 (j) rfl rfl underlying25 sizeOf24 isAgg24 om om (hb) rfl rfl<|Asg rfl<|Asg rfl<|aa<|Xq<|Mv rfl<|Mv rfl<|Mv rfl<|Mv rfl<|Ia (j) rfl rfl underlying25 sizeOf24<|Lm 9 U64 0 rfl rfl isAgg24 (by rw[jS,dY];omega)<|Mv rfl<|Ca rfl (fq _ _ _ _)<|Mv rfl<|Ext rfl rfl<|Ext rfl rfl<|Ia (j) rfl rfl underlying25 sizeOf24<|bB 9 U64 hGF rfl rfl rfl sizeOf24 rfl (by rw[jS,dY];omega) rfl<|Asg rfl<|aa<|Xq<|Bnr rfl rfl (fun _=>aA _ _ _ oi)<|Mv rfl<|aa<|?_
    repeat (refine a7 ?_)
    exact aR<|⟨rfl,⟨j+1,om⟩,_,by show 6-(j+1)<6-j;omega,rfl,trv,trv⟩
   ·obtain rfl:j=6:=by simp at hc;omega
    generalize hS:MJ ((MOD (a++List.replicate 6 0) m).getD i 0) b (MO (MOD (a++List.replicate 6 0) m) b m cl i).1 6=S1
    have hSl:S1.1.length=6:=by rw[←hS,jS,dY]
    refine be<|Xp<|Mv rfl<|Mv rfl<|ij rfl rfl (fun w=>oR _ _ _ dc w) rfl rfl<|Mv rfl<|Ext rfl rfl<|Ext rfl rfl<|Asg rfl<|Asg rfl<|aa<|Xp<|Ia (0) rfl rfl underlying25 sizeOf24<|Lm 9 U64 0 rfl rfl isAgg24 (by rw[hSl];omega)<|Mv rfl<|Bnr rfl rfl (fun _=>cN _ _ _)<|Asg rfl<|aa<|Xp<|Mv rfl<|Ia (0) rfl rfl underlying25 sizeOf24<|Lm 5 U64 0 rfl rfl isAgg24 (by rw[hm];omega)<|Ia (0) rfl rfl underlying25 sizeOf24<|Lm 9 U64 0 rfl rfl isAgg24 (by rw[hSl];omega)<|Ca rfl (fq _ _ _ _)<|Mv rfl<|Ext rfl rfl<|Ext rfl rfl<|Asg rfl<|aa<|ah<|Xp<|Asg rfl<|aa<|aj<|cG (ι:={i:Nat // i≤5}) (fun x=>[(4,pnt b4),(5,pnt b5),(6,pnt b6),(8,U64 cl),(9,pnt b9),(10,U64 (ADC (MO (MOD (a++List.replicate 6 0) m) b m cl i).2 S1.2 0).1),(38,aT ((MOD (a++List.replicate 6 0) m))),(39,I (i:Int)),(14,U64 (ADC (MO (MOD (a++List.replicate 6 0) m) b m cl i).2 S1.2 0).2),(17,U64 (S1.1.getD 0 0*cl)),(13,U64 (MR (S1.1.getD 0 0*cl) m S1.1 x.1).2),(18,I ((x.1+1:Nat):Int))]) (fun x=>[(4,b4,b.map U64,25),(5,b5,m.map U64,25),(6,b6,(List.replicate 6 0#64).map U64,25),(9,b9,(MR (S1.1.getD 0 0*cl) m S1.1 x.1).1.map U64,25)]) (fun x=>5-x.1) ⟨0,om⟩ hGF trv trv<|?_
    rintro ⟨r,hr⟩
    dsimp only
    refine ah<|Xp<|Mv rfl<|Bnr rfl rfl (fun _=>aF _ _ _)<|aa<|?_
    refine bZ rfl (fun hc=> ?_) (fun hc=> ?_)
    ·simp only[decide_eq_true_eq]at hc
     refine ap<|ah<|aj<|Xe []<|Mv rfl<|Bnr (v:=I (r:Int)) rfl rfl (fun _=>(bu _ _ _ oi).trans (by rw[show (((r+1:Nat):Int)-1)=(r:Int) by omega]))<|Mv rfl<|Mv rfl<|Ia ((r+1)) rfl rfl underlying25 sizeOf24<|Lm 5 U64 0 rfl rfl isAgg24 (by rw[hm];omega)<|Mv rfl<|Ia ((r+1)) rfl rfl underlying25 sizeOf24<|Lm 9 U64 0 rfl rfl isAgg24 (by rw[iD,hSl];omega)<|Mv rfl<|Ca rfl (fq _ _ _ _)<|Mv rfl<|Ext rfl rfl<|Ext rfl rfl<|Ia (r) rfl rfl underlying25 sizeOf24<|bB 9 U64 hGF rfl rfl rfl sizeOf24 rfl (by rw[iD,hSl];omega) rfl<|Asg rfl<|aa<|Xq<|Mv rfl<|Bnr rfl rfl (fun _=>aA _ _ _ oi)<|Asg rfl<|aa<|?_
     repeat (refine a7 ?_)
     exact aR<|⟨rfl,⟨r+1,om⟩,_,by show 5-(r+1)<5-r;omega,rfl,trv,trv⟩
    ·obtain rfl:r=5:=by simp at hc;omega
     generalize hM:MR (S1.1.getD 0 0*cl) m S1.1 5=R1
     have hRl:R1.1.length=6:=by rw[←hM,iD,hSl]
     refine be<|Xp<|Mv rfl<|Mv rfl<|ij rfl rfl (fun w=>oR _ _ _ dc w) rfl rfl<|Mv rfl<|Ext rfl rfl<|Ext rfl rfl<|Ia (5) rfl rfl underlying25 sizeOf24<|bB 9 U64 hGF rfl rfl rfl sizeOf24 rfl (by rw[hRl];omega) rfl<|Asg rfl<|aa<|Xq<|Mv rfl<|Mv rfl<|Bnr rfl rfl (fun _=>du _ _ _)<|Asg rfl<|aa<|Xq<|Bnr rfl rfl (fun _=>aA _ _ _ oi)<|Mv rfl<|aa<|?_
     repeat (refine a7 ?_)
     exact aR<|⟨rfl,⟨i+1,om⟩,_,by show 6-(i+1)<6-i;omega,rfl,⟨rfl,rfl,rfl,rfl,rfl,by rw[nZ (MOD (a++List.replicate 6 0) m) b m cl i hS hM];rfl,rfl,rfl,trivial⟩,⟨rfl,rfl,rfl,by rw[nZ (MOD (a++List.replicate 6 0) m) b m cl i hS hM];rfl,trivial⟩⟩
  ·obtain rfl:i=6:=by simp at hc;omega
   refine be<|Xp<|Lw 9 rfl rfl bK (dY _ _ _ _ _)<|Mv rfl<|Lw 5 rfl rfl bK hm<|Ca rfl (qu _ _ _ (dY _ _ _ _ _) hm)<|Sw 6 hGF rfl rfl rfl bK (jc _ _ _ (dY _ _ _ _ _))<|aa<|am<|Rr<|?_
   exact ay 6 rfl rfl rfl isAgg25 sizeOf25 (by rw[List.length_map];exact jc _ _ _ (dY _ _ _ _ _)) (fun w hw=>⟨by rw[gx,if_neg h0,if_neg (by rw[h1];decide),MN,hcl],ac hw⟩)
end
section
open Go.RowKit
theorem PLl:PL.length=6:=rfl
theorem cm:TWO.length=6:=rfl
theorem cq:ONE.length=6:=rfl
theorem N1l:N1.length=6:=rfl
theorem cr:IVP.length=6:=rfl
theorem cp:HFP.length=6:=rfl
theorem cu:RTP.length=6:=rfl
attribute [local simp] aW bd aU aP aD bf aL aK aB PLl cm cq N1l cr cp cu
abbrev EV(x:Zp):Value:=aT (fe x)
abbrev NV(n:L6):Value:=aT n
theorem zv52(w:World):(zeroValue 52).run prog w=.ok (aT (List.replicate 6 (0#64))) w:=(zeroValue52 w).trans rr
theorem CS(op:BinOp)(x y:Operand)(xs ys:Array Value)(w:World):(eqGuard op 25 x y (.agg xs) (.agg ys)).run prog w=.ok () w:=run_eqGuard_agg w op 25 x y xs ys kr
theorem CV(xs ys:L6)(h:xs.length=6)(h':ys.length=6)(w:World):(binOp .eql 25 (aT xs) (aT ys)).run prog w=.ok (.bool (decide (xs=ys))) w:=vh underlying25 underlying24 sizeOf24 isAgg24 xs ys h h' w
theorem qZ(x y:Zp):decide (fe x=fe y)=decide (x=y):=decide_eq_decide.2 Cp
theorem LH{x y:BitVec 64}(h:(x==y)=true):x=y:=beq_iff_eq.1 h
theorem Mi{x y:BitVec 64}(h:(x==y)=false): ¬x=y:=beq_eq_false_iff_ne.1 h
theorem ent140:ai prog 140:=fun _ _=>kr
theorem ent90:ai prog 90:=fun _ _=>kr
theorem ent262:ai prog 262:=fun _ _=>kr
theorem ent209:ai prog 209:=fun _ _=>kr
theorem ent63:ai prog 63:=fun _ _=>kr
theorem ent201:ai prog 201:=fun _ _=>kr
theorem ent191:ai prog 191:=fun _ _=>kr
theorem ent173:ai prog 173:=fun _ _=>kr
theorem ent137:ai prog 137:=fun _ _=>kr
theorem ent136:ai prog 136:=fun _ _=>kr
theorem ent135:ai prog 135:=fun _ _=>kr
theorem ent226:ai prog 226:=fun _ _=>kr
theorem ent258:ai prog 258:=fun _ _=>kr
theorem ent172:ai prog 172:=fun _ _=>kr
theorem ent289:ai prog 289:=fun _ _=>kr
theorem ent89:ai prog 89:=fun _ _=>kr
theorem gI(x y:Zp):PUR 137 [EV x,EV y] (EV (x*y)):=by
 intro w hw
 refine Hf func137 rfl hw<|fun hGF=>Xp<|Bx 2 hGF rfl<|fun b2=>Bx 3 hGF rfl<|fun b3=>Al 4 hGF zv52<|fun b4=>aa<|Xp<|Fa 0 rfl underlying52 rfl sizeOf25<|La 2 rfl rfl bK<|Fa 0 rfl underlying52 rfl sizeOf25<|La 3 rfl rfl bK<|fZ hGF isAgg25 sizeOf25 sm (fun _ h=>h.g3) rfl rfl<|Ca rfl (gG _ _ _ sm sm sm)<|dq rfl sm underlying52 rfl sizeOf25 zv52 rfl rfl<|Sa 4 hGF rfl rfl rfl bv<|aa<|am<|Rr<|?_
 exact ay 4 rfl rfl rfl isAgg52 sizeOf52 sm (fun w hw=>⟨by rw[Hn],ac hw⟩)
theorem lv(n:L6)(hn:n.length=6):PUR 139 [NV n] (EV (zp (V n 6))):=by
 intro w hw
 refine Hf func139 rfl hw<|fun hGF=>Xp<|Bx 1 hGF rfl<|fun b1=>Al 2 hGF zv52<|fun b2=>aa<|Xp<|fZ hGF isAgg25 sizeOf25 (by first|(simp;done)|simp[hn]) (fun _ h=>h.g5) rfl rfl<|a9 1 rfl rfl isAgg25 sizeOf25 (by first|(simp;done)|simp[hn]) rfl rfl<|fZ hGF isAgg25 sizeOf25 (by first|(simp;done)|simp[hn]) (fun _ h=>h.g3) rfl rfl<|Ca rfl (gG _ _ _ (by first|(simp;done)|simp[hn]) (by first|(simp;done)|simp[hn]) (by first|(simp;done)|simp[hn]))<|dq rfl (by first|(simp;done)|simp[hn]) underlying52 rfl sizeOf25 zv52 rfl rfl<|ao 2 hGF rfl rfl rfl sizeOf52 (by first|(simp;done)|simp[hn]) (by first|(simp;done)|simp[hn]) (bk _) rfl<|aa<|am<|Rr<|?_
 exact ay 2 rfl rfl rfl isAgg52 sizeOf52 (by first|(simp;done)|simp[hn]) (fun w hw=>⟨by rw[CU],ac hw⟩)
theorem jl(x:Zp):PUR 138 [EV x] (NV (nm x)):=by
 intro w hw
 refine Hf func138 rfl hw<|fun hGF=>Xp<|Bx 1 hGF rfl<|fun b1=>Al 2 hGF zv25<|fun b2=>aa<|Xp<|Fa 0 rfl underlying52 rfl sizeOf25<|La 1 rfl rfl bK<|kL 1 rfl underlying25 sizeOf24 zv25 rfl rfl<|fZ hGF isAgg25 sizeOf25 sm (fun _ h=>h.g3) rfl rfl<|Ca rfl (gG _ _ _ sm sm sm)<|Sa 2 hGF rfl rfl rfl bK<|aa<|am<|Rr<|?_
 exact ay 2 rfl rfl rfl isAgg25 sizeOf25 sm (fun w hw=>⟨by rw[←GW];rfl,ac hw⟩)
theorem yW(n:BitVec 64): ∀k,V (n::List.replicate 5 0) (k+1)=n.toNat
 |0=>by rw[qg,V,Nat.mul_zero,Nat.pow_zero,Nat.mul_one,Nat.zero_add];rfl
 |k+1=>by
  have h0:(n::List.replicate 5 (0:BitVec 64)).getD (k+1) 0=0:=by
   rw[List.getD_eq_getElem?_getD,List.getElem?_cons_succ,List.getElem?_replicate]
   split<;>rfl
  rw[qg,yW n k,h0,show (0:BitVec 64).toNat=0 from rfl,Nat.zero_mul,Nat.add_zero]
theorem HL(n:BitVec 64):V (n::List.replicate 5 0) 6=n.toNat:=yW n 5
theorem dP(n:BitVec 64):PUR 140 [U64 n] (EV (zp n.toNat)):=by
 intro w hw
 refine Hf func140 rfl hw<|fun hGF=>Xp<|Al 2 hGF zv52<|fun b2=>aa<|Xp<|Mv rfl<|kL n rfl underlying25 sizeOf24 zv25 rfl rfl<|Ca rfl (lv _ sm)<|Sa 2 hGF rfl rfl rfl bv<|aa<|am<|Rr<|?_
 exact ay 2 rfl rfl rfl isAgg52 sizeOf52 sm (fun w hw=>⟨by rw[HL],ac hw⟩)
theorem np(x y:Zp):PUR 209 [EV x,EV y] (.bool (decide (x=y))):=by
 intro w hw
 refine Hf func209 rfl hw<|fun hGF=>Xp<|Bx 2 hGF rfl<|fun b2=>Bx 3 hGF rfl<|fun b3=>Asg rfl<|aa<|Xp<|Fa 0 rfl underlying52 rfl sizeOf25<|La 2 rfl rfl bK<|Fa 0 rfl underlying52 rfl sizeOf25<|La 3 rfl rfl bK<|dH rfl rfl (fun _=>CS _ _ _ _ _ _) (fun w=>CV _ _ sm sm w) rfl rfl<|Asg rfl<|aa<|am<|Rr<|?_
 exact aE rfl rfl (fun w hw=>⟨by rw[qZ],ac hw⟩)
theorem r7(x:Zp):PUR 63 [EV x] (.bool (decide (x=0))):=by
 intro w hw
 refine Hf func63 rfl hw<|fun hGF=>Xp<|Bx 1 hGF rfl<|fun b1=>Asg rfl<|aa<|Xp<|Fa 0 rfl underlying52 rfl sizeOf25<|La 1 rfl rfl bK<|gJ zv25 underlying25 sizeOf24 rfl rfl<|dH rfl rfl (fun _=>CS _ _ _ _ _ _) (fun w=>CV _ _ sm sm w) rfl rfl<|Asg rfl<|aa<|am<|Rr<|?_
 exact aE rfl rfl (fun w hw=>⟨by rw[←kO,qZ],ac hw⟩)
theorem rx(x y:Zp):PUR 201 [EV x,EV y] (EV (x+y)):=by
 intro w hw
 refine Hf func201 rfl hw<|fun hGF=>Xp<|Bx 2 hGF rfl<|fun b2=>Bx 3 hGF rfl<|fun b3=>Al 4 hGF zv52<|fun b4=>aa<|Xp<|Fa 0 rfl underlying52 rfl sizeOf25<|La 2 rfl rfl bK<|Fa 0 rfl underlying52 rfl sizeOf25<|La 3 rfl rfl bK<|Ca rfl (mx _ _ sm sm)<|Mv rfl<|Ext rfl rfl<|Ext rfl rfl<|Al 5 hGF zv25<|fun b5=>Sa 5 hGF rfl rfl rfl bK<|Asg rfl<|aa<|Xp<|La 5 rfl rfl bK<|fZ hGF isAgg25 sizeOf25 sm (fun _ h=>h.g3) rfl rfl<|Ca rfl (iU _ _ sm sm)<|Mv rfl<|Ext rfl rfl<|Ext rfl rfl<|Al 7 hGF zv25<|fun b7=>Sa 7 hGF rfl rfl rfl bK<|Asg rfl<|aa<|ah<|Xp<|Mv rfl<|Bnr rfl rfl (fun _=>bX _ _ _)<|aa<|?_
 refine bZ rfl (fun hc=> ?_) (fun hc=> ?_)
 ·refine Xp<|La 5 rfl rfl bK<|dq rfl sm underlying52 rfl sizeOf25 zv52 rfl rfl<|Sa 4 hGF rfl rfl rfl bv<|aa<|am<|Rr<|?_
  exact ay 4 rfl rfl rfl isAgg52 sizeOf52 sm (fun w hw=>⟨by rw[HR (OX (LH hc))],ac hw⟩)
 ·refine ap<|Xp<|La 7 rfl rfl bK<|dq rfl sm underlying52 rfl sizeOf25 zv52 rfl rfl<|Sa 4 hGF rfl rfl rfl bv<|aa<|am<|Rr<|?_
  exact ay 4 rfl rfl rfl isAgg52 sizeOf52 sm (fun w hw=>⟨by rw[Hb (wQ (wy _ _ _) (Mi hc))],ac hw⟩)
theorem m3(x y:Zp):PUR 191 [EV x,EV y] (EV (x-y)):=by
 intro w hw
 refine Hf func191 rfl hw<|fun hGF=>Xp<|Bx 2 hGF rfl<|fun b2=>Bx 3 hGF rfl<|fun b3=>Al 4 hGF zv52<|fun b4=>aa<|Xp<|Fa 0 rfl underlying52 rfl sizeOf25<|La 2 rfl rfl bK<|Fa 0 rfl underlying52 rfl sizeOf25<|La 3 rfl rfl bK<|Ca rfl (iU _ _ sm sm)<|Mv rfl<|Ext rfl rfl<|Ext rfl rfl<|Al 5 hGF zv25<|fun b5=>Sa 5 hGF rfl rfl rfl bK<|Asg rfl<|aa<|ah<|Xp<|Mv rfl<|Bnr rfl rfl (fun _=>bX _ _ _)<|aa<|?_
 refine bZ rfl (fun hc=> ?_) (fun hc=> ?_)
 ·refine Xq<|La 5 rfl rfl bK<|fZ hGF isAgg25 sizeOf25 sm (fun _ h=>h.g3) rfl rfl<|Ca rfl (mx _ _ sm sm)<|Mv rfl<|Ext rfl rfl<|Ext rfl rfl<|Sa 5 hGF rfl rfl rfl bK<|aa<|Xp<|La 5 rfl rfl bK<|dq rfl sm underlying52 rfl sizeOf25 zv52 rfl rfl<|Sa 4 hGF rfl rfl rfl bv<|aa<|am<|Rr<|?_
  exact ay 4 rfl rfl rfl isAgg52 sizeOf52 sm (fun w hw=>⟨by rw[HD (LH hc)],ac hw⟩)
 ·refine ap<|Xp<|La 5 rfl rfl bK<|dq rfl sm underlying52 rfl sizeOf25 zv52 rfl rfl<|Sa 4 hGF rfl rfl rfl bv<|aa<|am<|Rr<|?_
  exact ay 4 rfl rfl rfl isAgg52 sizeOf52 sm (fun w hw=>⟨by rw[B9 (wQ (wy _ _ _) (Mi hc))],ac hw⟩)
theorem dI(x:Zp):PUR 173 [EV x] (EV (-x)):=by
 intro w hw
 refine Hf func173 rfl hw<|fun hGF=>Xp<|Bx 1 hGF rfl<|fun b1=>Al 2 hGF zv52<|fun b2=>aa<|Xp<|fO zv52 underlying52 (o5 sizeOf25) rfl rfl<|La 1 rfl rfl bv<|Ca rfl ((show PUR 191 [NV (List.replicate 6 0#64),EV x] (EV (0-x)) by rw[←kO];exact m3 0 x))<|Sa 2 hGF rfl rfl rfl bv<|aa<|am<|Rr<|?_
 exact ay 2 rfl rfl rfl isAgg52 sizeOf52 sm (fun w hw=>⟨by rw[show (0:Zp)-x= -x by grind],ac hw⟩)
theorem jb(x:Zp):PUR 136 [EV x] (EV (x*x)):=by
 intro w hw
 refine Hf func136 rfl hw<|fun hGF=>Xp<|Bx 1 hGF rfl<|fun b1=>Al 2 hGF zv52<|fun b2=>aa<|Xp<|La 1 rfl rfl bv<|La 1 rfl rfl bv<|Ca rfl (gI _ _)<|Sa 2 hGF rfl rfl rfl bv<|aa<|am<|Rr<|?_
 exact ay 2 rfl rfl rfl isAgg52 sizeOf52 sm (fun w hw=>⟨rfl,ac hw⟩)
theorem dw(x:Zp):PUR 87 [EV x] (.agg ((cH x).map U8).toArray):=by
 intro w hw
 refine Hf func87 rfl hw<|fun hGF=>Xp<|Bx 1 hGF rfl<|fun b1=>Al 2 hGF zv29<|fun b2=>aa<|Xp<|La 1 rfl rfl bv<|Ca rfl (jl _)<|Ca rfl (lI _ sm)<|ao 2 hGF rfl rfl rfl sizeOf29 sm sm (bi _) rfl<|aa<|am<|Rr<|?_
 exact ay 2 rfl rfl rfl isAgg29 sizeOf29 sm (fun w hw=>⟨rfl,ac hw⟩)
end
section
open Go.RowKit
theorem ent281:ai prog 281:=fun _ _=>kr
attribute [local simp] aW bd aU aP aD bf aL aK aB PLl cm cq N1l cr cp cu a8 bg
theorem zv293(w:World):(zeroValue 293).run prog w=.ok (aT (FL (fun _=>List.replicate 6 0#64) 16)) w:=(zeroValue293 w).trans rr
theorem ri:PUR 140 [U64 1#64] (EV 1):=dP 1#64
theorem vr(x:Zp):PUR 257 [EV x] (aT (SP x 16)):=by
 intro w hw
 refine Hf func257 rfl hw<|fun hGF=>Xp<|Bx 1 hGF rfl<|fun b1=>Al 2 hGF zv293<|fun b2=>aa<|Xp<|Ca rfl (ri)<|BA rfl sm dc underlying293 sizeOf52 zv293 rfl rfl<|Al 3 hGF zv293<|fun b3=>Sa 3 hGF rfl rfl rfl zM<|aa<|ah<|Xp<|Asg rfl<|aa<|aj<|cG (ι:={i:Nat // 1≤i∧i≤16}) (fun y=>[(1,pnt b1),(2,pnt b2),(3,pnt b3),(4,I (y.1:Int))]) (fun y=>[(1,b1,(fe x).map U64,52),(2,b2,(FL (fun _=>List.replicate 6 0#64) 16).map U64,293),(3,b3,(SP x y.1).map U64,293)]) (fun y=>16-y.1) ⟨1,om⟩ hGF trv ⟨rfl,rfl,by rw[←Ns];rfl,trivial⟩<|?_
 rintro ⟨i,hi⟩
 dsimp only
 refine ah<|Xp<|Mv rfl<|Bnr rfl rfl (fun _=>aF _ _ _)<|aa<|?_
 refine bZ rfl (fun hc=> ?_) (fun hc=> ?_)
 ·simp only[decide_eq_true_eq]at hc
  refine ap<|ah<|aj<|Xe []<|Mv rfl<|Mv rfl<|Bnr rfl rfl (fun _=>bu _ _ _ oi)<|eK (i-1) (6*(i-1)) rfl rfl underlying293 sizeOf52 om om om rfl rfl<|av 3 ((fe (x^(i-1))).map U64) rfl rfl isAgg52 sizeOf52 sm (tT x i (i-1) om om _ rfl) rfl rfl<|La 1 rfl rfl bv<|Ca rfl (gI _ _)<|eK (i) (6*(i)) rfl rfl underlying293 sizeOf52 om om om rfl rfl<|kH 3 ((SP x (i+1)).map U64) hGF rfl rfl rfl sizeOf52 sm (bk _) (by rw[List.length_map,List.length_map,aW,bg];omega) (Im x i om om _ rfl) rfl<|aa<|Xq<|Mv rfl<|Bnr rfl rfl (fun _=>aA _ _ _ oi)<|Asg rfl<|aa<|?_
  repeat (refine a7 ?_)
  exact aR<|⟨rfl,⟨i+1,om⟩,_,by show 16-(i+1)<16-i;omega,rfl,trv,trv⟩
 ·obtain rfl:i=16:=by simp at hc;omega
  refine be<|Xp<|La 3 rfl rfl zM<|Sa 2 hGF rfl rfl rfl zM<|aa<|am<|Rr<|?_
  exact ay 2 rfl rfl rfl isAgg293 sizeOf293 sm (fun w hw=>⟨rfl,ac hw⟩)
def RdD(bb:Nat)(e:Option Addr)(cap:Nat)(bs:L8):Cls:=fun W=>W.cell? ⟨bb,0,none⟩=some (.slice e bs.length cap)∧BytesAt W e bs
def NB(bs:L8):List (List Value):=(List.range (2*bs.length)).map fun m=>[U8 (NBv bs m)]
theorem wK(bs:L8):(NB bs).length=2*bs.length:=by simp[NB]
theorem wP(bs:L8)(m:Nat)(h:m<2*bs.length):(NB bs)[m]? =some [U8 (NBv bs m)]:=by
 rw[NB,List.getElem?_map,List.getElem?_range h];rfl
theorem TF(bs:L8)(m:Nat)(x:List Value)(h:(NB bs)[m]? =some x):m<2*bs.length∧x=[U8 (NBv bs m)]:=by
 have hm:m<2*bs.length:=by
  rcases Nat.lt_or_ge m (2*bs.length)with h'|h'
  ·exact h'
  ·rw[List.getElem?_eq_none (by rw[wK];exact h')]at h;cases h
 rw[wP bs m hm]at h
 exact ⟨hm,(Option.some.inj h).symm⟩
theorem WR(bs:L8)(i:Nat)(h:i<bs.length):(NB bs)[2*i]? =some [U8 (bs.getD i 0>>>4)]:=by
 rw[wP bs _ om,NBv,if_pos om,show 2*i / 2=i by omega]
theorem Vv(bs:L8)(i:Nat)(h:i<bs.length):(NB bs)[2*i+1]? =some [U8 (bs.getD i 0 % 16#8)]:=by
 rw[wP bs _ om,NBv,if_neg om,show (2*i+1) / 2=i by omega]
theorem qH(sv:Value)(hs:sv.cells= #[sv])(w:World)(hw:Gt w):CLS 258 [sv].toArray w (fun e w'=> ∃b1,e=.returned (.func (.func 281) #[] #[pnt b1])∧Grow w w'∧w.heap.size≤b1∧OwnB w' b1 [sv] 22):=by
 refine Hf func258 rfl hw<|fun hGF=>Xp<|fN 1 hGF rfl rfl rfl<|fun b1=>Asg rfl<|aa<|Xp<|eV rfl rfl rfl rfl<|Asg rfl<|aa<|am<|Rr<|?_
 exact aE rfl rfl (fun w hw=>⟨b1,rfl,ac hw,(hw.own 1 b1 _ _ rfl).2.elim id False.elim,(by have:=(hw.own 1 b1 _ _ rfl).1;rw[hs]at this;exact this)⟩)
theorem uP(bb:Nat)(e:Option Addr)(cap:Nat)(bs:L8)(hlen:bs.length≤1000000):eG prog Gt 281 [pnt bb] (NB bs) (RdD bb e cap bs):=by
 intro l J Jx hJ hJx hRd hGx hY w hj
 have okJ: ∀k,BOk Gt (Bi w (fun Y=>J Y k)):=fun k=>⟨fun _ _ _ h=>(hRd _ _ _ h.rid).1,hJ k⟩
 have okX: ∀k,BOk Gt (Bi w (fun Y=>Jx Y k)):=fun k=>⟨fun _ _ _ h=>hGx _ _ _ h.rid,hJx k⟩
 have c1: ∀k L w',Hp (Bi w (fun Y=>J Y k)) L w'→RdD bb e cap bs w':=fun k L w' h=>(hRd _ _ _ h.rid).2
 have hby:=(hRd _ _ _ hj).2.2
 refine cb (G:=Gt) func281 rfl rfl (Hp (Bi w (fun Y=>J Y 0)) []) (bO (Bi w _) hj (hJ 0)) (au (okJ 0))<|Xp<|bz rfl isAgg22 (fun w h=>(c1 _ _ w h).1) rfl rfl<|a5 rfl (fun _=>az underlying22 _ _ _ _) rfl rfl<|Mv rfl<|aa<|aj<|fB (ι:={i:Nat // i≤bs.length}) (fun x=>[(0,.func (.yield l) #[] #[]),(1,pnt bb),(5,.slice e bs.length cap),(6,I (bs.length:Int)),(7,I (x.1:Int))]) (fun x=>Bi w (fun Y=>J Y (2*x.1))) (fun x=>[]) (fun x=>bs.length-x.1) ⟨0,Nat.zero_le _⟩ (fun _=>okJ _) rfl trv trivial<|?_
 rintro ⟨i,hi⟩
 dsimp only
 refine Xp<|Bnr rfl rfl (fun _=>aF _ _ _)<|aa<|ah<|?_
 refine bZ rfl (fun hc=> ?_) (fun hc=> ?_)
 ·simp only[decide_eq_true_eq]at hc
  have hi2:i<bs.length:=om
  refine ap<|ah<|aj<|Xp<|?_
  obtain ⟨ad,rfl,_⟩:=hby i _ (gm U8 bs 0 i om)
  refine fR i rfl rfl underlying22 sizeOf5 rfl om rfl rfl<|bz rfl isAgg5 (fun w' h=>by obtain ⟨ad',e',hc'⟩:=(c1 _ _ w' h).2 i _ (gm U8 bs 0 i om);cases e';exact hc') rfl rfl<|Asg rfl<|aa<|Bo (E:=EE []) 4<|Mv rfl<|Mv rfl<|Bnr (v:=U8 (bs.getD i 0>>>4)) rfl rfl (fun _=>wz _ _ 4#64)<|?_
  refine cX (hY.b (k:=2*i) (WR bs i om) w) (okJ _) (okX _) rfl rfl rfl rfl rfl ?_ ?_
  ·refine aa ?_
   refine ⟨EE [], ?_⟩
   refine aY rfl (fun _=>aJ _) rfl rfl<|Mv rfl<|Mv rfl<|Mv rfl<|Bnr (v:=U8 (bs.getD i 0 % 16#8)) rfl rfl (fun _=>w6 _ _ 16#8 dc)<|?_
   refine cX (hY.b (k:=2*i+1) (Vv bs i om) w) (okJ _) (okX _) rfl rfl rfl rfl rfl ?_ ?_
   ·refine aY rfl (fun _=>aJ _) rfl rfl<|Pk rfl rfl rfl<|aa<|aq rfl<|ap<|Xq<|Bnr rfl rfl (fun _=>aA _ _ _ oi)<|Mv rfl<|aa<|?_
    rw[show 2*i+1+1=2*(i+1) by omega]
    repeat (refine a7 ?_)
    exact aR<|⟨rfl,⟨i+1,om⟩,_,by show bs.length-(i+1)<bs.length-i;omega,rfl,trv,trivial⟩
   ·refine aY rfl (fun _=>aJ _) rfl rfl<|Pk rfl rfl rfl<|aa<|aV rfl<|am<|Rr<|?_
    repeat (first|refine cZ ?_|refine bY ?_|refine cU rfl ?_|refine bq ?_|refine bt ?_)
    exact cR rfl (fun w hw=>⟨⟨_,rfl⟩,.inr ⟨_,bD (hJx _) hw.rid⟩⟩)
  ·refine aa ?_
   refine ⟨EE [3000000], ?_⟩
   refine aY rfl (fun _=>aJ _) rfl rfl<|Mv rfl<|Sk<|Sk<|Sk<|Sk<|Sk<|Pk rfl rfl rfl<|aa<|aV rfl<|am<|Rr<|?_
   repeat (first|refine cZ ?_|refine bY ?_|refine cU rfl ?_|refine bq ?_|refine bt ?_)
   exact cR rfl (fun w hw=>⟨⟨_,rfl⟩,.inr ⟨_,bD (hJx _) hw.rid⟩⟩)
 ·simp only[decide_eq_false_iff_not]at hc
  obtain rfl:i=bs.length:=om
  refine be ?_
  repeat (first|refine cZ ?_|refine bY ?_|refine cU rfl ?_|refine bq ?_|refine bt ?_)
  refine cn rfl (fun w hw=>⟨⟨_,rfl⟩,.inl ?_⟩)
  have:=bD (hJ _) hw.rid
  rw[wK]
  exact this
end
section
open Go.RowKit
attribute [local simp] aW bd aU aP aD bf aL aK aB PLl cm cq N1l cr cp cu a8 bg
theorem vT(x:Zp)(e:Option Addr)(cap:Nat)(bs:L8)(hlen:bs.length≤1000000)(w:World)(hw:Gt w)(hby:BytesAt w e bs):
 CLS 226 [EV x,.slice e bs.length cap].toArray w (fun r w'=>r=.returned (EV (x^BN bs bs.length))∧Grow w w'):=by
 have hGF:BOk Gt (pl w):=gt_low.plain hw
 refine bV (G:=Gt) func226 rfl rfl (Hp (pl w) []) (bO (pl w) trivial ak) (au hGF)<|ae (E:=EE [258])<|Bx 2 hGF rfl<|fun b2=>Al 4 hGF zv52<|fun b4=>aa<|ae (E:=EE [258])<|La 2 rfl rfl bv<|Ca rfl (vr _)<|Al 5 hGF zv293<|fun b5=>Sa 5 hGF rfl rfl rfl zM<|aa<|ae (E:=EE [258])<|eK 0 0 rfl rfl underlying293 sizeOf52 rfl dc rfl rfl rfl<|av 5 ((fe (x^0)).map U64) rfl rfl isAgg52 sizeOf52 sm (tT x 16 0 dc dc 0 rfl) rfl rfl<|Al 6 hGF zv52<|fun b6=>Sa 6 hGF rfl rfl rfl bv<|aa<|ah<|ae (E:=EE [258])<|Mv rfl<|?_
 refine cV rfl rfl ent258 rfl rfl (fun w' hw'=>(qH _ rfl w' (hGF.g _ _ _ hw')).mono fun e' w'' h=> ?_)
 obtain ⟨c1,rfl,hg,h1,ho⟩:=h
 refine ⟨_,_,rfl,au hGF,hw'.news ak hg [(33,c1,[.slice e bs.length cap],22)] ?_ bN, ?_⟩
 ·intro n' b' c' t' hl
  rcases aC hl with ⟨_,e⟩|⟨_,hl⟩
  ·cases e;exact ⟨h1,ho⟩
  ·cases hl
 clear hw' hg h1 ho
 refine aa<|aj<|?_
 refine ef (fun _=>pl w) (fun _ _=>pl w) (fun _=>hGF) (fun _ _=>hGF) (fun _=>rfl) (fun _ _=>rfl) rfl rfl ent281 (uP c1 e cap bs hlen) (fun x hx=>by obtain ⟨k,hk,rfl⟩:=List.mem_map.1 hx;rfl) rfl (fun k=>[(2,b2,(fe x).map U64,52),(4,b4,(List.replicate 6 0#64).map U64,52),(5,b5,(SP x 16).map U64,293),(6,b6,(fe (x^DN bs k)).map U64,52),(33,c1,[.slice e bs.length cap],22)]) (fun _ _ _=>False) ⟨rfl,rfl,rfl,by rw[DN];rfl,rfl,trivial⟩ (fun k _ w' h=>⟨cv (n:=33) rfl rfl w' h,hby.grow (h.below (fun _ h=>h))⟩) ?_ ?_ (fun _ _ _ _ _ h=>h.elim)
 ·intro k v hx R hR
  obtain ⟨hk,rfl⟩:=TF bs k v hx
  have hlt:=Q5 bs k
  refine bC (E:=EE [258])<|Asg rfl<|aa<|?_
  refine ⟨rfl,_,rfl, ?_⟩
  refine aj<|ah<|ae (E:=EE [258])<|Mv rfl<|aa<|aj<|cG (ι:={i:Nat // i≤4}) (fun j=>[(5,pnt b5),(6,pnt b6),(7,U8 (NBv bs k)),(15,I (j.1:Int))]) (fun j=>[(2,b2,(fe x).map U64,52),(4,b4,(List.replicate 6 0#64).map U64,52),(5,b5,(SP x 16).map U64,293),(6,b6,(fe (x^(2^j.1*DN bs k))).map U64,52),(33,c1,[.slice e bs.length cap],22)]) (fun j=>4-j.1) ⟨0,om⟩ (hR (pl w) rfl hGF).2.1 trv ⟨rfl,rfl,rfl,by rw[Nat.pow_zero,Nat.one_mul];rfl,rfl,trivial⟩<|?_
  rintro ⟨j,hj⟩
  dsimp only
  refine ae (E:=EE [258])<|Bnr rfl rfl (fun _=>aF _ _ _)<|aa<|ah<|?_
  refine bZ rfl (fun hc=> ?_) (fun hc=> ?_)
  ·simp only[decide_eq_true_eq]at hc
   refine ap<|ah<|aj<|bC (E:=EE [258])<|La 6 rfl rfl bv<|Ca rfl (jb _)<|ao 6 (hR (pl w) rfl hGF).2.1 rfl rfl rfl sizeOf52 sm sm (bk _) rfl<|aa<|bC (E:=EE [258])<|Bnr rfl rfl (fun _=>aA _ _ _ oi)<|Mv rfl<|aa<|?_
   repeat (refine a7 ?_)
   exact aR<|⟨rfl,⟨j+1,om⟩,_,by show 4-(j+1)<4-j;omega,rfl,trv,⟨rfl,rfl,rfl,by rw[←IA];rfl,rfl,trivial⟩⟩
  ·obtain rfl:j=4:=by simp at hc;omega
   refine be<|Xe [258]<|La 6 rfl rfl bv<|Mv rfl<|Iz (6*(NBv bs k).toNat) rfl rfl underlying293 sizeOf52 hlt om rfl rfl<|av 5 ((fe (x^(NBv bs k).toNat)).map U64) rfl rfl isAgg52 sizeOf52 sm (tT x 16 _ hlt (Nat.le_refl _) _ rfl) rfl rfl<|Ca rfl (C9 x bs k▸gI (x^(2^4*DN bs k)) (x^(NBv bs k).toNat))<|ao 6 (hR (pl w) rfl hGF).2.1 rfl rfl rfl sizeOf52 sm sm (bk _) rfl<|aa<|?_
   repeat (refine a7 ?_)
   exact ⟨_,rfl,trv⟩
 ·intro D hD
  rw[wK,FH]
  refine ae (E:=EE [258])<|La 6 rfl rfl bv<|Sa 4 hD rfl rfl rfl bv<|aa<|am<|Rr<|?_
  exact cP (.inl rfl) ak (ay 4 rfl rfl rfl isAgg52 sizeOf52 sm (fun w hw=>⟨rfl,ac hw⟩))
end
section
theorem IJ(l:L6):(l.getD 0 0).toNat % 2=V l 6 % 2:=by
 have h:=Lf l 6 0 dc
 rw[Nat.testBit_zero,Nat.zero_div,Nat.zero_mod,BitVec.getLsbD,Nat.testBit_zero]at h
 have h':=decide_eq_decide.1 h
 omega
theorem P8(x:Zp):((nm x).getD 0 0 % 2#64==1#64)=decide (x.val % 2=1):=by
 have h:=IJ (nm x)
 rw[Jf]at h
 rw[←h]
 by_cases e:(nm x).getD 0 0 % 2#64=1#64
 ·have:=congrArg BitVec.toNat e
  rw[BitVec.toNat_umod]at this
  rw[beq_iff_eq.2 e,decide_eq_true]
  exact this
 ·rw[beq_eq_false_iff_ne.2 e,decide_eq_false]
  intro h'
  apply e
  apply BitVec.eq_of_toNat_eq
  rw[BitVec.toNat_umod]
  exact h'
def hf:Nat:=(PP-1) / 2
def rg:Nat:=(PP+1) / 4
theorem s6:PP % 4=3:=by decide+kernel
theorem mN:1000<PP:=by decide+kernel
theorem lF:2*hf+1=PP:=by have:=s6;unfold hf;omega
theorem RE:4*rg=PP+1:=by have:=s6;unfold rg;omega
theorem Oy:hf % 2=1:=by have:=s6;have:=lF;omega
theorem T5:2*rg=hf+1:=by have:=RE;have:=lF;omega
theorem EW(x:Zp):LT HFP (nm x) 6=decide (hf<x.val):=by rw[qa,Jf,Hm];rfl
theorem OC: ∃n,hf=n+1:=⟨hf-1,by have:=lF;have:=mN;omega⟩
def SQr(x:Zp):Zp:=x^rg
def SQn(x:Zp):Zp:=if hf<(SQr x).val then-(SQr x)else SQr x
def SQ(x:Zp):Zp:=if SQr x*SQr x=x then SQn x else 0
def FO(bs:L8):Bool:=decide (bs.length=48∧BN bs 48<PP)
def FV(bs:L8):Zp:=if bs.length=48∧BN bs 48<PP then zp (BN bs 48)else 0
def ZB(bs:L8):Zp:=zp (BN bs bs.length)
theorem Jv{k:Nat}(h:R6=2^k)(hk:k=8*48):R6=256^48:=by rw[we,h,hk]
theorem Qv:R6=256^48:=Jv eZ rfl
theorem Az(bs:L8)(k cut:Nat)(h:k=0∨cut=48):zp (BN bs k)*RZ+zp (BN (bs.drop k) cut)=zp (BN bs (k+cut)):=by
 rw[vQ bs k cut,fL,iA]
 rcases h with rfl|rfl
 ·rw[BN,PV];grind
 ·rw[←Qv];rfl
theorem OM{n:Nat}(h0:0<n)(h:n % 48=0):(n-1) % 48+1=48:=om
theorem Ci{n:Nat}(h0:0<n):(n-((n-1) % 48+1)) % 48=0∧(n-1) % 48+1≤n∧(n-1) % 48+1≤48:=om
theorem Hu(bs:L8)(n:Nat):BN (bs.take n) n=BN bs n:=pV n fun i hi=>by
 rw[List.getD_eq_getElem?_getD,List.getD_eq_getElem?_getD,List.getElem?_take,if_pos hi]
end
end Go.Proofs.YtfgacclgjklgnaaGreatDoor
