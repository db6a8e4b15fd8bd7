/- L0 -/
import Derived.Test.YtfgacclgjklgnaaGreatDoorM0
import Derived.Test.YtfgacclgjklgnaaGreatDoorX5
import Derived.Test.YtfgacclgjklgnaaGreatDoorXW
import Derived.Test.YtfgacclgjklgnaaGreatDoorX2
import Derived.Test.YtfgacclgjklgnaaGreatDoorM1
set_option maxRecDepth 100000
set_option maxHeartbeats 1000000
namespace Go.Proofs.YtfgacclgjklgnaaGreatDoor
open Go.Proofs.Tryz
section
open Go.RowKit
def DM:Array Value→Sem Value:=fun args=>do
 let (x,y,b)←Extern.MathBitsCarry.three "Sub64" args
 pure (Extern.MathBitsCarry.pair ((x+Extern.MathBitsCarry.m64-y-b) % Extern.MathBitsCarry.m64) (if x<y+b then 1 else 0))
theorem ou(x y c:BitVec 64)(hc:c.toNat≤1)(w:World):(callFunc 83 [U64 x,U64 y,U64 c].toArray).run prog w=.ok (.value (.tuple #[U64 (ADC x y c).1,U64 (ADC x y c).2])) w:=by
 show (callFunc 83 #[U64 x,U64 y,U64 c]).run prog w=_
 rw[run_callFunc_extern func83 kr kr kr (e:=add64Entry) kr]
 simp only[U64]
 rw[run_add64 _ _ _ om om om om]
 have h1:=x.isLt
 have h2:=y.isLt
 have e1:((x.toNat:Int)+(y.toNat:Int)+(c.toNat:Int)) % 18446744073709551616=((ADC x y c).1.toNat:Int):=by simp only[ADC,BitVec.toNat_ofNat];omega
 have e2:((x.toNat:Int)+(y.toNat:Int)+(c.toNat:Int)) / 18446744073709551616=((ADC x y c).2.toNat:Int):=by simp only[ADC,BitVec.toNat_ofNat];omega
 rw[e1,e2]
 rfl
theorem Tl(x y c:BitVec 64)(hc:c.toNat≤1)(w:World):(callFunc 132 [U64 x,U64 y,U64 c].toArray).run prog w=.ok (.value (.tuple #[U64 (SBB x y c).1,U64 (SBB x y c).2])) w:=by
 show (callFunc 132 #[U64 x,U64 y,U64 c]).run prog w=_
 rw[run_callFunc_extern func132 kr kr kr (e:=DM) kr]
 have key: ∀b:Nat,b≤1→(DM #[.int .u64 (x.toNat:Int),.int .u64 (y.toNat:Int),.int .u64 (b:Int)]).run prog w=
  .ok (.tuple #[.int .u64 (((x.toNat+18446744073709551616-y.toNat-b) % 18446744073709551616:Nat):Int),.int .u64 ((if x.toNat<y.toNat+b then 1 else 0:Nat):Int)]) w:=fun b hb=>by
  have:b=0∨b=1:=om
  rcases this with rfl|rfl<;>rfl
 simp only[U64]
 rw[key _ hc]
 simp only[Result.andThen,SBB,BitVec.toNat_ofNat]
 congr 5
 split<;>rfl
theorem ent38:ai prog 38:=fun _ _=>kr
theorem ent133:ai prog 133:=fun _ _=>kr
theorem ent188:ai prog 188:=fun _ _=>kr
theorem zv25(w:World):(zeroValue 25).run prog w=.ok (aR (List.replicate 6 (0#64))) w:=(zeroValue25 w).trans rr
theorem zv142(w:World):(zeroValue 142).run prog w=.ok (aR (List.replicate 12 (0#64))) w:=(zeroValue142 w).trans rr
theorem zv29(w:World):(zeroValue 29).run prog w=.ok (.agg ((List.replicate 48 (0#8)).map U8).toArray) w:=(zeroValue29 w).trans rr
theorem lv(a b:L6)(ha:a.length=6)(hb:b.length=6):PUR 77 [aR (a),aR (b)] (.tuple #[aR ((AS a b 6).1),U64 (AS a b 6).2]):=by
 intro w hw
 refine Hf func77 rfl hw<|fun hGF=>Xp<|Bx 2 hGF rfl<|fun b2=>Bx 3 hGF rfl<|fun b3=>Al 4 hGF zv25<|fun b4=>Asg rfl<|aa<|Xp<|Al 6 hGF zv25<|fun b6=>aa<|Xp<|Asg rfl<|aa<|ah<|Xp<|Mv rfl<|aa<|aj<|cE (ι:={i:Nat // i≤6}) (fun x=>[(2,pnt b2),(3,pnt b3),(4,pnt b4),(6,pnt b6),(7,U64 (AS a b x.1).2),(9,I (x.1:Int))]) (fun x=>[(2,b2,a.map U64,25),(3,b3,b.map U64,25),(4,b4,(List.replicate 6 0#64).map U64,25),(6,b6,(AS a b x.1).1.map U64,25)]) (fun x=>6-x.1) ⟨0,om⟩ hGF trv trv<|?_
 rintro ⟨i,hi⟩
 dsimp only
 refine Xp<|Bnr rfl rfl (fun _=>aC _ _ _)<|aa<|ah<|?_
 refine bX rfl (fun hc=> ?_) (fun hc=> ?_)
 ·simp only[decide_eq_true_eq]at hc
  refine ap<|ah<|aj<|Xp<|Mv rfl<|Asg rfl<|aa<|Xe []<|Mv rfl<|Mv rfl<|Ia (i) rfl rfl underlying25 sizeOf24<|Lm 2 U64 0 rfl rfl isAgg24 (by rw[ha];omega)<|Mv rfl<|Ia (i) rfl rfl underlying25 sizeOf24<|Lm 3 U64 0 rfl rfl isAgg24 (by rw[hb];omega)<|Mv rfl<|ik rfl rfl (fun w=>ou _ _ _ (I0 a b i) w) rfl rfl<|Mv rfl<|Ext rfl rfl<|Ext rfl rfl<|Ia (i) rfl rfl underlying25 sizeOf24<|bv 6 U64 hGF rfl rfl rfl sizeOf24 rfl (by rw[aT];omega) rfl<|Asg rfl<|aa<|Xq<|Bnr rfl rfl (fun _=>ay _ _ _ oi)<|Mv rfl<|aa<|?_
  repeat (refine aY ?_)
  exact aU<|⟨rfl,⟨i+1,om⟩,_,by show 6-(i+1)<6-i;omega,rfl,trv,trv⟩
 ·obtain rfl:i=6:=by simp at hc;omega
  refine a8<|Xp<|Lw 6 rfl rfl bL (aT _ _ _)<|Mv rfl<|Sw 4 hGF rfl rfl rfl bL (aT _ _ _)<|Asg rfl<|aa<|am<|Rr<|?_
  exact aW 4 rfl rfl rfl rfl isAgg25 sizeOf25 (by rw[List.length_map,aT]) (fun w hw=>⟨rfl,ae hw⟩)
theorem iS(a b:L6)(ha:a.length=6)(hb:b.length=6):PUR 78 [aR (a),aR (b)] (.tuple #[aR ((SS a b 6).1),U64 (SS a b 6).2]):=by
 intro w hw
 refine Hf func78 rfl hw<|fun hGF=>Xp<|Bx 2 hGF rfl<|fun b2=>Bx 3 hGF rfl<|fun b3=>Al 4 hGF zv25<|fun b4=>Asg rfl<|aa<|Xp<|Al 6 hGF zv25<|fun b6=>aa<|Xp<|Asg rfl<|aa<|ah<|Xp<|Mv rfl<|aa<|aj<|cE (ι:={i:Nat // i≤6}) (fun x=>[(2,pnt b2),(3,pnt b3),(4,pnt b4),(6,pnt b6),(7,U64 (SS a b x.1).2),(9,I (x.1:Int))]) (fun x=>[(2,b2,a.map U64,25),(3,b3,b.map U64,25),(4,b4,(List.replicate 6 0#64).map U64,25),(6,b6,(SS a b x.1).1.map U64,25)]) (fun x=>6-x.1) ⟨0,om⟩ hGF trv trv<|?_
 rintro ⟨i,hi⟩
 dsimp only
 refine Xp<|Bnr rfl rfl (fun _=>aC _ _ _)<|aa<|ah<|?_
 refine bX rfl (fun hc=> ?_) (fun hc=> ?_)
 ·simp only[decide_eq_true_eq]at hc
  refine ap<|ah<|aj<|Xp<|Mv rfl<|Asg rfl<|aa<|Xe []<|Mv rfl<|Mv rfl<|Ia (i) rfl rfl underlying25 sizeOf24<|Lm 2 U64 0 rfl rfl isAgg24 (by rw[ha];omega)<|Mv rfl<|Ia (i) rfl rfl underlying25 sizeOf24<|Lm 3 U64 0 rfl rfl isAgg24 (by rw[hb];omega)<|Mv rfl<|ik rfl rfl (fun w=>Tl _ _ _ (wB a b i) w) rfl rfl<|Mv rfl<|Ext rfl rfl<|Ext rfl rfl<|Ia (i) rfl rfl underlying25 sizeOf24<|bv 6 U64 hGF rfl rfl rfl sizeOf24 rfl (by rw[aO];omega) rfl<|Asg rfl<|aa<|Xq<|Bnr rfl rfl (fun _=>ay _ _ _ oi)<|Mv rfl<|aa<|?_
  repeat (refine aY ?_)
  exact aU<|⟨rfl,⟨i+1,om⟩,_,by show 6-(i+1)<6-i;omega,rfl,trv,trv⟩
 ·obtain rfl:i=6:=by simp at hc;omega
  refine a8<|Xp<|Lw 6 rfl rfl bL (aO _ _ _)<|Mv rfl<|Sw 4 hGF rfl rfl rfl bL (aO _ _ _)<|Asg rfl<|aa<|am<|Rr<|?_
  exact aW 4 rfl rfl rfl rfl isAgg25 sizeOf25 (by rw[List.length_map,aO]) (fun w hw=>⟨rfl,ae hw⟩)
theorem ko(a b:L6)(ha:a.length=6)(hb:b.length=6):PUR 79 [aR (a),aR (b)] (.bool (LT a b 6)):=by
 intro w hw
 refine Hf func79 rfl hw<|fun hGF=>Xp<|Bx 2 hGF rfl<|fun b2=>Bx 3 hGF rfl<|fun b3=>Asg rfl<|aa<|fx<|ah<|jc<|ah<|Xp<|Asg rfl<|aa<|aj<|cE (ι:={i:Nat // i≤6∧LT a b 6=LT a b i}) (fun x=>[(2,pnt b2),(3,pnt b3),(4,.bool false),(5,I ((x.1:Int)-1))]) (fun x=>[(2,b2,a.map U64,25),(3,b3,b.map U64,25)]) (fun x=>x.1) ⟨6,om,rfl⟩ hGF trv trv<|?_
 rintro ⟨i,hi,hlt⟩
 dsimp only
 refine ah<|Xp<|Mv rfl<|Bnr rfl rfl (fun _=>dM _ _ _)<|aa<|?_
 refine bX rfl (fun hc=> ?_) (fun hc=> ?_)
 ·simp only[decide_eq_true_eq]at hc
  obtain ⟨k,rfl⟩: ∃k,i=k+1:=⟨i-1,om⟩
  refine ap<|ah<|aj<|aj<|Xd []<|Mv rfl<|Ia (k) rfl rfl underlying25 sizeOf24<|Lm 2 U64 0 rfl rfl isAgg24 (by rw[ha];omega)<|Mv rfl<|Ia (k) rfl rfl underlying25 sizeOf24<|Lm 3 U64 0 rfl rfl isAgg24 (by rw[hb];omega)<|Bnr rfl rfl (fun _=>m6 _ _ _)<|Asg rfl<|aa<|?_
  refine bX rfl (fun hc=> ?_) (fun hc=> ?_)
  ·simp only[decide_eq_true_eq]at hc
   have hfin:LT a b 6=true:=by rw[hlt,LT,if_pos hc]
   refine Xp<|Asg rfl<|aa<|am<|?_
   repeat (first|refine bf ?_|refine be ?_|refine dr ?_)
   exact aH rfl rfl (fun w hw=>⟨by rw[hfin];rfl,ae hw⟩)
  ·simp only[decide_eq_false_iff_not]at hc
   have hc1:=hc
   refine Xd []<|Mv rfl<|Ia (k) rfl rfl underlying25 sizeOf24<|Lm 2 U64 0 rfl rfl isAgg24 (by rw[ha];omega)<|Mv rfl<|Ia (k) rfl rfl underlying25 sizeOf24<|Lm 3 U64 0 rfl rfl isAgg24 (by rw[hb];omega)<|Bnr rfl rfl (fun _=>u0 _ _ _)<|Asg rfl<|aa<|?_
   refine bX rfl (fun hc=> ?_) (fun hc=> ?_)
   ·simp only[decide_eq_true_eq]at hc
    have hfin:LT a b 6=false:=by rw[hlt,LT,if_neg hc1,if_pos hc]
    refine a8<|Xp<|Asg rfl<|aa<|am<|?_
    repeat (first|refine bf ?_|refine be ?_|refine dr ?_)
    exact aH rfl rfl (fun w hw=>⟨by rw[hfin];rfl,ae hw⟩)
   ·simp only[decide_eq_false_iff_not]at hc
    refine ap<|Xq<|Mv rfl<|Bnr (v:=I ((k:Int)-1)) rfl rfl (fun _=>(bq _ _ _ oi).trans (by rw[show (((k+1:Nat):Int)-1)-1=(k:Int)-1 by omega]))<|Asg rfl<|aa<|?_
    repeat (refine aY ?_)
    exact aU<|⟨rfl,⟨k,om,by rw[hlt,LT,if_neg hc1,if_neg hc]⟩,_,by show k<k+1;omega,rfl,trv,trv⟩
 ·simp only[decide_eq_false_iff_not]at hc
  obtain rfl:i=0:=om
  have hfin:LT a b 6=false:=hlt
  refine a8<|Xp<|Asg rfl<|aa<|am<|?_
  repeat (first|refine bf ?_|refine be ?_|refine dr ?_)
  exact aH rfl rfl (fun w hw=>⟨by rw[hfin];rfl,ae hw⟩)
theorem vX(x y:BitVec 64):PUR 134 [U64 x,U64 y] (.tuple #[U64 (MH x y),U64 (MLo x y)]):=by
 intro w hw
 refine Hf func134 rfl hw<|fun hGF=>Xp<|Asg rfl<|Asg rfl<|aa<|Xp<|Mv rfl<|Bnr rfl rfl (fun _=>eT _ _ _)<|Asg rfl<|aa<|Xp<|Mv rfl<|Bnr rfl rfl (fun _=>dw _ _ _)<|Asg rfl<|aa<|Xp<|Mv rfl<|Bnr rfl rfl (fun _=>eT _ _ _)<|Asg rfl<|aa<|Xp<|Mv rfl<|Bnr rfl rfl (fun _=>dw _ _ _)<|Asg rfl<|aa<|Xp<|Mv rfl<|Mv rfl<|Bnr rfl rfl (fun _=>cJ _ _ _)<|Asg rfl<|aa<|Xp<|Mv rfl<|Mv rfl<|Bnr rfl rfl (fun _=>cJ _ _ _)<|Mv rfl<|Bnr rfl rfl (fun _=>dw _ _ _)<|Bnr rfl rfl (fun _=>dq _ _ _)<|Asg rfl<|aa<|?_
 refine Xp<|Mv rfl<|Bnr rfl rfl (fun _=>eT _ _ _)<|Asg rfl<|aa<|Xp<|Mv rfl<|Bnr rfl rfl (fun _=>dw _ _ _)<|Asg rfl<|aa<|Xp<|Mv rfl<|Mv rfl<|Mv rfl<|Bnr rfl rfl (fun _=>cJ _ _ _)<|Bnr rfl rfl (fun _=>dq _ _ _)<|Asg rfl<|aa<|Xp<|Mv rfl<|Mv rfl<|Bnr rfl rfl (fun _=>cJ _ _ _)<|Mv rfl<|Bnr rfl rfl (fun _=>dq _ _ _)<|Mv rfl<|Bnr rfl rfl (fun _=>dw _ _ _)<|Bnr rfl rfl (fun _=>dq _ _ _)<|Asg rfl<|aa<|Xp<|Mv rfl<|Mv rfl<|Bnr rfl rfl (fun _=>cJ _ _ _)<|Asg rfl<|aa<|am<|Rr<|?_
 exact cY rfl rfl rfl (fun w hw=>⟨by rw[←UP,←N4];rfl,ae hw⟩)
theorem eY(x y c d:BitVec 64):PUR 82 [U64 x,U64 y,U64 c,U64 d] (.tuple #[U64 (MA x y c d).1,U64 (MA x y c d).2]):=by
 intro w hw
 refine Hf func82 rfl hw<|fun hGF=>Xp<|Asg rfl<|Asg rfl<|aa<|Xp<|Mv rfl<|Mv rfl<|Ca rfl (vX _ _)<|Mv rfl<|Ext rfl rfl<|Ext rfl rfl<|Asg rfl<|Asg rfl<|aa<|Xp<|Mv rfl<|Mv rfl<|ik rfl rfl (fun w=>ou _ _ _ dc w) rfl rfl<|Mv rfl<|Ext rfl rfl<|Ext rfl rfl<|Asg rfl<|Asg rfl<|aa<|Xp<|Mv rfl<|Mv rfl<|Bnr rfl rfl (fun _=>dq _ _ _)<|Asg rfl<|aa<|Xp<|Mv rfl<|Mv rfl<|ik rfl rfl (fun w=>ou _ _ _ dc w) rfl rfl<|Mv rfl<|Ext rfl rfl<|Ext rfl rfl<|Asg rfl<|Asg rfl<|?_
 refine aa<|Xp<|Mv rfl<|Mv rfl<|Mv rfl<|Bnr rfl rfl (fun _=>dq _ _ _)<|Asg rfl<|Asg rfl<|aa<|am<|Rr<|?_
 exact cY rfl rfl rfl (fun w hw=>⟨rfl,ae hw⟩)
end
section
open Go.RowKit
theorem eqg(op:BinOp)(x y:Operand)(xs ys:Array Value)(w:World):(eqGuard op 25 x y (.agg xs) (.agg ys)).run prog w=.ok () w:=run_eqGuard_agg w op 25 x y xs ys kr
theorem eq23(xs ys:L6)(h:xs.length=6)(h':ys.length=6)(w:World):(binOp .eql 25 (aR xs) (aR ys)).run prog w=.ok (.bool (decide (xs=ys))) w:=uW underlying25 underlying24 sizeOf24 isAgg24 xs ys h h' w
theorem bI{n:Nat}{b1:Nat}{c1:List Value}{t1:TypeId}: ∀i j b c t c' t',lkB [(n,b1,c1,t1)] i=some (b,c,t)→lkB [(n,b1,c1,t1)] j=some (b,c',t')→i=j:=by
 intro i j b c t c' t' h1 h2
 rcases aB h1 with ⟨e1,x1⟩|⟨_,h1⟩
 ·rcases aB h2 with ⟨e2,x2⟩|⟨_,h2⟩
  ·exact e1.trans e2.symm
  ·cases h2
 ·cases h1
theorem bz{J:(Nat→Prop)→World→Prop}(hr:Rides J){Y:Nat→Prop}{w:World}(h:J Y w):J (fun _=>False) w:=hr.less _ _ _ (fun _ h=>h.elim) h
theorem oo(a:L6)(top:BitVec 64)(m:L6)(ha:a.length=6)(hm:m.length=6):PUR 84 [aR (a),U64 top,aR (m)] (aR (RED a top m)):=by
 intro w hw
 refine Hf func84 rfl hw ?_
 intro hGF
 by_cases h1:top=0
 ·by_cases h2:(SS a m 6).2=1
  ·refine Xp<|Bx 3 hGF rfl<|fun b3=>Bx 5 hGF rfl<|fun b5=>Al 6 hGF zv25<|fun b6=>aa<|Xp<|Lw 3 rfl rfl bL ha<|Lw 5 rfl rfl bL hm<|Ca rfl (iS a m ha hm)<|Mv rfl<|Ext rfl rfl<|Ext rfl rfl<|Al 7 hGF zv25<|fun b7=>Sw 7 hGF rfl rfl rfl bL (aO _ _ _)<|Asg rfl<|aa<|ah<|Xp<|Mv rfl<|Bnr (v:=.bool true) rfl rfl (fun w=>(bU _ _ _).trans (congrArg (fun b=>Result.ok (Value.bool b) w) (beq_iff_eq.2 h1)))<|Mv rfl<|Mv rfl<|Bnr (v:=.bool true) rfl rfl (fun w=>(bU _ _ _).trans (congrArg (fun b=>Result.ok (Value.bool b) w) (beq_iff_eq.2 h2)))<|Pk rfl rfl rfl<|aa<|aQ rfl<|Xp<|Lw 3 rfl rfl bL ha<|Sw 6 hGF rfl rfl rfl bL ha<|aa<|am<|Rr<|?_
   exact az 6 rfl rfl rfl isAgg25 sizeOf25 (by rw[List.length_map,ha]) (fun w hw=>⟨by rw[RED,if_pos (⟨h1,h2⟩)],ae hw⟩)
  ·refine Xp<|Bx 3 hGF rfl<|fun b3=>Bx 5 hGF rfl<|fun b5=>Al 6 hGF zv25<|fun b6=>aa<|Xp<|Lw 3 rfl rfl bL ha<|Lw 5 rfl rfl bL hm<|Ca rfl (iS a m ha hm)<|Mv rfl<|Ext rfl rfl<|Ext rfl rfl<|Al 7 hGF zv25<|fun b7=>Sw 7 hGF rfl rfl rfl bL (aO _ _ _)<|Asg rfl<|aa<|ah<|Xp<|Mv rfl<|Bnr (v:=.bool true) rfl rfl (fun w=>(bU _ _ _).trans (congrArg (fun b=>Result.ok (Value.bool b) w) (beq_iff_eq.2 h1)))<|Mv rfl<|Mv rfl<|Bnr (v:=.bool false) rfl rfl (fun w=>(bU _ _ _).trans (congrArg (fun b=>Result.ok (Value.bool b) w) (beq_eq_false_iff_ne.2 h2)))<|Pk rfl rfl rfl<|aa<|au rfl<|ap<|Xp<|Lw 7 rfl rfl bL (aO _ _ _)<|Sw 6 hGF rfl rfl rfl bL (aO _ _ _)<|aa<|am<|Rr<|?_
   exact az 6 rfl rfl rfl isAgg25 sizeOf25 (by rw[List.length_map,aO]) (fun w hw=>⟨by rw[RED,if_neg (fun h=>h2 h.2)],ae hw⟩)
 ·refine Xp<|Bx 3 hGF rfl<|fun b3=>Bx 5 hGF rfl<|fun b5=>Al 6 hGF zv25<|fun b6=>aa<|Xp<|Lw 3 rfl rfl bL ha<|Lw 5 rfl rfl bL hm<|Ca rfl (iS a m ha hm)<|Mv rfl<|Ext rfl rfl<|Ext rfl rfl<|Al 7 hGF zv25<|fun b7=>Sw 7 hGF rfl rfl rfl bL (aO _ _ _)<|Asg rfl<|aa<|ah<|Xp<|Mv rfl<|Bnr (v:=.bool false) rfl rfl (fun w=>(bU _ _ _).trans (congrArg (fun b=>Result.ok (Value.bool b) w) (beq_eq_false_iff_ne.2 h1)))<|Mv rfl<|Sk<|Sk<|Pk rfl rfl rfl<|aa<|au rfl<|ap<|Xp<|Lw 7 rfl rfl bL (aO _ _ _)<|Sw 6 hGF rfl rfl rfl bL (aO _ _ _)<|aa<|am<|Rr<|?_
  exact az 6 rfl rfl rfl isAgg25 sizeOf25 (by rw[List.length_map,aO]) (fun w hw=>⟨by rw[RED,if_neg (fun h=>h1 h.1)],ae hw⟩)
def sj(bb b:Nat)(a:L6)(n:Nat):Cls:=fun W=>W.cell? ⟨bb,0,none⟩=some (.slice (spt b) n n)∧W.rangeAt b 0 (a.map U64)
def DG(a:L6)(n:Nat):List (List Value):=(List.range (64*n)).map fun j=>[I ((64*n-1-j:Nat):Int),U64 (dig a (64*n-1-j))]
theorem eD(a:L6)(n:Nat):(DG a n).length=64*n:=by simp[DG]
theorem O8(a:L6)(n q s:Nat)(hq:q<n)(hs:s<64):(DG a n)[64*(n-(q+1))+(64-(s+1))]? =some [I ((64*q+s:Nat):Int),U64 (dig a (64*q+s))]:=by
 have h:64*(n-(q+1))+(64-(s+1))<64*n:=om
 rw[DG,List.getElem?_map,List.getElem?_range h]
 simp only[Option.map_some]
 rw[show 64*n-1-(64*(n-(q+1))+(64-(s+1)))=64*q+s by omega]
theorem K2(a:L6)(n k:Nat)(x:List Value)(h:(DG a n)[k]? =some x):k<64*n∧x=[I ((64*n-1-k:Nat):Int),U64 (dig a (64*n-1-k))]:=by
 have hk:k<64*n:=by
  rcases Nat.lt_or_ge k (64*n)with h'|h'
  ·exact h'
  ·rw[List.getElem?_eq_none (by rw[eD];exact h')]at h;cases h
 rw[DG,List.getElem?_map,List.getElem?_range hk]at h
 exact ⟨hk,(Option.some.inj h).symm⟩
theorem lH(sv:Value)(hs:sv.cells= #[sv])(w:World)(hw:Gt w):CLS 133 [sv].toArray w (fun e w'=> ∃b1,e=.returned (.func (.func 188) #[] #[pnt b1])∧Grow w w'∧w.heap.size≤b1∧OwnB w' b1 [sv] 67):=by
 refine Hf func133 rfl hw<|fun hGF=>Xp<|fJ 1 hGF rfl rfl rfl<|fun b1=>Asg rfl<|aa<|Xp<|eK rfl rfl rfl rfl<|Asg rfl<|aa<|am<|Rr<|?_
 exact aH rfl rfl (fun w hw=>⟨b1,rfl,ae hw,(hw.own 1 b1 _ _ rfl).2.elim id False.elim,(by have:=(hw.own 1 b1 _ _ rfl).1;rw[hs]at this;exact this)⟩)
theorem oq(bb b:Nat)(a:L6)(n:Nat)(hn:n≤100)(ha:a.length=n):el prog Gt 188 [pnt bb] (DG a n) (sj bb b a n):=by
 intro l J Jx hJ hJx hRd hGx hY w hj
 have okJ: ∀k,BOk Gt (Bi w (fun Y=>J Y k)):=fun k=>⟨fun _ _ _ h=>(hRd _ _ _ h.rid).1,hJ k⟩
 have okX: ∀k,BOk Gt (Bi w (fun Y=>Jx Y k)):=fun k=>⟨fun _ _ _ h=>hGx _ _ _ h.rid,hJx k⟩
 have c1: ∀k L w',Hp (Bi w (fun Y=>J Y k)) L w'→sj bb b a n w':=fun k L w' h=>(hRd _ _ _ h.rid).2
 refine ca (G:=Gt) func188 rfl rfl (Hp (Bi w (fun Y=>J Y 0)) []) (bK (Bi w _) hj (hJ 0)) (ao (okJ 0))<|fx<|ah<|jc<|Xp<|bu rfl isAgg67 (fun w h=>(c1 _ _ w h).1) rfl rfl<|bk rfl (fun _=>aE underlying67 _ _ _ _) rfl rfl<|Bnr rfl rfl (fun _=>bq _ _ _ oi)<|Asg rfl<|aa<|aj<|fo (ι:={i:Nat // i≤n}) (fun x=>[(0,.func (.yield l) #[] #[]),(1,pnt bb),(3,I ((x.1:Int)-1))]) (fun x=>Bi w (fun Y=>J Y (64*(n-x.1)))) (fun x=>[]) (fun x=>x.1) ⟨n,Nat.le_refl _⟩ (fun _=>okJ _) (by rw[Nat.sub_self]) trv trivial<|?_
 rintro ⟨i,hi⟩
 dsimp only
 refine ah<|Xp<|Mv rfl<|Bnr rfl rfl (fun _=>dM _ _ _)<|aa<|?_
 refine bX rfl (fun hc=> ?_) (fun hc=> ?_)
 ·simp only[decide_eq_true_eq]at hc
  obtain ⟨q,rfl⟩: ∃q,i=q+1:=⟨i-1,om⟩
  clear hc
  rw[show ((q+1:Nat):Int)-1=(q:Int) by omega]
  refine ap<|ah<|aj<|Xp<|Asg rfl<|aa<|aj<|fo (ι:={r:Nat // r≤64}) (fun x=>[(0,.func (.yield l) #[] #[]),(1,pnt bb),(3,I (q:Int)),(4,I ((x.1:Int)-1))]) (fun x=>Bi w (fun Y=>J Y (64*(n-(q+1))+(64-x.1)))) (fun x=>[]) (fun x=>x.1) ⟨64,Nat.le_refl _⟩ (fun _=>okJ _) rfl trv trivial<|?_
  rintro ⟨r,hr⟩
  dsimp only
  refine ah<|Xp<|Mv rfl<|Bnr rfl rfl (fun _=>dM _ _ _)<|aa<|?_
  refine bX rfl (fun hc=> ?_) (fun hc=> ?_)
  ·simp only[decide_eq_true_eq]at hc
   obtain ⟨s,rfl⟩: ∃s,r=s+1:=⟨r-1,om⟩
   clear hc
   rw[show ((s+1:Nat):Int)-1=(s:Int) by omega]
   refine ap<|ah<|aj<|Xp<|Mv rfl<|Mv rfl<|Bnr (v:=I ((64*q:Nat):Int)) rfl rfl (fun _=>(bQ _ _ _ oi).trans (by rw[show (64:Int)*(q:Int)=((64*q:Nat):Int) by omega]))<|Mv rfl<|Bnr (v:=I ((64*q+s:Nat):Int)) rfl rfl (fun _=>(ay _ _ _ oi).trans (by rw[show ((64*q:Nat):Int)+(s:Int)=((64*q+s:Nat):Int) by omega]))<|bu rfl isAgg67 (fun w h=>(c1 _ _ w h).1) rfl rfl<|Mv rfl<|Pu q rfl rfl underlying67 sizeOf24 om om rfl rfl<|bu rfl isAgg24 (fun w h=>(c1 _ _ w h).2 q _ (gm U64 a 0 q om)) rfl rfl<|Mv rfl<|Bnr rfl rfl (fun _=>eH _ _ _ om)<|Bnr (v:=U64 (dig a (64*q+s))) rfl rfl (fun _=>(eT _ _ _).trans (by rw[←Nh a q s om];rfl))<|?_
   refine cU (hY.b (k:=64*(n-(q+1))+(64-(s+1))) (O8 a n q s om om) w) (okJ _) (okX _) rfl rfl rfl rfl rfl ?_ ?_
   ·refine a5 rfl (fun _=>aL _) rfl rfl<|aa<|au rfl<|ap<|Xq<|Mv rfl<|Bnr rfl rfl (fun _=>bq _ _ _ oi)<|Asg rfl<|aa<|?_
    rw[show 64*(n-(q+1))+(64-(s+1))+1=64*(n-(q+1))+(64-s) by omega]
    repeat (refine aY ?_)
    exact aU<|⟨rfl,⟨s,om⟩,_,by show s<s+1;omega,rfl,trv,trivial⟩
   ·refine a5 rfl (fun _=>aL _) rfl rfl<|aa<|aQ rfl<|a8<|?_
    repeat (first|refine cX ?_|refine bY ?_|refine cS rfl ?_)
    exact yY<|cn rfl (fun w hw=>⟨⟨_,rfl⟩,.inr ⟨_,bz (hJx _) hw.rid⟩⟩)
  ·simp only[decide_eq_false_iff_not]at hc
   obtain rfl:r=0:=om
   clear hc
   rw[show 64*(n-(q+1))+(64-0)=64*(n-q) by omega]
   refine a8<|Xq<|Mv rfl<|Bnr rfl rfl (fun _=>bq _ _ _ oi)<|Asg rfl<|aa<|?_
   repeat (refine aY ?_)
   exact aU<|⟨rfl,⟨q,om⟩,_,by show q<q+1;omega,rfl,trv,trivial⟩
 ·simp only[decide_eq_false_iff_not]at hc
  obtain rfl:i=0:=om
  refine a8 ?_
  repeat (first|refine cX ?_|refine bY ?_|refine cS rfl ?_)
  refine yY ?_
  refine cn rfl (fun w hw=>⟨⟨_,rfl⟩,.inl ?_⟩)
  have:=bz (hJ _) hw.rid
  rw[eD]
  exact this
end
section
open Go.RowKit
theorem Fh(t m:L6)(ht:t.length=12)(hm:m.length=6):PUR 80 [aR (t),aR (m)] (aR (MOD t m)):=by
 intro w hw
 have hGF:BOk Gt (pl w):=gt_low.plain hw
 refine bV (G:=Gt) func80 rfl rfl (Hp (pl w) []) (bK (pl w) trivial ak) (ao hGF)<|ac (E:=EE [133])<|Bx 2 hGF rfl<|fun b2=>Bx 3 hGF rfl<|fun b3=>Al 4 hGF zv25<|fun b4=>aa<|ac (E:=EE [133])<|Al 5 hGF zv25<|fun b5=>aa<|ah<|ac (E:=EE [133])<|Lw 3 rfl rfl bL hm<|Lw 5 rfl rfl bL List.length_replicate<|dY rfl rfl (fun w=>eqg _ _ _ _ _ w) (fun w=>eq23 m (List.replicate 6 0) hm rfl w) rfl rfl<|aa<|?_
 refine bX rfl (fun hc=> ?_) (fun hc=> ?_)
 ·simp only[decide_eq_true_eq]at hc
  refine ac (E:=EE [133])<|Lw 5 rfl rfl bL List.length_replicate<|aw 4 hGF rfl rfl rfl sizeOf25 sm (by rw[List.length_map,List.length_replicate]) (bj _) rfl<|aa<|am<|Rr<|?_
  exact Jm (.inl rfl) (az 4 rfl rfl rfl isAgg25 sizeOf25 (by rw[List.length_map,List.length_replicate]) (fun w hw=>⟨by rw[MOD,if_pos hc];rfl,ae hw⟩))
 ·simp only[decide_eq_false_iff_not]at hc
  refine ap<|ah<|ac (E:=EE [133])<|ce (l:=0) (h':=12) rfl underlying142 sizeOf24 rfl rfl om om rfl rfl<|?_
  refine cT rfl rfl ent133 rfl rfl (fun w' hw'=>(lH _ rfl w' (hGF.g _ _ _ hw')).mono fun e w'' h=> ?_)
  obtain ⟨c1,rfl,hg,h1,ho⟩:=h
  refine ⟨_,_,rfl,ao hGF,hw'.news ak hg [(33,c1,[.slice (spt b2) 12 12],67)] ?_ bI, ?_⟩
  ·intro n' b' c' t' hl
   rcases aB hl with ⟨_,e⟩|⟨_,hl⟩
   ·cases e;exact ⟨h1,ho⟩
   ·cases hl
  clear hw' hg h1 ho
  refine aa<|aj<|?_
  refine dS (fun _=>pl w) (fun _ _=>pl w) (fun _=>hGF) (fun _ _=>hGF) (fun _=>rfl) (fun _ _=>rfl) rfl rfl ent188 (oq c1 b2 t 12 dc ht) (fun x hx=>by obtain ⟨k,hk,rfl⟩:=List.mem_map.1 hx;rfl) rfl (fun k=>[(2,b2,t.map U64,142),(3,b3,m.map U64,25),(4,b4,(List.replicate 6 0#64).map U64,25),(5,b5,(MDs t m k).map U64,25),(33,c1,[.slice (spt b2) 12 12],67)]) (fun _ _ _=>False) trv (fun k _ w' h=>⟨cp (n:=33) rfl rfl w' h,aM (n:=2) rfl w' h⟩) ?_ ?_ (fun _ _ _ _ _ h=>h.elim)
  ·intro k x hx R hR
   obtain ⟨hk,rfl⟩:=K2 t 12 k x hx
   rw[show 64*12-1-k=767-k from rfl]
   refine bx (E:=EE [133])<|Asg rfl<|aa<|?_
   refine ⟨rfl,_,rfl, ?_⟩
   exact aj<|ac (E:=EE [133])<|Lw 5 rfl rfl bL (gh _ _ _)<|Lw 5 rfl rfl bL (gh _ _ _)<|Ca rfl (lv _ _ (gh t m _) (gh t m _))<|Mv rfl<|Ext rfl rfl<|Ext rfl rfl<|cO 8 (hR (pl w) rfl hGF).2.1 zv25 rfl rfl<|fun b8=>aw 8 (hR (pl w) rfl hGF).2.1 rfl rfl rfl sizeOf25 (by rw[List.length_map,aT]) (by rw[List.length_map,List.length_replicate]) (bj _) rfl<|Asg rfl<|aa<|ac (E:=EE [133])<|Ia (0) rfl rfl underlying25 sizeOf24<|Lm 8 U64 0 rfl rfl isAgg24 (by rw[aT];omega)<|Mv rfl<|Bnr rfl rfl (fun _=>ol _ _ _)<|Ia (0) rfl rfl underlying25 sizeOf24<|bv 8 U64 (hR (pl w) rfl hGF).2.1 rfl rfl rfl sizeOf24 rfl (by rw[aT];omega) rfl<|aa<|bx (E:=EE [133])<|cf 8 rfl rfl isAgg25 sizeOf25 (by rw[List.length_map,List.length_set,aT]) rfl rfl<|Mv rfl<|Lw 3 rfl rfl bL hm<|Ca rfl (oo _ _ _ (vr _ _) hm)<|aw 5 (hR (pl w) rfl hGF).2.1 rfl rfl rfl sizeOf25 (by rw[List.length_map];exact jf _ _ _ (vr _ _)) (by rw[List.length_map,gh]) (bj _) rfl<|aa<|⟨_,rfl,trv⟩
  ·intro D hD
   rw[eD]
   refine ac (E:=EE [133])<|Lw 5 rfl rfl bL (gh _ _ _)<|Sw 4 hD rfl rfl rfl bL (gh _ _ _)<|aa<|am<|Rr<|?_
   exact cQ (.inl rfl) ak (az 4 rfl rfl rfl isAgg25 sizeOf25 (by rw[List.length_map,gh]) (fun w hw=>⟨by rw[MOD,if_neg hc],ae hw⟩))
end
section
open Go.RowKit
theorem wt(a:Option Addr)(cap:Nat)(bs:L8)(w:World)(hw:Gt w)(hby:BytesAt w a bs):
 CLS 38 [.slice a bs.length cap].toArray w (fun e w'=>e=.returned (if 48<bs.length then .tuple #[aR (List.replicate 6 0#64),.bool false]else .tuple #[aR (FRs bs bs.length),.bool true])∧Grow w w'):=by
 refine Hf func38 rfl hw ?_
 intro hGF
 by_cases hA:48<bs.length
 ·refine Xp<|Al 2 hGF zv25<|fun b2=>Asg rfl<|aa<|Xp<|Al 4 hGF zv25<|fun b4=>aa<|ah<|Xp<|Mv rfl<|bk rfl (fun _=>aE underlying22 _ _ _ _) rfl rfl<|Bnr (v:=.bool true) rfl rfl (fun _=>(bP _ _ _).trans (by rw[decide_eq_true (by omega:((bs.length:Int)>48))]))<|aa<|aQ rfl<|Xp<|Lw 4 rfl rfl bL List.length_replicate<|Sw 2 hGF rfl rfl rfl bL List.length_replicate<|Asg rfl<|aa<|am<|Rr<|?_
  exact aW 2 rfl rfl rfl rfl isAgg25 sizeOf25 (by rw[List.length_map,List.length_replicate]) (fun w hw=>⟨by rw[if_pos hA];rfl,ae hw⟩)
 ·refine Xp<|Al 2 hGF zv25<|fun b2=>Asg rfl<|aa<|Xp<|Al 4 hGF zv25<|fun b4=>aa<|ah<|Xp<|Mv rfl<|bk rfl (fun _=>aE underlying22 _ _ _ _) rfl rfl<|Bnr (v:=.bool false) rfl rfl (fun _=>(bP _ _ _).trans (by rw[decide_eq_false (by omega: ¬((bs.length:Int)>48))]))<|aa<|au rfl<|ap<|ah<|Xp<|Mv rfl<|bk rfl (fun _=>aE underlying22 _ _ _ _) rfl rfl<|Mv rfl<|aa<|aj<|cE (ι:={i:Nat // i≤bs.length}) (fun x=>[(0,.slice a bs.length cap),(2,pnt b2),(4,pnt b4),(12,.slice a bs.length cap),(13,I (bs.length:Int)),(14,I (x.1:Int))]) (fun x=>[(2,b2,(List.replicate 6 0#64).map U64,25),(4,b4,(FRs bs x.1).map U64,25)]) (fun x=>bs.length-x.1) ⟨0,om⟩ hGF trv trv<|?_
  rintro ⟨i,hi⟩
  dsimp only
  refine Xp<|Bnr rfl rfl (fun _=>aC _ _ _)<|aa<|ah<|?_
  refine bX rfl (fun hc=> ?_) (fun hc=> ?_)
  ·simp only[decide_eq_true_eq]at hc
   refine ap<|ah<|aj<|Xp<|Mv rfl<|?_
   obtain ⟨ad,rfl,_⟩:=hby i _ (gm U8 bs 0 i om)
   refine fK i rfl rfl underlying22 sizeOf5 rfl om rfl rfl<|bu rfl isAgg5 (fun w' h=>by obtain ⟨ad',e,hc⟩:=(hby.grow (ae h)) i _ (gm U8 bs 0 i om);cases e;exact hc) rfl rfl<|Asg rfl<|Asg rfl<|aa<|Xp<|Mv rfl<|bk rfl (fun _=>aE underlying22 _ _ _ _) rfl rfl<|Bnr (v:=I ((bs.length:Int)-1)) rfl rfl (fun _=>bq _ _ _ oi)<|Mv rfl<|Bnr (v:=I ((bs.length-1-i:Nat):Int)) rfl rfl (fun _=>(bq _ _ _ oi).trans (by rw[show ((bs.length:Int)-1-(i:Int))=((bs.length-1-i:Nat):Int) by omega]))<|Asg rfl<|aa<|Xe []<|Mv rfl<|Bnr (v:=I (((bs.length-1-i) / 8:Nat):Int)) rfl rfl (fun _=>mV _ _ _ dc (show inI (((bs.length-1-i) / 8:Nat):Int) by unfold inI;omega))<|Ia (((bs.length-1-i) / 8)) rfl rfl underlying25 sizeOf24<|Lm 4 U64 0 rfl rfl isAgg24 (by rw[aK];omega)<|Mv rfl<|cN rfl rfl (fun _=>tV underlying5 underlying24 _) rfl rfl<|Mv rfl<|Bnr (v:=I (((bs.length-1-i) % 8:Nat):Int)) rfl rfl (fun _=>fF _ _ _ dc)<|dY (v:=I ((8*((bs.length-1-i) % 8):Nat):Int)) rfl rfl (fun _=>rfl) (fun _=>(bQ _ _ _ oi).trans (by rw[show (8:Int)*(((bs.length-1-i) % 8:Nat):Int)=((8*((bs.length-1-i) % 8):Nat):Int) by omega])) rfl rfl<|dY (v:=U64 ((bs.getD i 0).setWidth 64<<<(8*((bs.length-1-i) % 8)))) rfl rfl (fun _=>rfl) (fun _=>qw _ _ _ om) rfl rfl<|Bnr rfl rfl (fun _=>ol _ _ _)<|Ia (((bs.length-1-i) / 8)) rfl rfl underlying25 sizeOf24<|bv 4 U64 hGF rfl rfl rfl sizeOf24 rfl (by rw[aK];omega) rfl<|aa<|Xq<|Bnr rfl rfl (fun _=>ay _ _ _ oi)<|Mv rfl<|aa<|?_
   repeat (refine aY ?_)
   exact aU<|⟨rfl,⟨i+1,om⟩,_,by show bs.length-(i+1)<bs.length-i;omega,rfl,trv,trv⟩
  ·obtain rfl:i=bs.length:=by simp at hc;omega
   refine a8<|Xp<|Lw 4 rfl rfl bL (aK _ _)<|Sw 2 hGF rfl rfl rfl bL (aK _ _)<|Asg rfl<|aa<|am<|Rr<|?_
   exact aW 2 rfl rfl rfl rfl isAgg25 sizeOf25 (by rw[List.length_map,aK]) (fun w hw=>⟨by rw[if_neg hA];rfl,ae hw⟩)
theorem lM(a:L6)(ha:a.length=6):PUR 107 [aR (a)] (.agg ((BYs a 48).map U8).toArray):=by
 intro w hw
 refine Hf func107 rfl hw<|fun hGF=>Xp<|Bx 1 hGF rfl<|fun b1=>Al 2 hGF zv29<|fun b2=>aa<|Xp<|Al 3 hGF zv29<|fun b3=>aa<|ah<|Xp<|Mv rfl<|aa<|aj<|cE (ι:={i:Nat // i≤48}) (fun x=>[(1,pnt b1),(2,pnt b2),(3,pnt b3),(6,I (x.1:Int))]) (fun x=>[(1,b1,a.map U64,25),(2,b2,(List.replicate 48 0#8).map U8,29),(3,b3,(BYs a x.1).map U8,29)]) (fun x=>48-x.1) ⟨0,om⟩ hGF trv trv<|?_
 rintro ⟨i,hi⟩
 dsimp only
 refine Xp<|Bnr rfl rfl (fun _=>aC _ _ _)<|aa<|ah<|?_
 refine bX rfl (fun hc=> ?_) (fun hc=> ?_)
 ·simp only[decide_eq_true_eq]at hc
  refine ap<|ah<|aj<|Xp<|Mv rfl<|Asg rfl<|aa<|Xp<|Mv rfl<|Bnr (v:=I ((47-i:Nat):Int)) rfl rfl (fun _=>(bq _ _ _ oi).trans (by rw[show ((47:Int)-(i:Int))=((47-i:Nat):Int) by omega]))<|Asg rfl<|aa<|Xq<|Mv rfl<|Mv rfl<|Bnr (v:=I (((47-i) / 8:Nat):Int)) rfl rfl (fun _=>mV _ _ _ dc (show inI (((47-i) / 8:Nat):Int) by unfold inI;omega))<|Ia (((47-i) / 8)) rfl rfl underlying25 sizeOf24<|Lm 1 U64 0 rfl rfl isAgg24 (by rw[ha];omega)<|Mv rfl<|Bnr (v:=I (((47-i) % 8:Nat):Int)) rfl rfl (fun _=>fF _ _ _ dc)<|dY (v:=I ((8*((47-i) % 8):Nat):Int)) rfl rfl (fun _=>rfl) (fun _=>(bQ _ _ _ oi).trans (by rw[show (8:Int)*(((47-i) % 8:Nat):Int)=((8*((47-i) % 8):Nat):Int) by omega])) rfl rfl<|dY (v:=U64 (a.getD ((47-i) / 8) 0>>>(8*((47-i) % 8)))) rfl rfl (fun _=>rfl) (fun _=>eH _ _ _ om) rfl rfl<|cN rfl rfl (fun _=>ij underlying24 underlying5 _) rfl rfl<|Ia (i) rfl rfl underlying29 sizeOf5<|bv 3 U8 hGF rfl rfl rfl sizeOf5 rfl (by rw[aJ];omega) rfl<|aa<|Xq<|Bnr rfl rfl (fun _=>ay _ _ _ oi)<|Mv rfl<|aa<|?_
  repeat (refine aY ?_)
  exact aU<|⟨rfl,⟨i+1,om⟩,_,by show 48-(i+1)<48-i;omega,rfl,trv,trv⟩
 ·obtain rfl:i=48:=by simp at hc;omega
  refine a8<|Xp<|Lw 3 rfl rfl DX (aJ _ _)<|Sx 2 hGF rfl rfl rfl DX (aJ _ _) (bC _)<|aa<|am<|Rr<|?_
  exact az 2 rfl rfl rfl isAgg29 sizeOf29 (by rw[List.length_map,aJ]) (fun w hw=>⟨rfl,ae hw⟩)
def BT(a:L6):List (List Value):=(fB a 384).map fun n:Nat=>[I (n:Int)]
theorem OK(a:L6):(BT a).length=(fB a 384).length:=by simp[BT]
theorem VH(a:L6)(k:Nat)(hk:k<384)(h:dig a (383-k)=1):(BT a)[(fB a k).length]? =some [I ((383-k:Nat):Int)]:=by
 rw[BT,List.getElem?_map,G4 a k hk h]
 rfl
theorem uQ(a:L6)(k:Nat)(h:dig a (383-k)=1):(fB a (k+1)).length=(fB a k).length+1:=by rw[fB,if_pos h];simp
theorem Ij(a:L6)(k:Nat)(h: ¬dig a (383-k)=1):(fB a (k+1)).length=(fB a k).length:=by rw[fB,if_neg h]
end
section
open Go.RowKit
end
end Go.Proofs.YtfgacclgjklgnaaGreatDoor
