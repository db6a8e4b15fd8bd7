/- L0 -/
import Derived.Test.YtjookodjbjabbaaGreatDoorM0
import Derived.Test.YtjookodjbjabbaaGreatDoorX5
import Derived.Test.YtjookodjbjabbaaGreatDoorXW
import Derived.Test.YtjookodjbjabbaaGreatDoorX2
import Derived.Test.YtjookodjbjabbaaGreatDoorX3
set_option maxRecDepth 100000
set_option maxHeartbeats 1000000
namespace Go.Proofs.YtjookodjbjabbaaGreatDoor
open Go.Proofs.Tryz
section
open Go.RowKit
def Ke:Array Value→Sem Value:=fun args=>do
 let (x,y,b)←Extern.MathBitsCarry.three "Sub64" args
 pure (Extern.MathBitsCarry.pair ((x+Extern.MathBitsCarry.m64-y-b) % Extern.MathBitsCarry.m64) (if x<y+b then 1 else 0))
theorem db(x y c:BitVec 64)(hc:c.toNat≤1)(w:World):(callFunc 67 [U64 x,U64 y,U64 c].toArray).run prog w=.ok (.value (.tuple #[U64 (ADC x y c).1,U64 (ADC x y c).2])) w:=by
 show (callFunc 67 #[U64 x,U64 y,U64 c]).run prog w=_
 rw[run_callFunc_extern func67 kr kr kr (e:=add64Entry) kr]
 simp only[U64]
 rw[run_add64 _ _ _ om om om om]
 have h1:=x.isLt
 have h2:=y.isLt
 have e1:((x.toNat:Int)+(y.toNat:Int)+(c.toNat:Int)) % 18446744073709551616=((ADC x y c).1.toNat:Int):=by simp only[ADC,BitVec.toNat_ofNat];omega
 have e2:((x.toNat:Int)+(y.toNat:Int)+(c.toNat:Int)) / 18446744073709551616=((ADC x y c).2.toNat:Int):=by simp only[ADC,BitVec.toNat_ofNat];omega
 rw[e1,e2]
 rfl
theorem OS(x y c:BitVec 64)(hc:c.toNat≤1)(w:World):(callFunc 108 [U64 x,U64 y,U64 c].toArray).run prog w=.ok (.value (.tuple #[U64 (SBB x y c).1,U64 (SBB x y c).2])) w:=by
 show (callFunc 108 #[U64 x,U64 y,U64 c]).run prog w=_
 rw[run_callFunc_extern func108 kr kr kr (e:=Ke) kr]
 have key: ∀b:Nat,b≤1→(Ke #[.int .u64 (x.toNat:Int),.int .u64 (y.toNat:Int),.int .u64 (b:Int)]).run prog w=
  .ok (.tuple #[.int .u64 (((x.toNat+18446744073709551616-y.toNat-b) % 18446744073709551616:Nat):Int),.int .u64 ((if x.toNat<y.toNat+b then 1 else 0:Nat):Int)]) w:=fun b hb=>by
  have:b=0∨b=1:=om
  rcases this with rfl|rfl<;>rfl
 simp only[U64]
 rw[key _ hc]
 simp only[Result.andThen,SBB,BitVec.toNat_ofNat]
 congr 5
 split<;>rfl
theorem ent28:ak prog 28:=fun _ _=>kr
theorem ent44:ak prog 44:=fun _ _=>kr
theorem ent15:ak prog 15:=fun _ _=>kr
theorem ent113:ak prog 113:=fun _ _=>kr
theorem ent166:ak prog 166:=fun _ _=>kr
theorem zv25(w:World):(zeroValue 25).run prog w=.ok (aM (List.replicate 6 (0#64))) w:=(zeroValue25 w).trans rr
theorem zv37(w:World):(zeroValue 37).run prog w=.ok (aM (List.replicate 6 (0#64))) w:=(zeroValue37 w).trans rr
theorem zv117(w:World):(zeroValue 117).run prog w=.ok (aM (List.replicate 12 (0#64))) w:=(zeroValue117 w).trans rr
theorem zv29(w:World):(zeroValue 29).run prog w=.ok (.agg ((List.replicate 48 (0#8)).map U8).toArray) w:=(zeroValue29 w).trans rr
theorem nG(a b:L6)(ha:a.length=6)(hb:b.length=6):PUR 59 [aM (a),aM (b)] (.tuple #[aM ((AS a b 6).1),U64 (AS a b 6).2]):=by
 intro w hw
 refine Hf func59 rfl hw<|fun hGF=>Xp<|Bx 2 hGF rfl<|fun b2=>Bx 3 hGF rfl<|fun b3=>Al 4 hGF zv25<|fun b4=>Asg rfl<|aa<|Xp<|Al 6 hGF zv25<|fun b6=>aa<|Xp<|Asg rfl<|aa<|ah<|Xp<|Mv rfl<|aa<|ai<|bL (ι:={i:Nat // i≤6}) (fun x=>[(2,pnt b2),(3,pnt b3),(4,pnt b4),(6,pnt b6),(7,U64 (AS a b x.1).2),(9,I (x.1:Int))]) (fun x=>[(2,b2,a.map U64,25),(3,b3,b.map U64,25),(4,b4,(List.replicate 6 0#64).map U64,25),(6,b6,(AS a b x.1).1.map U64,25)]) (fun x=>6-x.1) ⟨0,om⟩ hGF trv trv<|?_
 rintro ⟨i,hi⟩
 dsimp only
 refine Xp<|Bnr rfl rfl (fun _=>az _ _ _)<|aa<|ah<|?_
 refine bG rfl (fun hc=> ?_) (fun hc=> ?_)
 ·simp only[decide_eq_true_eq]at hc
  refine aq<|ah<|ai<|Xp<|Mv rfl<|Asg rfl<|aa<|Xe []<|Mv rfl<|Mv rfl<|Ia (i) rfl rfl underlying25 sizeOf24<|Lm 2 U64 0 rfl rfl isAgg24 (by rw[ha];omega)<|Mv rfl<|Ia (i) rfl rfl underlying25 sizeOf24<|Lm 3 U64 0 rfl rfl isAgg24 (by rw[hb];omega)<|Mv rfl<|ba rfl rfl (fun w=>db _ _ _ (zR a b i) w) rfl rfl<|Mv rfl<|Ext rfl rfl<|Ext rfl rfl<|Ia (i) rfl rfl underlying25 sizeOf24<|aV 6 U64 hGF rfl rfl rfl sizeOf24 rfl (by rw[aJ];omega) rfl<|Asg rfl<|aa<|Xq<|Bnr rfl rfl (fun _=>au _ _ _ oi)<|Mv rfl<|aa<|?_
  repeat (refine aP ?_)
  exact aD<|⟨rfl,⟨i+1,om⟩,_,by show 6-(i+1)<6-i;omega,rfl,trv,trv⟩
 ·obtain rfl:i=6:=by simp at hc;omega
  refine aW<|Xp<|Lw 6 rfl rfl ci (aJ _ _ _)<|Mv rfl<|Sw 4 hGF rfl rfl rfl ci (aJ _ _ _)<|Asg rfl<|aa<|am<|Rr<|?_
  exact a8 4 rfl rfl rfl rfl isAgg25 sizeOf25 (by rw[List.length_map,aJ]) (fun w hw=>⟨rfl,ac hw⟩)
theorem jY(a b:L6)(ha:a.length=6)(hb:b.length=6):PUR 60 [aM (a),aM (b)] (.tuple #[aM ((SS a b 6).1),U64 (SS a b 6).2]):=by
 intro w hw
 refine Hf func60 rfl hw<|fun hGF=>Xp<|Bx 2 hGF rfl<|fun b2=>Bx 3 hGF rfl<|fun b3=>Al 4 hGF zv25<|fun b4=>Asg rfl<|aa<|Xp<|Al 6 hGF zv25<|fun b6=>aa<|Xp<|Asg rfl<|aa<|ah<|Xp<|Mv rfl<|aa<|ai<|bL (ι:={i:Nat // i≤6}) (fun x=>[(2,pnt b2),(3,pnt b3),(4,pnt b4),(6,pnt b6),(7,U64 (SS a b x.1).2),(9,I (x.1:Int))]) (fun x=>[(2,b2,a.map U64,25),(3,b3,b.map U64,25),(4,b4,(List.replicate 6 0#64).map U64,25),(6,b6,(SS a b x.1).1.map U64,25)]) (fun x=>6-x.1) ⟨0,om⟩ hGF trv trv<|?_
 rintro ⟨i,hi⟩
 dsimp only
 refine Xp<|Bnr rfl rfl (fun _=>az _ _ _)<|aa<|ah<|?_
 refine bG rfl (fun hc=> ?_) (fun hc=> ?_)
 ·simp only[decide_eq_true_eq]at hc
  refine aq<|ah<|ai<|Xp<|Mv rfl<|Asg rfl<|aa<|Xe []<|Mv rfl<|Mv rfl<|Ia (i) rfl rfl underlying25 sizeOf24<|Lm 2 U64 0 rfl rfl isAgg24 (by rw[ha];omega)<|Mv rfl<|Ia (i) rfl rfl underlying25 sizeOf24<|Lm 3 U64 0 rfl rfl isAgg24 (by rw[hb];omega)<|Mv rfl<|ba rfl rfl (fun w=>OS _ _ _ (o4 a b i) w) rfl rfl<|Mv rfl<|Ext rfl rfl<|Ext rfl rfl<|Ia (i) rfl rfl underlying25 sizeOf24<|aV 6 U64 hGF rfl rfl rfl sizeOf24 rfl (by rw[aB];omega) rfl<|Asg rfl<|aa<|Xq<|Bnr rfl rfl (fun _=>au _ _ _ oi)<|Mv rfl<|aa<|?_
  repeat (refine aP ?_)
  exact aD<|⟨rfl,⟨i+1,om⟩,_,by show 6-(i+1)<6-i;omega,rfl,trv,trv⟩
 ·obtain rfl:i=6:=by simp at hc;omega
  refine aW<|Xp<|Lw 6 rfl rfl ci (aB _ _ _)<|Mv rfl<|Sw 4 hGF rfl rfl rfl ci (aB _ _ _)<|Asg rfl<|aa<|am<|Rr<|?_
  exact a8 4 rfl rfl rfl rfl isAgg25 sizeOf25 (by rw[List.length_map,aB]) (fun w hw=>⟨rfl,ac hw⟩)
theorem jV(a b:L6)(ha:a.length=6)(hb:b.length=6):PUR 186 [aM (a),aM (b)] (.tuple #[aM ((AS a b 6).1),U64 (AS a b 6).2]):=by
 intro w hw
 refine Hf func186 rfl hw<|fun hGF=>Xp<|Bx 2 hGF rfl<|fun b2=>Bx 3 hGF rfl<|fun b3=>Al 4 hGF zv37<|fun b4=>Asg rfl<|aa<|Xp<|Al 6 hGF zv37<|fun b6=>aa<|Xp<|Asg rfl<|aa<|ah<|Xp<|Asg rfl<|aa<|ai<|bL (ι:={i:Nat // i≤6}) (fun x=>[(2,pnt b2),(3,pnt b3),(4,pnt b4),(6,pnt b6),(7,U64 (AS a b x.1).2),(8,I (x.1:Int))]) (fun x=>[(2,b2,a.map U64,37),(3,b3,b.map U64,37),(4,b4,(List.replicate 6 0#64).map U64,37),(6,b6,(AS a b x.1).1.map U64,37)]) (fun x=>6-x.1) ⟨0,om⟩ hGF trv trv<|?_
 rintro ⟨i,hi⟩
 dsimp only
 refine ah<|Xp<|Mv rfl<|Bnr rfl rfl (fun _=>az _ _ _)<|aa<|?_
 refine bG rfl (fun hc=> ?_) (fun hc=> ?_)
 ·simp only[decide_eq_true_eq]at hc
  refine aq<|ah<|ai<|Xe []<|Mv rfl<|Mv rfl<|Ia (i) rfl rfl underlying37 sizeOf24<|Lm 2 U64 0 rfl rfl isAgg24 (by rw[ha];omega)<|Mv rfl<|Ia (i) rfl rfl underlying37 sizeOf24<|Lm 3 U64 0 rfl rfl isAgg24 (by rw[hb];omega)<|Mv rfl<|ba rfl rfl (fun w=>db _ _ _ (zR a b i) w) rfl rfl<|Mv rfl<|Ext rfl rfl<|Ext rfl rfl<|Ia (i) rfl rfl underlying37 sizeOf24<|aV 6 U64 hGF rfl rfl rfl sizeOf24 rfl (by rw[aJ];omega) rfl<|Asg rfl<|aa<|Xq<|Mv rfl<|Bnr rfl rfl (fun _=>au _ _ _ oi)<|Asg rfl<|aa<|?_
  repeat (refine aP ?_)
  exact aD<|⟨rfl,⟨i+1,om⟩,_,by show 6-(i+1)<6-i;omega,rfl,trv,trv⟩
 ·obtain rfl:i=6:=by simp at hc;omega
  refine aW<|Xp<|Lw 6 rfl rfl cb (aJ _ _ _)<|Mv rfl<|Sw 4 hGF rfl rfl rfl cb (aJ _ _ _)<|Asg rfl<|aa<|am<|Rr<|?_
  exact a8 4 rfl rfl rfl rfl isAgg37 sizeOf37 (by rw[List.length_map,aJ]) (fun w hw=>⟨rfl,ac hw⟩)
theorem ep(a b:L6)(ha:a.length=6)(hb:b.length=6):PUR 102 [aM (a),aM (b)] (.tuple #[aM ((SS a b 6).1),U64 (SS a b 6).2]):=by
 intro w hw
 refine Hf func102 rfl hw<|fun hGF=>Xp<|Bx 2 hGF rfl<|fun b2=>Bx 3 hGF rfl<|fun b3=>Al 4 hGF zv37<|fun b4=>Asg rfl<|aa<|Xp<|Al 6 hGF zv37<|fun b6=>aa<|Xp<|Asg rfl<|aa<|ah<|Xp<|Asg rfl<|aa<|ai<|bL (ι:={i:Nat // i≤6}) (fun x=>[(2,pnt b2),(3,pnt b3),(4,pnt b4),(6,pnt b6),(7,U64 (SS a b x.1).2),(8,I (x.1:Int))]) (fun x=>[(2,b2,a.map U64,37),(3,b3,b.map U64,37),(4,b4,(List.replicate 6 0#64).map U64,37),(6,b6,(SS a b x.1).1.map U64,37)]) (fun x=>6-x.1) ⟨0,om⟩ hGF trv trv<|?_
 rintro ⟨i,hi⟩
 dsimp only
 refine ah<|Xp<|Mv rfl<|Bnr rfl rfl (fun _=>az _ _ _)<|aa<|?_
 refine bG rfl (fun hc=> ?_) (fun hc=> ?_)
 ·simp only[decide_eq_true_eq]at hc
  refine aq<|ah<|ai<|Xe []<|Mv rfl<|Mv rfl<|Ia (i) rfl rfl underlying37 sizeOf24<|Lm 2 U64 0 rfl rfl isAgg24 (by rw[ha];omega)<|Mv rfl<|Ia (i) rfl rfl underlying37 sizeOf24<|Lm 3 U64 0 rfl rfl isAgg24 (by rw[hb];omega)<|Mv rfl<|ba rfl rfl (fun w=>OS _ _ _ (o4 a b i) w) rfl rfl<|Mv rfl<|Ext rfl rfl<|Ext rfl rfl<|Ia (i) rfl rfl underlying37 sizeOf24<|aV 6 U64 hGF rfl rfl rfl sizeOf24 rfl (by rw[aB];omega) rfl<|Asg rfl<|aa<|Xq<|Mv rfl<|Bnr rfl rfl (fun _=>au _ _ _ oi)<|Asg rfl<|aa<|?_
  repeat (refine aP ?_)
  exact aD<|⟨rfl,⟨i+1,om⟩,_,by show 6-(i+1)<6-i;omega,rfl,trv,trv⟩
 ·obtain rfl:i=6:=by simp at hc;omega
  refine aW<|Xp<|Lw 6 rfl rfl cb (aB _ _ _)<|Mv rfl<|Sw 4 hGF rfl rfl rfl cb (aB _ _ _)<|Asg rfl<|aa<|am<|Rr<|?_
  exact a8 4 rfl rfl rfl rfl isAgg37 sizeOf37 (by rw[List.length_map,aB]) (fun w hw=>⟨rfl,ac hw⟩)
theorem lY(a b:L6)(ha:a.length=6)(hb:b.length=6):PUR 63 [aM (a),aM (b)] (.bool (LT a b 6)):=by
 intro w hw
 refine Hf func63 rfl hw<|fun hGF=>Xp<|Bx 2 hGF rfl<|fun b2=>Bx 3 hGF rfl<|fun b3=>Asg rfl<|aa<|lW<|ah<|na<|ah<|Xp<|Asg rfl<|aa<|ai<|bL (ι:={i:Nat // i≤6∧LT a b 6=LT a b i}) (fun x=>[(2,pnt b2),(3,pnt b3),(4,.bool false),(5,I ((x.1:Int)-1))]) (fun x=>[(2,b2,a.map U64,25),(3,b3,b.map U64,25)]) (fun x=>x.1) ⟨6,om,rfl⟩ hGF trv trv<|?_
 rintro ⟨i,hi,hlt⟩
 dsimp only
 refine ah<|Xp<|Mv rfl<|Bnr rfl rfl (fun _=>df _ _ _)<|aa<|?_
 refine bG rfl (fun hc=> ?_) (fun hc=> ?_)
 ·simp only[decide_eq_true_eq]at hc
  obtain ⟨k,rfl⟩: ∃k,i=k+1:=⟨i-1,om⟩
  refine aq<|ah<|ai<|ai<|Xd []<|Mv rfl<|Ia (k) rfl rfl underlying25 sizeOf24<|Lm 2 U64 0 rfl rfl isAgg24 (by rw[ha];omega)<|Mv rfl<|Ia (k) rfl rfl underlying25 sizeOf24<|Lm 3 U64 0 rfl rfl isAgg24 (by rw[hb];omega)<|Bnr rfl rfl (fun _=>oq _ _ _)<|Asg rfl<|aa<|?_
  refine bG rfl (fun hc=> ?_) (fun hc=> ?_)
  ·simp only[decide_eq_true_eq]at hc
   have hfin:LT a b 6=true:=by rw[hlt,LT,if_pos hc]
   refine Xp<|Asg rfl<|aa<|am<|?_
   repeat (first|refine bP ?_|refine bR ?_|refine fH ?_)
   exact aG rfl rfl (fun w hw=>⟨by rw[hfin];rfl,ac hw⟩)
  ·simp only[decide_eq_false_iff_not]at hc
   have hc1:=hc
   refine Xd []<|Mv rfl<|Ia (k) rfl rfl underlying25 sizeOf24<|Lm 2 U64 0 rfl rfl isAgg24 (by rw[ha];omega)<|Mv rfl<|Ia (k) rfl rfl underlying25 sizeOf24<|Lm 3 U64 0 rfl rfl isAgg24 (by rw[hb];omega)<|Bnr rfl rfl (fun _=>jl _ _ _)<|Asg rfl<|aa<|?_
   refine bG rfl (fun hc=> ?_) (fun hc=> ?_)
   ·simp only[decide_eq_true_eq]at hc
    have hfin:LT a b 6=false:=by rw[hlt,LT,if_neg hc1,if_pos hc]
    refine aW<|Xp<|Asg rfl<|aa<|am<|?_
    repeat (first|refine bP ?_|refine bR ?_|refine fH ?_)
    exact aG rfl rfl (fun w hw=>⟨by rw[hfin];rfl,ac hw⟩)
   ·simp only[decide_eq_false_iff_not]at hc
    refine aq<|Xq<|Mv rfl<|Bnr (v:=I ((k:Int)-1)) rfl rfl (fun _=>(aX _ _ _ oi).trans (by rw[show (((k+1:Nat):Int)-1)-1=(k:Int)-1 by omega]))<|Asg rfl<|aa<|?_
    repeat (refine aP ?_)
    exact aD<|⟨rfl,⟨k,om,by rw[hlt,LT,if_neg hc1,if_neg hc]⟩,_,by show k<k+1;omega,rfl,trv,trv⟩
 ·simp only[decide_eq_false_iff_not]at hc
  obtain rfl:i=0:=om
  have hfin:LT a b 6=false:=hlt
  refine aW<|Xp<|Asg rfl<|aa<|am<|?_
  repeat (first|refine bP ?_|refine bR ?_|refine fH ?_)
  exact aG rfl rfl (fun w hw=>⟨by rw[hfin];rfl,ac hw⟩)
theorem bM(x y:BitVec 64):PUR 114 [U64 x,U64 y] (.tuple #[U64 (MH x y),U64 (MLo x y)]):=by
 intro w hw
 refine Hf func114 rfl hw<|fun hGF=>Xp<|Asg rfl<|Asg rfl<|aa<|Xp<|Mv rfl<|Bnr rfl rfl (fun _=>ez _ _ _)<|Asg rfl<|aa<|Xp<|Mv rfl<|Bnr rfl rfl (fun _=>cG _ _ _)<|Asg rfl<|aa<|Xp<|Mv rfl<|Bnr rfl rfl (fun _=>ez _ _ _)<|Asg rfl<|aa<|Xp<|Mv rfl<|Bnr rfl rfl (fun _=>cG _ _ _)<|Asg rfl<|aa<|Xp<|Mv rfl<|Mv rfl<|Bnr rfl rfl (fun _=>cr _ _ _)<|Asg rfl<|aa<|Xp<|Mv rfl<|Mv rfl<|Bnr rfl rfl (fun _=>cr _ _ _)<|Mv rfl<|Bnr rfl rfl (fun _=>cG _ _ _)<|Bnr rfl rfl (fun _=>aF _ _ _)<|Asg rfl<|aa<|?_
 refine Xp<|Mv rfl<|Bnr rfl rfl (fun _=>ez _ _ _)<|Asg rfl<|aa<|Xp<|Mv rfl<|Bnr rfl rfl (fun _=>cG _ _ _)<|Asg rfl<|aa<|Xp<|Mv rfl<|Mv rfl<|Mv rfl<|Bnr rfl rfl (fun _=>cr _ _ _)<|Bnr rfl rfl (fun _=>aF _ _ _)<|Asg rfl<|aa<|Xp<|Mv rfl<|Mv rfl<|Bnr rfl rfl (fun _=>cr _ _ _)<|Mv rfl<|Bnr rfl rfl (fun _=>aF _ _ _)<|Mv rfl<|Bnr rfl rfl (fun _=>cG _ _ _)<|Bnr rfl rfl (fun _=>aF _ _ _)<|Asg rfl<|aa<|Xp<|Mv rfl<|Mv rfl<|Bnr rfl rfl (fun _=>cr _ _ _)<|Asg rfl<|aa<|am<|Rr<|?_
 exact cj rfl rfl rfl (fun w hw=>⟨by rw[←aba,←Td];rfl,ac hw⟩)
theorem gj(x y c d:BitVec 64):PUR 66 [U64 x,U64 y,U64 c,U64 d] (.tuple #[U64 (MA x y c d).1,U64 (MA x y c d).2]):=by
 intro w hw
 refine Hf func66 rfl hw<|fun hGF=>Xp<|Asg rfl<|Asg rfl<|aa<|Xp<|Mv rfl<|Mv rfl<|Ca rfl (bM _ _)<|Mv rfl<|Ext rfl rfl<|Ext rfl rfl<|Asg rfl<|Asg rfl<|aa<|Xp<|Mv rfl<|Mv rfl<|ba rfl rfl (fun w=>db _ _ _ dc w) rfl rfl<|Mv rfl<|Ext rfl rfl<|Ext rfl rfl<|Asg rfl<|Asg rfl<|aa<|Xp<|Mv rfl<|Mv rfl<|Bnr rfl rfl (fun _=>aF _ _ _)<|Asg rfl<|aa<|Xp<|Mv rfl<|Mv rfl<|ba rfl rfl (fun w=>db _ _ _ dc w) rfl rfl<|Mv rfl<|Ext rfl rfl<|Ext rfl rfl<|Asg rfl<|Asg rfl<|?_
 refine aa<|Xp<|Mv rfl<|Mv rfl<|Mv rfl<|Bnr rfl rfl (fun _=>aF _ _ _)<|Asg rfl<|Asg rfl<|aa<|am<|Rr<|?_
 exact cj rfl rfl rfl (fun w hw=>⟨rfl,ac hw⟩)
theorem Ak(a b:L6)(ha:a.length=6)(hb:b.length=6):PUR 135 [aM (a),aM (b)] (aM (MU a b 6)):=by
 intro w hw
 refine Hf func135 rfl hw<|fun hGF=>Xp<|Bx 2 hGF rfl<|fun b2=>Bx 3 hGF rfl<|fun b3=>Al 4 hGF zv117<|fun b4=>aa<|Xp<|Al 5 hGF zv117<|fun b5=>aa<|ah<|Xp<|Asg rfl<|aa<|ai<|bL (ι:={i:Nat // i≤6}) (fun x=>[(2,pnt b2),(3,pnt b3),(4,pnt b4),(5,pnt b5),(6,I (x.1:Int))]) (fun x=>[(2,b2,a.map U64,37),(3,b3,b.map U64,37),(4,b4,(List.replicate 12 0#64).map U64,117),(5,b5,(MU a b x.1).map U64,117)]) (fun x=>6-x.1) ⟨0,om⟩ hGF trv trv<|?_
 rintro ⟨i,hi⟩
 dsimp only
 refine ah<|Xp<|Mv rfl<|Bnr rfl rfl (fun _=>az _ _ _)<|aa<|?_
 refine bG rfl (fun hc=> ?_) (fun hc=> ?_)
 ·simp only[decide_eq_true_eq]at hc
  refine aq<|ah<|ai<|Xp<|Asg rfl<|aa<|ah<|Xp<|Asg rfl<|aa<|ai<|bL (ι:={i:Nat // i≤6}) (fun x=>[(2,pnt b2),(3,pnt b3),(4,pnt b4),(5,pnt b5),(6,I (i:Int)),(7,U64 (MI (a.getD i 0) b i (MU a b i) x.1).2),(8,I (x.1:Int))]) (fun x=>[(2,b2,a.map U64,37),(3,b3,b.map U64,37),(4,b4,(List.replicate 12 0#64).map U64,117),(5,b5,(MI (a.getD i 0) b i (MU a b i) x.1).1.map U64,117)]) (fun x=>6-x.1) ⟨0,om⟩ hGF trv trv<|?_
  rintro ⟨j,hj⟩
  dsimp only
  refine ah<|Xp<|Mv rfl<|Bnr rfl rfl (fun _=>az _ _ _)<|aa<|?_
  refine bG rfl (fun hc=> ?_) (fun hc=> ?_)
  ·simp only[decide_eq_true_eq]at hc
   refine aq<|ah<|ai<|Xd []<|Mv rfl<|Ia (i) rfl rfl underlying37 sizeOf24<|Lm 2 U64 0 rfl rfl isAgg24 (by rw[ha];omega)<|Mv rfl<|Ia (j) rfl rfl underlying37 sizeOf24<|Lm 3 U64 0 rfl rfl isAgg24 (by rw[hb];omega)<|Ca rfl (bM _ _)<|Mv rfl<|Ext rfl rfl<|Ext rfl rfl<|Asg rfl<|Asg rfl<|aa<|Xp<|Asg rfl<|aa<|Xp<|Mv rfl<|Mv rfl<|Mv rfl<|Bnr rfl rfl (fun _=>au _ _ _ oi)<|Ia ((i+j)) rfl rfl underlying117 sizeOf24<|Lm 5 U64 0 rfl rfl isAgg24 (by rw[lr,iz];omega)<|ba rfl rfl (fun w=>db _ _ _ dc w) rfl rfl<|Mv rfl<|Ext rfl rfl<|Ext rfl rfl<|Asg rfl<|Asg rfl<|aa<|Xp<|Mv rfl<|Mv rfl<|Bnr rfl rfl (fun _=>aF _ _ _)<|Asg rfl<|aa<|?_
   refine Xp<|Mv rfl<|Mv rfl<|ba rfl rfl (fun w=>db _ _ _ dc w) rfl rfl<|Mv rfl<|Ext rfl rfl<|Ext rfl rfl<|Asg rfl<|Asg rfl<|aa<|Xp<|Mv rfl<|Mv rfl<|Bnr rfl rfl (fun _=>aF _ _ _)<|Asg rfl<|aa<|Xq<|Mv rfl<|Mv rfl<|Bnr rfl rfl (fun _=>au _ _ _ oi)<|Mv rfl<|Mv rfl<|Ia ((i+j)) rfl rfl underlying117 sizeOf24<|aV 5 U64 hGF rfl rfl rfl sizeOf24 rfl (by rw[lr,iz];omega) rfl<|Asg rfl<|aa<|Xq<|Mv rfl<|Bnr rfl rfl (fun _=>au _ _ _ oi)<|Asg rfl<|aa<|?_
   repeat (refine aP ?_)
   exact aD<|⟨rfl,⟨j+1,om⟩,_,by show 6-(j+1)<6-j;omega,rfl,trv,trv⟩
  ·obtain rfl:j=6:=by simp at hc;omega
   refine aW<|Xq<|Mv rfl<|Bnr rfl rfl (fun _=>au _ _ _ oi)<|Mv rfl<|Ia ((i+6)) rfl rfl underlying117 sizeOf24<|aV 5 U64 hGF rfl rfl rfl sizeOf24 rfl (by rw[lr,iz];omega) rfl<|aa<|Xq<|Mv rfl<|Bnr rfl rfl (fun _=>au _ _ _ oi)<|Asg rfl<|aa<|?_
   repeat (refine aP ?_)
   exact aD<|⟨rfl,⟨i+1,om⟩,_,by show 6-(i+1)<6-i;omega,rfl,trv,trv⟩
 ·obtain rfl:i=6:=by simp at hc;omega
  refine aW<|Xp<|Lw 5 rfl rfl Ii (iz _ _ _)<|Sw 4 hGF rfl rfl rfl Ii (iz _ _ _)<|aa<|am<|Rr<|?_
  exact av 4 rfl rfl rfl isAgg117 sizeOf117 (by rw[List.length_map,iz]) (fun w hw=>⟨rfl,ac hw⟩)
end
section
open Go.RowKit
theorem eqg(op:BinOp)(x y:Operand)(xs ys:Array Value)(w:World):(eqGuard op 25 x y (.agg xs) (.agg ys)).run prog w=.ok () w:=run_eqGuard_agg w op 25 x y xs ys kr
theorem Ot(op:BinOp)(x y:Operand)(xs ys:Array Value)(w:World):(eqGuard op 37 x y (.agg xs) (.agg ys)).run prog w=.ok () w:=run_eqGuard_agg w op 37 x y xs ys kr
theorem eq23(xs ys:L6)(h:xs.length=6)(h':ys.length=6)(w:World):(binOp .eql 25 (aM xs) (aM ys)).run prog w=.ok (.bool (decide (xs=ys))) w:=ql underlying25 underlying24 sizeOf24 isAgg24 xs ys h h' w
theorem WY(xs ys:L6)(h:xs.length=6)(h':ys.length=6)(w:World):(binOp .eql 37 (aM xs) (aM ys)).run prog w=.ok (.bool (decide (xs=ys))) w:=ql underlying37 underlying24 sizeOf24 isAgg24 xs ys h h' w
theorem bX{n:Nat}{b1:Nat}{c1:List Value}{t1:TypeId}: ∀i j b c t c' t',lkB [(n,b1,c1,t1)] i=some (b,c,t)→lkB [(n,b1,c1,t1)] j=some (b,c',t')→i=j:=by
 intro i j b c t c' t' h1 h2
 rcases aL h1 with ⟨e1,x1⟩|⟨_,h1⟩
 ·rcases aL h2 with ⟨e2,x2⟩|⟨_,h2⟩
  ·exact e1.trans e2.symm
  ·cases h2
 ·cases h1
theorem cg{J:(Nat→Prop)→World→Prop}(hr:Rides J){Y:Nat→Prop}{w:World}(h:J Y w):J (fun _=>False) w:=hr.less _ _ _ (fun _ h=>h.elim) h
theorem r8(a:L6)(top:BitVec 64)(m:L6)(ha:a.length=6)(hm:m.length=6):PUR 68 [aM (a),U64 top,aM (m)] (aM (RED a top m)):=by
 intro w hw
 refine Hf func68 rfl hw ?_
 intro hGF
 by_cases h1:top=0
 ·by_cases h2:(SS a m 6).2=1
  ·refine Xp<|Bx 3 hGF rfl<|fun b3=>Bx 5 hGF rfl<|fun b5=>Al 6 hGF zv25<|fun b6=>aa<|Xp<|Lw 3 rfl rfl ci ha<|Lw 5 rfl rfl ci hm<|Ca rfl (jY a m ha hm)<|Mv rfl<|Ext rfl rfl<|Ext rfl rfl<|Al 7 hGF zv25<|fun b7=>Sw 7 hGF rfl rfl rfl ci (aB _ _ _)<|Asg rfl<|aa<|ah<|Xp<|Mv rfl<|Bnr (v:=.bool true) rfl rfl (fun w=>(bx _ _ _).trans (congrArg (fun b=>Result.ok (Value.bool b) w) (beq_iff_eq.2 h1)))<|Mv rfl<|Mv rfl<|Bnr (v:=.bool true) rfl rfl (fun w=>(bx _ _ _).trans (congrArg (fun b=>Result.ok (Value.bool b) w) (beq_iff_eq.2 h2)))<|Pk rfl rfl rfl<|aa<|aR rfl<|Xp<|Lw 3 rfl rfl ci ha<|Sw 6 hGF rfl rfl rfl ci ha<|aa<|am<|Rr<|?_
   exact av 6 rfl rfl rfl isAgg25 sizeOf25 (by rw[List.length_map,ha]) (fun w hw=>⟨by rw[RED,if_pos (⟨h1,h2⟩)],ac hw⟩)
  ·refine Xp<|Bx 3 hGF rfl<|fun b3=>Bx 5 hGF rfl<|fun b5=>Al 6 hGF zv25<|fun b6=>aa<|Xp<|Lw 3 rfl rfl ci ha<|Lw 5 rfl rfl ci hm<|Ca rfl (jY a m ha hm)<|Mv rfl<|Ext rfl rfl<|Ext rfl rfl<|Al 7 hGF zv25<|fun b7=>Sw 7 hGF rfl rfl rfl ci (aB _ _ _)<|Asg rfl<|aa<|ah<|Xp<|Mv rfl<|Bnr (v:=.bool true) rfl rfl (fun w=>(bx _ _ _).trans (congrArg (fun b=>Result.ok (Value.bool b) w) (beq_iff_eq.2 h1)))<|Mv rfl<|Mv rfl<|Bnr (v:=.bool false) rfl rfl (fun w=>(bx _ _ _).trans (congrArg (fun b=>Result.ok (Value.bool b) w) (beq_eq_false_iff_ne.2 h2)))<|Pk rfl rfl rfl<|aa<|aC rfl<|aq<|Xp<|Lw 7 rfl rfl ci (aB _ _ _)<|Sw 6 hGF rfl rfl rfl ci (aB _ _ _)<|aa<|am<|Rr<|?_
   exact av 6 rfl rfl rfl isAgg25 sizeOf25 (by rw[List.length_map,aB]) (fun w hw=>⟨by rw[RED,if_neg (fun h=>h2 h.2)],ac hw⟩)
 ·refine Xp<|Bx 3 hGF rfl<|fun b3=>Bx 5 hGF rfl<|fun b5=>Al 6 hGF zv25<|fun b6=>aa<|Xp<|Lw 3 rfl rfl ci ha<|Lw 5 rfl rfl ci hm<|Ca rfl (jY a m ha hm)<|Mv rfl<|Ext rfl rfl<|Ext rfl rfl<|Al 7 hGF zv25<|fun b7=>Sw 7 hGF rfl rfl rfl ci (aB _ _ _)<|Asg rfl<|aa<|ah<|Xp<|Mv rfl<|Bnr (v:=.bool false) rfl rfl (fun w=>(bx _ _ _).trans (congrArg (fun b=>Result.ok (Value.bool b) w) (beq_eq_false_iff_ne.2 h1)))<|Mv rfl<|Sk<|Sk<|Pk rfl rfl rfl<|aa<|aC rfl<|aq<|Xp<|Lw 7 rfl rfl ci (aB _ _ _)<|Sw 6 hGF rfl rfl rfl ci (aB _ _ _)<|aa<|am<|Rr<|?_
  exact av 6 rfl rfl rfl isAgg25 sizeOf25 (by rw[List.length_map,aB]) (fun w hw=>⟨by rw[RED,if_neg (fun h=>h1 h.1)],ac hw⟩)
def uU(bb b:Nat)(a:L6)(n:Nat):Cls:=fun W=>W.cell? ⟨bb,0,none⟩=some (.slice (spt b) n n)∧W.rangeAt b 0 (a.map U64)
def DG(a:L6)(n:Nat):List (List Value):=(List.range (64*n)).map fun j=>[I ((64*n-1-j:Nat):Int),U64 (dig a (64*n-1-j))]
theorem fJ(a:L6)(n:Nat):(DG a n).length=64*n:=by simp[DG]
theorem Su(a:L6)(n q s:Nat)(hq:q<n)(hs:s<64):(DG a n)[64*(n-(q+1))+(64-(s+1))]? =some [I ((64*q+s:Nat):Int),U64 (dig a (64*q+s))]:=by
 have h:64*(n-(q+1))+(64-(s+1))<64*n:=om
 rw[DG,List.getElem?_map,List.getElem?_range h]
 simp only[Option.map_some]
 rw[show 64*n-1-(64*(n-(q+1))+(64-(s+1)))=64*q+s by omega]
theorem N4(a:L6)(n k:Nat)(x:List Value)(h:(DG a n)[k]? =some x):k<64*n∧x=[I ((64*n-1-k:Nat):Int),U64 (dig a (64*n-1-k))]:=by
 have hk:k<64*n:=by
  rcases Nat.lt_or_ge k (64*n)with h'|h'
  ·exact h'
  ·rw[List.getElem?_eq_none (by rw[fJ];exact h')]at h;cases h
 rw[DG,List.getElem?_map,List.getElem?_range hk]at h
 exact ⟨hk,(Option.some.inj h).symm⟩
theorem m7(sv:Value)(hs:sv.cells= #[sv])(w:World)(hw:Gt w):CLS 113 [sv].toArray w (fun e w'=> ∃b1,e=.returned (.func (.func 166) #[] #[pnt b1])∧Grow w w'∧w.heap.size≤b1∧OwnB w' b1 [sv] 118):=by
 refine Hf func113 rfl hw<|fun hGF=>Xp<|i9 1 hGF rfl rfl rfl<|fun b1=>Asg rfl<|aa<|Xp<|gz rfl rfl rfl rfl<|Asg rfl<|aa<|am<|Rr<|?_
 exact aG rfl rfl (fun w hw=>⟨b1,rfl,ac hw,(hw.own 1 b1 _ _ rfl).2.elim id False.elim,(by have:=(hw.own 1 b1 _ _ rfl).1;rw[hs]at this;exact this)⟩)
theorem rT(bb b:Nat)(a:L6)(n:Nat)(hn:n≤100)(ha:a.length=n):fV prog Gt 166 [pnt bb] (DG a n) (uU bb b a n):=by
 intro l J Jx hJ hJx hRd hGx hY w hj
 have okJ: ∀k,BOk Gt (Bi w (fun Y=>J Y k)):=fun k=>⟨fun _ _ _ h=>(hRd _ _ _ h.rid).1,hJ k⟩
 have okX: ∀k,BOk Gt (Bi w (fun Y=>Jx Y k)):=fun k=>⟨fun _ _ _ h=>hGx _ _ _ h.rid,hJx k⟩
 have c1: ∀k L w',Hp (Bi w (fun Y=>J Y k)) L w'→uU bb b a n w':=fun k L w' h=>(hRd _ _ _ h.rid).2
 refine cx (G:=Gt) func166 rfl rfl (Hp (Bi w (fun Y=>J Y 0)) []) (cm (Bi w _) hj (hJ 0)) (aA (okJ 0))<|lW<|ah<|na<|Xp<|bT rfl isAgg118 (fun w h=>(c1 _ _ w h).1) rfl rfl<|bi rfl (fun _=>aI underlying118 _ _ _ _) rfl rfl<|Bnr rfl rfl (fun _=>aX _ _ _ oi)<|Asg rfl<|aa<|ai<|gQ (ι:={i:Nat // i≤n}) (fun x=>[(0,.func (.yield l) #[] #[]),(1,pnt bb),(3,I ((x.1:Int)-1))]) (fun x=>Bi w (fun Y=>J Y (64*(n-x.1)))) (fun x=>[]) (fun x=>x.1) ⟨n,Nat.le_refl _⟩ (fun _=>okJ _) (by rw[Nat.sub_self]) trv trivial<|?_
 rintro ⟨i,hi⟩
 dsimp only
 refine ah<|Xp<|Mv rfl<|Bnr rfl rfl (fun _=>df _ _ _)<|aa<|?_
 refine bG rfl (fun hc=> ?_) (fun hc=> ?_)
 ·simp only[decide_eq_true_eq]at hc
  obtain ⟨q,rfl⟩: ∃q,i=q+1:=⟨i-1,om⟩
  clear hc
  rw[show ((q+1:Nat):Int)-1=(q:Int) by omega]
  refine aq<|ah<|ai<|Xp<|Asg rfl<|aa<|ai<|gQ (ι:={r:Nat // r≤64}) (fun x=>[(0,.func (.yield l) #[] #[]),(1,pnt bb),(3,I (q:Int)),(4,I ((x.1:Int)-1))]) (fun x=>Bi w (fun Y=>J Y (64*(n-(q+1))+(64-x.1)))) (fun x=>[]) (fun x=>x.1) ⟨64,Nat.le_refl _⟩ (fun _=>okJ _) rfl trv trivial<|?_
  rintro ⟨r,hr⟩
  dsimp only
  refine ah<|Xp<|Mv rfl<|Bnr rfl rfl (fun _=>df _ _ _)<|aa<|?_
  refine bG rfl (fun hc=> ?_) (fun hc=> ?_)
  ·simp only[decide_eq_true_eq]at hc
   obtain ⟨s,rfl⟩: ∃s,r=s+1:=⟨r-1,om⟩
   clear hc
   rw[show ((s+1:Nat):Int)-1=(s:Int) by omega]
   refine aq<|ah<|ai<|Xp<|Mv rfl<|Mv rfl<|Bnr (v:=I ((64*q:Nat):Int)) rfl rfl (fun _=>(bB _ _ _ oi).trans (by rw[show (64:Int)*(q:Int)=((64*q:Nat):Int) by omega]))<|Mv rfl<|Bnr (v:=I ((64*q+s:Nat):Int)) rfl rfl (fun _=>(au _ _ _ oi).trans (by rw[show ((64*q:Nat):Int)+(s:Int)=((64*q+s:Nat):Int) by omega]))<|bT rfl isAgg118 (fun w h=>(c1 _ _ w h).1) rfl rfl<|Mv rfl<|fP q rfl rfl underlying118 sizeOf24 om om rfl rfl<|bT rfl isAgg24 (fun w h=>(c1 _ _ w h).2 q _ (gm U64 a 0 q om)) rfl rfl<|Mv rfl<|Bnr rfl rfl (fun _=>cZ _ _ _ om)<|Bnr (v:=U64 (dig a (64*q+s))) rfl rfl (fun _=>(ez _ _ _).trans (by rw[←VK a q s om];rfl))<|?_
   refine dC (hY.b (k:=64*(n-(q+1))+(64-(s+1))) (Su a n q s om om) w) (okJ _) (okX _) rfl rfl rfl rfl rfl ?_ ?_
   ·refine bu rfl (fun _=>a9 _) rfl rfl<|aa<|aC rfl<|aq<|Xq<|Mv rfl<|Bnr rfl rfl (fun _=>aX _ _ _ oi)<|Asg rfl<|aa<|?_
    rw[show 64*(n-(q+1))+(64-(s+1))+1=64*(n-(q+1))+(64-s) by omega]
    repeat (refine aP ?_)
    exact aD<|⟨rfl,⟨s,om⟩,_,by show s<s+1;omega,rfl,trv,trivial⟩
   ·refine bu rfl (fun _=>a9 _) rfl rfl<|aa<|aR rfl<|aW<|?_
    repeat (first|refine dH ?_|refine cq ?_|refine dS rfl ?_)
    exact Jc<|cQ rfl (fun w hw=>⟨⟨_,rfl⟩,.inr ⟨_,cg (hJx _) hw.rid⟩⟩)
  ·simp only[decide_eq_false_iff_not]at hc
   obtain rfl:r=0:=om
   clear hc
   rw[show 64*(n-(q+1))+(64-0)=64*(n-q) by omega]
   refine aW<|Xq<|Mv rfl<|Bnr rfl rfl (fun _=>aX _ _ _ oi)<|Asg rfl<|aa<|?_
   repeat (refine aP ?_)
   exact aD<|⟨rfl,⟨q,om⟩,_,by show q<q+1;omega,rfl,trv,trivial⟩
 ·simp only[decide_eq_false_iff_not]at hc
  obtain rfl:i=0:=om
  refine aW ?_
  repeat (first|refine dH ?_|refine cq ?_|refine dS rfl ?_)
  refine Jc ?_
  refine cQ rfl (fun w hw=>⟨⟨_,rfl⟩,.inl ?_⟩)
  have:=cg (hJ _) hw.rid
  rw[fJ]
  exact this
end
section
open Go.RowKit
theorem FD(t m:L6)(ht:t.length=12)(hm:m.length=6):PUR 64 [aM (t),aM (m)] (aM (MOD t m)):=by
 intro w hw
 have hGF:BOk Gt (pl w):=gt_low.plain hw
 refine cz (G:=Gt) func64 rfl rfl (Hp (pl w) []) (cm (pl w) trivial ao) (aA hGF)<|ae (E:=EE [113])<|Bx 2 hGF rfl<|fun b2=>Bx 3 hGF rfl<|fun b3=>Al 4 hGF zv25<|fun b4=>aa<|ae (E:=EE [113])<|Al 5 hGF zv25<|fun b5=>aa<|ah<|ae (E:=EE [113])<|Lw 3 rfl rfl ci hm<|Lw 5 rfl rfl ci List.length_replicate<|cy rfl rfl (fun w=>eqg _ _ _ _ _ w) (fun w=>eq23 m (List.replicate 6 0) hm rfl w) rfl rfl<|aa<|?_
 refine bG rfl (fun hc=> ?_) (fun hc=> ?_)
 ·simp only[decide_eq_true_eq]at hc
  refine ae (E:=EE [113])<|Lw 5 rfl rfl ci List.length_replicate<|aw 4 hGF rfl rfl rfl sizeOf25 sm (by rw[List.length_map,List.length_replicate]) (be _) rfl<|aa<|am<|Rr<|?_
  exact KV (.inl rfl) (av 4 rfl rfl rfl isAgg25 sizeOf25 (by rw[List.length_map,List.length_replicate]) (fun w hw=>⟨by rw[MOD,if_pos hc];rfl,ac hw⟩))
 ·simp only[decide_eq_false_iff_not]at hc
  refine aq<|ah<|ae (E:=EE [113])<|bD (l:=0) (h':=12) rfl underlying117 sizeOf24 rfl rfl om om rfl rfl<|?_
  refine dz rfl rfl ent113 rfl rfl (fun w' hw'=>(m7 _ rfl w' (hGF.g _ _ _ hw')).mono fun e w'' h=> ?_)
  obtain ⟨c1,rfl,hg,h1,ho⟩:=h
  refine ⟨_,_,rfl,aA hGF,hw'.news ao hg [(33,c1,[.slice (spt b2) 12 12],118)] ?_ bX, ?_⟩
  ·intro n' b' c' t' hl
   rcases aL hl with ⟨_,e⟩|⟨_,hl⟩
   ·cases e;exact ⟨h1,ho⟩
   ·cases hl
  clear hw' hg h1 ho
  refine aa<|ai<|?_
  refine ft (fun _=>pl w) (fun _ _=>pl w) (fun _=>hGF) (fun _ _=>hGF) (fun _=>rfl) (fun _ _=>rfl) rfl rfl ent166 (rT c1 b2 t 12 dc ht) (fun x hx=>by obtain ⟨k,hk,rfl⟩:=List.mem_map.1 hx;rfl) rfl (fun k=>[(2,b2,t.map U64,117),(3,b3,m.map U64,25),(4,b4,(List.replicate 6 0#64).map U64,25),(5,b5,(MDs t m k).map U64,25),(33,c1,[.slice (spt b2) 12 12],118)]) (fun _ _ _=>False) trv (fun k _ w' h=>⟨cB (n:=33) rfl rfl w' h,aH (n:=2) rfl w' h⟩) ?_ ?_ (fun _ _ _ _ _ h=>h.elim)
  ·intro k x hx R hR
   obtain ⟨hk,rfl⟩:=N4 t 12 k x hx
   rw[show 64*12-1-k=767-k from rfl]
   refine bN (E:=EE [113])<|Asg rfl<|aa<|?_
   refine ⟨rfl,_,rfl, ?_⟩
   exact ai<|ae (E:=EE [113])<|Lw 5 rfl rfl ci (cJ _ _ _)<|Lw 5 rfl rfl ci (cJ _ _ _)<|Ca rfl (nG _ _ (cJ t m _) (cJ t m _))<|Mv rfl<|Ext rfl rfl<|Ext rfl rfl<|dX 8 (hR (pl w) rfl hGF).2.1 zv25 rfl rfl<|fun b8=>aw 8 (hR (pl w) rfl hGF).2.1 rfl rfl rfl sizeOf25 (by rw[List.length_map,aJ]) (by rw[List.length_map,List.length_replicate]) (be _) rfl<|Asg rfl<|aa<|ae (E:=EE [113])<|Ia (0) rfl rfl underlying25 sizeOf24<|Lm 8 U64 0 rfl rfl isAgg24 (by rw[aJ];omega)<|Mv rfl<|Bnr rfl rfl (fun _=>fg _ _ _)<|Ia (0) rfl rfl underlying25 sizeOf24<|aV 8 U64 (hR (pl w) rfl hGF).2.1 rfl rfl rfl sizeOf24 rfl (by rw[aJ];omega) rfl<|aa<|bN (E:=EE [113])<|bY 8 rfl rfl isAgg25 sizeOf25 (by rw[List.length_map,List.length_set,aJ]) rfl rfl<|Mv rfl<|Lw 3 rfl rfl ci hm<|Ca rfl (r8 _ _ _ (qA _ _) hm)<|aw 5 (hR (pl w) rfl hGF).2.1 rfl rfl rfl sizeOf25 (by rw[List.length_map];exact kI _ _ _ (qA _ _)) (by rw[List.length_map,cJ]) (be _) rfl<|aa<|⟨_,rfl,trv⟩
  ·intro D hD
   rw[fJ]
   refine ae (E:=EE [113])<|Lw 5 rfl rfl ci (cJ _ _ _)<|Sw 4 hD rfl rfl rfl ci (cJ _ _ _)<|aa<|am<|Rr<|?_
   exact d9 (.inl rfl) ao (av 4 rfl rfl rfl isAgg25 sizeOf25 (by rw[List.length_map,cJ]) (fun w hw=>⟨by rw[MOD,if_neg hc],ac hw⟩))
theorem DU(t m:L6)(ht:t.length=12)(hm:m.length=6):PUR 136 [aM (t),aM (m)] (aM (MOD t m)):=by
 intro w hw
 refine Hf func136 rfl hw<|fun hGF=>Xp<|Bx 2 hGF rfl<|fun b2=>Bx 3 hGF rfl<|fun b3=>Al 4 hGF zv37<|fun b4=>aa<|Xp<|Al 5 hGF zv37<|fun b5=>aa<|ah<|Xp<|Lw 3 rfl rfl cb hm<|el zv37 underlying37 sizeOf24 rfl rfl<|cy rfl rfl (fun w=>Ot _ _ _ _ _ w) (fun w=>WY m (List.replicate 6 0) hm rfl w) rfl rfl<|aa<|?_
 refine bG rfl (fun hc=> ?_) (fun hc=> ?_)
 ·simp only[decide_eq_true_eq]at hc
  have hz:=hc
  refine Xp<|Lw 5 rfl rfl cb List.length_replicate<|Sw 4 hGF rfl rfl rfl cb List.length_replicate<|aa<|am<|Rr<|?_
  exact av 4 rfl rfl rfl isAgg37 sizeOf37 (by rw[List.length_map,List.length_replicate]) (fun w hw=>⟨by rw[MOD,if_pos hz];rfl,ac hw⟩)
 ·simp only[decide_eq_false_iff_not]at hc
  have hz:=hc
  refine aq<|ah<|Xp<|Asg rfl<|aa<|ai<|bL (ι:={i:Nat // i≤768}) (fun x=>[(2,pnt b2),(3,pnt b3),(4,pnt b4),(5,pnt b5),(6,I (((768-x.1:Nat):Int)-1))]) (fun x=>[(2,b2,t.map U64,117),(3,b3,m.map U64,37),(4,b4,(List.replicate 6 0#64).map U64,37),(5,b5,(MDs t m x.1).map U64,37)]) (fun x=>768-x.1) ⟨0,om⟩ hGF trv trv<|?_
  rintro ⟨j,hj⟩
  dsimp only
  refine ah<|Xp<|Mv rfl<|Bnr rfl rfl (fun _=>df _ _ _)<|aa<|?_
  refine bG rfl (fun hc=> ?_) (fun hc=> ?_)
  ·simp only[decide_eq_true_eq]at hc
   rw[show ((768-j:Nat):Int)-1=((767-j:Nat):Int) by omega]
   refine aq<|ah<|ai<|Xp<|Ia (5) rfl rfl underlying37 sizeOf24<|Lm 5 U64 0 rfl rfl isAgg24 (by rw[cJ];omega)<|Bnr rfl rfl (fun _=>cG _ _ _)<|Asg rfl<|aa<|ah<|Xp<|Asg rfl<|aa<|ai<|bL (ι:={i:Nat // i≤5}) (fun x=>[(2,pnt b2),(3,pnt b3),(4,pnt b4),(5,pnt b5),(6,I ((767-j:Nat):Int)),(7,U64 ((MDs t m j).getD 5 0>>>63)),(8,I ((5-x.1:Nat):Int))]) (fun x=>[(2,b2,t.map U64,117),(3,b3,m.map U64,37),(4,b4,(List.replicate 6 0#64).map U64,37),(5,b5,(SHs (MDs t m j) x.1).map U64,37)]) (fun x=>5-x.1) ⟨0,om⟩ hGF trv trv<|?_
   rintro ⟨s,hs⟩
   dsimp only
   refine ah<|Xp<|Mv rfl<|Bnr rfl rfl (fun _=>bc _ _ _)<|aa<|?_
   refine bG rfl (fun hc=> ?_) (fun hc=> ?_)
   ·simp only[decide_eq_true_eq]at hc
    refine aq<|ah<|ai<|Xe []<|Mv rfl<|Mv rfl<|Ia ((5-s)) rfl rfl underlying37 sizeOf24<|Lm 5 U64 0 rfl rfl isAgg24 (by rw[fY _ (cJ t m j)];omega)<|Bnr rfl rfl (fun _=>ip _ _ _)<|Mv rfl<|Bnr (v:=I ((4-s:Nat):Int)) rfl rfl (fun _=>(aX _ _ _ oi).trans (by rw[show (((5-s:Nat):Int)-1)=((4-s:Nat):Int) by omega]))<|Ia ((4-s)) rfl rfl underlying37 sizeOf24<|Lm 5 U64 0 rfl rfl isAgg24 (by rw[fY _ (cJ t m j)];omega)<|Bnr rfl rfl (fun _=>cG _ _ _)<|Bnr rfl rfl (fun _=>fg _ _ _)<|Ia ((5-s)) rfl rfl underlying37 sizeOf24<|aV 5 U64 hGF rfl rfl rfl sizeOf24 rfl (by rw[fY _ (cJ t m j)];omega) rfl<|aa<|Xq<|Mv rfl<|Bnr (v:=I ((5-(s+1):Nat):Int)) rfl rfl (fun _=>(aX _ _ _ oi).trans (by rw[show (((5-s:Nat):Int)-1)=((5-(s+1):Nat):Int) by omega]))<|Asg rfl<|aa<|?_
    repeat (refine aP ?_)
    exact aD<|⟨rfl,⟨s+1,om⟩,_,by show 5-(s+1)<5-s;omega,rfl,trv,trv⟩
   ·simp only[decide_eq_false_iff_not]at hc
    obtain rfl:s=5:=om
    refine aW<|Xd []<|Ia (0) rfl rfl underlying37 sizeOf24<|Lm 5 U64 0 rfl rfl isAgg24 (by rw[fY _ (cJ t m j)];omega)<|Bnr rfl rfl (fun _=>ip _ _ _)<|Mv rfl<|Bnr (v:=I (((767-j) / 64:Nat):Int)) rfl rfl (fun _=>fG _ _ _ dc (show inI (((767-j) / 64:Nat):Int) by unfold inI;omega))<|Ia (((767-j) / 64)) rfl rfl underlying117 sizeOf24<|Lm 2 U64 0 rfl rfl isAgg24 (by rw[ht];omega)<|Mv rfl<|Bnr (v:=I (((767-j) % 64:Nat):Int)) rfl rfl (fun _=>cV _ _ _ dc)<|Bnr (v:=U64 (t.getD ((767-j) / 64) 0>>>((767-j) % 64))) rfl rfl (fun _=>cZ _ _ _ om)<|Bnr (v:=U64 (dig t (767-j))) rfl rfl (fun _=>ez _ _ _)<|Bnr rfl rfl (fun _=>fg _ _ _)<|Ia (0) rfl rfl underlying37 sizeOf24<|aV 5 U64 hGF rfl rfl rfl sizeOf24 rfl (by rw[fY _ (cJ t m j)];omega) rfl<|aa<|Xp<|bY 5 rfl rfl isAgg37 sizeOf37 (by rw[List.length_map,List.length_set,fY _ (cJ t m j)]) rfl rfl<|Lw 3 rfl rfl cb hm<|Ca rfl (ep _ _ (zW _ _ (cJ t m j)) hm)<|Mv rfl<|Ext rfl rfl<|Ext rfl rfl<|Al 9 hGF zv37<|fun b9=>Sw 9 hGF rfl rfl rfl cb (aB _ _ _)<|Asg rfl<|aa<|Xp<|Mv rfl<|?_
    rcases Decidable.em ((MDs t m j).getD 5 0>>>63=1)with ht1|ht1
    ·refine Bnr (v:=.bool true) rfl rfl (fun w=>(bx _ _ _).trans (congrArg (fun b=>Result.ok (Value.bool b) w) (beq_iff_eq.2 ht1)))<|Mv rfl<|Sk<|Sk<|Pk rfl rfl rfl<|aa<|aR rfl<|Xq<|Lw 9 rfl rfl cb (aB _ _ _)<|aw 5 hGF rfl rfl rfl sizeOf37 (by rw[List.length_map,aB _ _ _]) (by rw[List.length_map,List.length_set,fY _ (cJ t m j)]) (be _) rfl<|aa<|Xq<|Mv rfl<|cy (v:=I (((768-(j+1):Nat):Int)-1)) rfl rfl (fun _=>rfl) (fun _=>(aX _ _ _ oi).trans (by rw[show (((767-j:Nat):Int)-1)=((768-(j+1):Nat):Int)-1 by omega])) rfl rfl<|Asg rfl<|aa<|?_
     repeat (refine aP ?_)
     exact aD<|⟨rfl,⟨j+1,om⟩,_,by show 768-(j+1)<768-j;omega,rfl,trv,⟨rfl,rfl,rfl,by rw[yg t m j (.inl ht1)];rfl,trivial⟩⟩
    ·refine Bnr (v:=.bool false) rfl rfl (fun w=>(bx _ _ _).trans (congrArg (fun b=>Result.ok (Value.bool b) w) (beq_eq_false_iff_ne.2 ht1))) ?_
     rcases Decidable.em ((SS (RN (MDs t m j) (dig t (767-j))) m 6).2=0)with ht2|ht2
     ·refine Mv rfl<|Mv rfl<|Bnr (v:=.bool true) rfl rfl (fun w=>(bx _ _ _).trans (congrArg (fun b=>Result.ok (Value.bool b) w) (beq_iff_eq.2 ht2)))<|Pk rfl rfl rfl<|aa<|aR rfl<|Xq<|Lw 9 rfl rfl cb (aB _ _ _)<|aw 5 hGF rfl rfl rfl sizeOf37 (by rw[List.length_map,aB _ _ _]) (by rw[List.length_map,List.length_set,fY _ (cJ t m j)]) (be _) rfl<|aa<|Xq<|Mv rfl<|cy (v:=I (((768-(j+1):Nat):Int)-1)) rfl rfl (fun _=>rfl) (fun _=>(aX _ _ _ oi).trans (by rw[show (((767-j:Nat):Int)-1)=((768-(j+1):Nat):Int)-1 by omega])) rfl rfl<|Asg rfl<|aa<|?_
      repeat (refine aP ?_)
      exact aD<|⟨rfl,⟨j+1,om⟩,_,by show 768-(j+1)<768-j;omega,rfl,trv,⟨rfl,rfl,rfl,by rw[yg t m j (.inr ht2)];rfl,trivial⟩⟩
     ·refine Mv rfl<|Mv rfl<|Bnr (v:=.bool false) rfl rfl (fun w=>(bx _ _ _).trans (congrArg (fun b=>Result.ok (Value.bool b) w) (beq_eq_false_iff_ne.2 ht2)))<|Pk rfl rfl rfl<|aa<|aC rfl<|aq<|Xq<|Mv rfl<|cy (v:=I (((768-(j+1):Nat):Int)-1)) rfl rfl (fun _=>rfl) (fun _=>(aX _ _ _ oi).trans (by rw[show (((767-j:Nat):Int)-1)=((768-(j+1):Nat):Int)-1 by omega])) rfl rfl<|Asg rfl<|aa<|?_
      repeat (refine aP ?_)
      exact aD<|⟨rfl,⟨j+1,om⟩,_,by show 768-(j+1)<768-j;omega,rfl,trv,⟨rfl,rfl,rfl,by rw[EI t m j ht1 ht2];rfl,trivial⟩⟩
  ·simp only[decide_eq_false_iff_not]at hc
   obtain rfl:j=768:=om
   refine aW<|Xp<|Lw 5 rfl rfl cb (cJ _ _ _)<|Sw 4 hGF rfl rfl rfl cb (cJ _ _ _)<|aa<|am<|Rr<|?_
   exact av 4 rfl rfl rfl isAgg37 sizeOf37 (by rw[List.length_map,cJ]) (fun w hw=>⟨by rw[MOD,if_neg hz],ac hw⟩)
end
section
open Go.RowKit
theorem qZ(a:Option Addr)(cap:Nat)(bs:L8)(w:World)(hw:Gt w)(hby:BytesAt w a bs):
 CLS 28 [.slice a bs.length cap].toArray w (fun e w'=>e=.returned (if 48<bs.length then .tuple #[aM (List.replicate 6 0#64),.bool false]else .tuple #[aM (FRs bs bs.length),.bool true])∧Grow w w'):=by
 refine Hf func28 rfl hw ?_
 intro hGF
 by_cases hA:48<bs.length
 ·refine Xp<|Al 2 hGF zv25<|fun b2=>Asg rfl<|aa<|Xp<|Al 4 hGF zv25<|fun b4=>aa<|ah<|Xp<|Mv rfl<|bi rfl (fun _=>aI underlying22 _ _ _ _) rfl rfl<|Bnr (v:=.bool true) rfl rfl (fun _=>(bc _ _ _).trans (by rw[decide_eq_true (by omega:((bs.length:Int)>48))]))<|aa<|aR rfl<|Xp<|Lw 4 rfl rfl ci List.length_replicate<|Sw 2 hGF rfl rfl rfl ci List.length_replicate<|Asg rfl<|aa<|am<|Rr<|?_
  exact a8 2 rfl rfl rfl rfl isAgg25 sizeOf25 (by rw[List.length_map,List.length_replicate]) (fun w hw=>⟨by rw[if_pos hA];rfl,ac hw⟩)
 ·refine Xp<|Al 2 hGF zv25<|fun b2=>Asg rfl<|aa<|Xp<|Al 4 hGF zv25<|fun b4=>aa<|ah<|Xp<|Mv rfl<|bi rfl (fun _=>aI underlying22 _ _ _ _) rfl rfl<|Bnr (v:=.bool false) rfl rfl (fun _=>(bc _ _ _).trans (by rw[decide_eq_false (by omega: ¬((bs.length:Int)>48))]))<|aa<|aC rfl<|aq<|ah<|Xp<|Mv rfl<|bi rfl (fun _=>aI underlying22 _ _ _ _) rfl rfl<|Mv rfl<|aa<|ai<|bL (ι:={i:Nat // i≤bs.length}) (fun x=>[(0,.slice a bs.length cap),(2,pnt b2),(4,pnt b4),(12,.slice a bs.length cap),(13,I (bs.length:Int)),(14,I (x.1:Int))]) (fun x=>[(2,b2,(List.replicate 6 0#64).map U64,25),(4,b4,(FRs bs x.1).map U64,25)]) (fun x=>bs.length-x.1) ⟨0,om⟩ hGF trv trv<|?_
  rintro ⟨i,hi⟩
  dsimp only
  refine Xp<|Bnr rfl rfl (fun _=>az _ _ _)<|aa<|ah<|?_
  refine bG rfl (fun hc=> ?_) (fun hc=> ?_)
  ·simp only[decide_eq_true_eq]at hc
   refine aq<|ah<|ai<|Xp<|Mv rfl<|?_
   obtain ⟨ad,rfl,_⟩:=hby i _ (gm U8 bs 0 i om)
   refine gY i rfl rfl underlying22 sizeOf5 rfl om rfl rfl<|bT rfl isAgg5 (fun w' h=>by obtain ⟨ad',e,hc⟩:=(hby.grow (ac h)) i _ (gm U8 bs 0 i om);cases e;exact hc) rfl rfl<|Asg rfl<|Asg rfl<|aa<|Xp<|Mv rfl<|bi rfl (fun _=>aI underlying22 _ _ _ _) rfl rfl<|Bnr (v:=I ((bs.length:Int)-1)) rfl rfl (fun _=>aX _ _ _ oi)<|Mv rfl<|Bnr (v:=I ((bs.length-1-i:Nat):Int)) rfl rfl (fun _=>(aX _ _ _ oi).trans (by rw[show ((bs.length:Int)-1-(i:Int))=((bs.length-1-i:Nat):Int) by omega]))<|Asg rfl<|aa<|Xe []<|Mv rfl<|Bnr (v:=I (((bs.length-1-i) / 8:Nat):Int)) rfl rfl (fun _=>fG _ _ _ dc (show inI (((bs.length-1-i) / 8:Nat):Int) by unfold inI;omega))<|Ia (((bs.length-1-i) / 8)) rfl rfl underlying25 sizeOf24<|Lm 4 U64 0 rfl rfl isAgg24 (by rw[aT];omega)<|Mv rfl<|ca rfl rfl (fun _=>lC underlying5 underlying24 _) rfl rfl<|Mv rfl<|Bnr (v:=I (((bs.length-1-i) % 8:Nat):Int)) rfl rfl (fun _=>cV _ _ _ dc)<|cy (v:=I ((8*((bs.length-1-i) % 8):Nat):Int)) rfl rfl (fun _=>rfl) (fun _=>(bB _ _ _ oi).trans (by rw[show (8:Int)*(((bs.length-1-i) % 8:Nat):Int)=((8*((bs.length-1-i) % 8):Nat):Int) by omega])) rfl rfl<|cy (v:=U64 ((bs.getD i 0).setWidth 64<<<(8*((bs.length-1-i) % 8)))) rfl rfl (fun _=>rfl) (fun _=>mf _ _ _ om) rfl rfl<|Bnr rfl rfl (fun _=>fg _ _ _)<|Ia (((bs.length-1-i) / 8)) rfl rfl underlying25 sizeOf24<|aV 4 U64 hGF rfl rfl rfl sizeOf24 rfl (by rw[aT];omega) rfl<|aa<|Xq<|Bnr rfl rfl (fun _=>au _ _ _ oi)<|Mv rfl<|aa<|?_
   repeat (refine aP ?_)
   exact aD<|⟨rfl,⟨i+1,om⟩,_,by show bs.length-(i+1)<bs.length-i;omega,rfl,trv,trv⟩
  ·obtain rfl:i=bs.length:=by simp at hc;omega
   refine aW<|Xp<|Lw 4 rfl rfl ci (aT _ _)<|Sw 2 hGF rfl rfl rfl ci (aT _ _)<|Asg rfl<|aa<|am<|Rr<|?_
   exact a8 2 rfl rfl rfl rfl isAgg25 sizeOf25 (by rw[List.length_map,aT]) (fun w hw=>⟨by rw[if_neg hA];rfl,ac hw⟩)
theorem oF(a:Option Addr)(cap:Nat)(bs:L8)(w:World)(hw:Gt w)(hby:BytesAt w a bs):
 CLS 44 [.slice a bs.length cap].toArray w (fun e w'=>e=.returned (if 48<bs.length then .tuple #[aM (List.replicate 6 0#64),.bool false]else .tuple #[aM (FRs bs bs.length),.bool true])∧Grow w w'):=by
 refine Hf func44 rfl hw ?_
 intro hGF
 by_cases hA:48<bs.length
 ·refine Xp<|Al 2 hGF zv37<|fun b2=>Asg rfl<|aa<|ah<|Xp<|Mv rfl<|bi rfl (fun _=>aI underlying22 _ _ _ _) rfl rfl<|Bnr (v:=.bool true) rfl rfl (fun _=>(bc _ _ _).trans (by rw[decide_eq_true (by omega:((bs.length:Int)>48))]))<|aa<|aR rfl<|Xp<|el zv37 underlying37 sizeOf24 rfl rfl<|Sw 2 hGF rfl rfl rfl cb List.length_replicate<|Asg rfl<|aa<|am<|Rr<|?_
  exact a8 2 rfl rfl rfl rfl isAgg37 sizeOf37 (by rw[List.length_map,List.length_replicate]) (fun w hw=>⟨by rw[if_pos hA];rfl,ac hw⟩)
 ·refine Xp<|Al 2 hGF zv37<|fun b2=>Asg rfl<|aa<|ah<|Xp<|Mv rfl<|bi rfl (fun _=>aI underlying22 _ _ _ _) rfl rfl<|Bnr (v:=.bool false) rfl rfl (fun _=>(bc _ _ _).trans (by rw[decide_eq_false (by omega: ¬((bs.length:Int)>48))]))<|aa<|aC rfl<|aq<|Xp<|Al 4 hGF zv37<|fun b4=>aa<|ah<|Xp<|Asg rfl<|aa<|ai<|bL (ι:={i:Nat // i≤bs.length}) (fun x=>[(0,.slice a bs.length cap),(2,pnt b2),(4,pnt b4),(5,I (x.1:Int))]) (fun x=>[(2,b2,(List.replicate 6 0#64).map U64,37),(4,b4,(FRs bs x.1).map U64,37)]) (fun x=>bs.length-x.1) ⟨0,om⟩ hGF trv trv<|?_
  rintro ⟨i,hi⟩
  dsimp only
  refine ah<|Xp<|Mv rfl<|Mv rfl<|bi rfl (fun _=>aI underlying22 _ _ _ _) rfl rfl<|Bnr rfl rfl (fun _=>az _ _ _)<|aa<|?_
  refine bG rfl (fun hc=> ?_) (fun hc=> ?_)
  ·simp only[decide_eq_true_eq]at hc
   refine aq<|ah<|ai<|Xp<|Mv rfl<|bi rfl (fun _=>aI underlying22 _ _ _ _) rfl rfl<|Bnr (v:=I ((bs.length:Int)-1)) rfl rfl (fun _=>aX _ _ _ oi)<|Mv rfl<|Bnr (v:=I ((bs.length-1-i:Nat):Int)) rfl rfl (fun _=>(aX _ _ _ oi).trans (by rw[show ((bs.length:Int)-1-(i:Int))=((bs.length-1-i:Nat):Int) by omega]))<|Asg rfl<|aa<|Xe []<|Mv rfl<|Bnr (v:=I (((bs.length-1-i) / 8:Nat):Int)) rfl rfl (fun _=>fG _ _ _ dc (show inI (((bs.length-1-i) / 8:Nat):Int) by unfold inI;omega))<|Ia (((bs.length-1-i) / 8)) rfl rfl underlying37 sizeOf24<|Lm 4 U64 0 rfl rfl isAgg24 (by rw[aT];omega)<|Mv rfl<|Mv rfl<|?_
   obtain ⟨ad,rfl,_⟩:=hby i _ (gm U8 bs 0 i om)
   refine gY i rfl rfl underlying22 sizeOf5 rfl om rfl rfl<|bT rfl isAgg5 (fun w' h=>by obtain ⟨ad',e,hc⟩:=(hby.grow (ac h)) i _ (gm U8 bs 0 i om);cases e;exact hc) rfl rfl<|ca rfl rfl (fun _=>lC underlying5 underlying24 _) rfl rfl<|Mv rfl<|Bnr (v:=I (((bs.length-1-i) % 8:Nat):Int)) rfl rfl (fun _=>cV _ _ _ dc)<|cy (v:=I ((8*((bs.length-1-i) % 8):Nat):Int)) rfl rfl (fun _=>rfl) (fun _=>(bB _ _ _ oi).trans (by rw[show (8:Int)*(((bs.length-1-i) % 8:Nat):Int)=((8*((bs.length-1-i) % 8):Nat):Int) by omega])) rfl rfl<|cy (v:=U64 ((bs.getD i 0).setWidth 64<<<(8*((bs.length-1-i) % 8)))) rfl rfl (fun _=>rfl) (fun _=>mf _ _ _ om) rfl rfl<|Bnr rfl rfl (fun _=>fg _ _ _)<|Ia (((bs.length-1-i) / 8)) rfl rfl underlying37 sizeOf24<|aV 4 U64 hGF rfl rfl rfl sizeOf24 rfl (by rw[aT];omega) rfl<|aa<|Xq<|Mv rfl<|Bnr rfl rfl (fun _=>au _ _ _ oi)<|Asg rfl<|aa<|?_
   repeat (refine aP ?_)
   exact aD<|⟨rfl,⟨i+1,om⟩,_,by show bs.length-(i+1)<bs.length-i;omega,rfl,trv,trv⟩
  ·obtain rfl:i=bs.length:=by simp at hc;omega
   refine aW<|Xp<|Lw 4 rfl rfl cb (aT _ _)<|Sw 2 hGF rfl rfl rfl cb (aT _ _)<|Asg rfl<|aa<|am<|Rr<|?_
   exact a8 2 rfl rfl rfl rfl isAgg37 sizeOf37 (by rw[List.length_map,aT]) (fun w hw=>⟨by rw[if_neg hA];rfl,ac hw⟩)
theorem kj(a:L6)(ha:a.length=6):PUR 91 [aM (a)] (.agg ((BYs a 48).map U8).toArray):=by
 intro w hw
 refine Hf func91 rfl hw<|fun hGF=>Xp<|Bx 1 hGF rfl<|fun b1=>Al 2 hGF zv29<|fun b2=>aa<|Xp<|Al 3 hGF zv29<|fun b3=>aa<|ah<|Xp<|Mv rfl<|aa<|ai<|bL (ι:={i:Nat // i≤48}) (fun x=>[(1,pnt b1),(2,pnt b2),(3,pnt b3),(6,I (x.1:Int))]) (fun x=>[(1,b1,a.map U64,25),(2,b2,(List.replicate 48 0#8).map U8,29),(3,b3,(BYs a x.1).map U8,29)]) (fun x=>48-x.1) ⟨0,om⟩ hGF trv trv<|?_
 rintro ⟨i,hi⟩
 dsimp only
 refine Xp<|Bnr rfl rfl (fun _=>az _ _ _)<|aa<|ah<|?_
 refine bG rfl (fun hc=> ?_) (fun hc=> ?_)
 ·simp only[decide_eq_true_eq]at hc
  refine aq<|ah<|ai<|Xp<|Mv rfl<|Asg rfl<|aa<|Xp<|Mv rfl<|Bnr (v:=I ((47-i:Nat):Int)) rfl rfl (fun _=>(aX _ _ _ oi).trans (by rw[show ((47:Int)-(i:Int))=((47-i:Nat):Int) by omega]))<|Asg rfl<|aa<|Xq<|Mv rfl<|Mv rfl<|Bnr (v:=I (((47-i) / 8:Nat):Int)) rfl rfl (fun _=>fG _ _ _ dc (show inI (((47-i) / 8:Nat):Int) by unfold inI;omega))<|Ia (((47-i) / 8)) rfl rfl underlying25 sizeOf24<|Lm 1 U64 0 rfl rfl isAgg24 (by rw[ha];omega)<|Mv rfl<|Bnr (v:=I (((47-i) % 8:Nat):Int)) rfl rfl (fun _=>cV _ _ _ dc)<|cy (v:=I ((8*((47-i) % 8):Nat):Int)) rfl rfl (fun _=>rfl) (fun _=>(bB _ _ _ oi).trans (by rw[show (8:Int)*(((47-i) % 8:Nat):Int)=((8*((47-i) % 8):Nat):Int) by omega])) rfl rfl<|cy (v:=U64 (a.getD ((47-i) / 8) 0>>>(8*((47-i) % 8)))) rfl rfl (fun _=>rfl) (fun _=>cZ _ _ _ om) rfl rfl<|ca rfl rfl (fun _=>eV underlying24 underlying5 _) rfl rfl<|Ia (i) rfl rfl underlying29 sizeOf5<|aV 3 U8 hGF rfl rfl rfl sizeOf5 rfl (by rw[aK];omega) rfl<|aa<|Xq<|Bnr rfl rfl (fun _=>au _ _ _ oi)<|Mv rfl<|aa<|?_
  repeat (refine aP ?_)
  exact aD<|⟨rfl,⟨i+1,om⟩,_,by show 48-(i+1)<48-i;omega,rfl,trv,trv⟩
 ·obtain rfl:i=48:=by simp at hc;omega
  refine aW<|Xp<|Lw 3 rfl rfl sD (aK _ _)<|Sx 2 hGF rfl rfl rfl sD (aK _ _) (bH _)<|aa<|am<|Rr<|?_
  exact av 2 rfl rfl rfl isAgg29 sizeOf29 (by rw[List.length_map,aK]) (fun w hw=>⟨rfl,ac hw⟩)
theorem fS(a:L6)(ha:a.length=6):PUR 42 [aM (a)] (.agg ((BYs a 48).map U8).toArray):=by
 intro w hw
 refine Hf func42 rfl hw<|fun hGF=>Xp<|Bx 1 hGF rfl<|fun b1=>Al 2 hGF zv29<|fun b2=>aa<|Xp<|Al 3 hGF zv29<|fun b3=>aa<|ah<|Xp<|Asg rfl<|aa<|ai<|bL (ι:={i:Nat // i≤48}) (fun x=>[(1,pnt b1),(2,pnt b2),(3,pnt b3),(4,I (x.1:Int))]) (fun x=>[(1,b1,a.map U64,37),(2,b2,(List.replicate 48 0#8).map U8,29),(3,b3,(BYs a x.1).map U8,29)]) (fun x=>48-x.1) ⟨0,om⟩ hGF trv trv<|?_
 rintro ⟨i,hi⟩
 dsimp only
 refine ah<|Xp<|Mv rfl<|Bnr rfl rfl (fun _=>az _ _ _)<|aa<|?_
 refine bG rfl (fun hc=> ?_) (fun hc=> ?_)
 ·simp only[decide_eq_true_eq]at hc
  refine aq<|ah<|ai<|Xp<|Mv rfl<|Bnr (v:=I ((47-i:Nat):Int)) rfl rfl (fun _=>(aX _ _ _ oi).trans (by rw[show ((47:Int)-(i:Int))=((47-i:Nat):Int) by omega]))<|Asg rfl<|aa<|Xq<|Mv rfl<|Mv rfl<|Bnr (v:=I (((47-i) / 8:Nat):Int)) rfl rfl (fun _=>fG _ _ _ dc (show inI (((47-i) / 8:Nat):Int) by unfold inI;omega))<|Ia (((47-i) / 8)) rfl rfl underlying37 sizeOf24<|Lm 1 U64 0 rfl rfl isAgg24 (by rw[ha];omega)<|Mv rfl<|Bnr (v:=I (((47-i) % 8:Nat):Int)) rfl rfl (fun _=>cV _ _ _ dc)<|cy (v:=I ((8*((47-i) % 8):Nat):Int)) rfl rfl (fun _=>rfl) (fun _=>(bB _ _ _ oi).trans (by rw[show (8:Int)*(((47-i) % 8:Nat):Int)=((8*((47-i) % 8):Nat):Int) by omega])) rfl rfl<|cy (v:=U64 (a.getD ((47-i) / 8) 0>>>(8*((47-i) % 8)))) rfl rfl (fun _=>rfl) (fun _=>cZ _ _ _ om) rfl rfl<|ca rfl rfl (fun _=>eV underlying24 underlying5 _) rfl rfl<|Ia (i) rfl rfl underlying29 sizeOf5<|aV 3 U8 hGF rfl rfl rfl sizeOf5 rfl (by rw[aK];omega) rfl<|aa<|Xq<|Mv rfl<|Bnr rfl rfl (fun _=>au _ _ _ oi)<|Asg rfl<|aa<|?_
  repeat (refine aP ?_)
  exact aD<|⟨rfl,⟨i+1,om⟩,_,by show 48-(i+1)<48-i;omega,rfl,trv,trv⟩
 ·obtain rfl:i=48:=by simp at hc;omega
  refine aW<|Xp<|Lw 3 rfl rfl sD (aK _ _)<|Sx 2 hGF rfl rfl rfl sD (aK _ _) (bH _)<|aa<|am<|Rr<|?_
  exact av 2 rfl rfl rfl isAgg29 sizeOf29 (by rw[List.length_map,aK]) (fun w hw=>⟨rfl,ac hw⟩)
def BT(a:L6):List (List Value):=(gH a 384).map fun n:Nat=>[I (n:Int)]
theorem VP(a:L6):(BT a).length=(gH a 384).length:=by simp[BT]
theorem Yk(a:L6)(k:Nat)(hk:k<384)(h:dig a (383-k)=1):(BT a)[(gH a k).length]? =some [I ((383-k:Nat):Int)]:=by
 rw[BT,List.getElem?_map,KP a k hk h]
 rfl
theorem xu(a:L6)(k:Nat)(h:dig a (383-k)=1):(gH a (k+1)).length=(gH a k).length+1:=by rw[gH,if_pos h];simp
theorem Ns(a:L6)(k:Nat)(h: ¬dig a (383-k)=1):(gH a (k+1)).length=(gH a k).length:=by rw[gH,if_neg h]
end
section
open Go.RowKit
theorem dV(x y c s:BitVec 64)(hc:c.toNat≤1)(h:(ADC x y c).1=s)(w:World):(callFunc 67 [U64 x,U64 y,U64 c].toArray).run prog w=.ok (.value (.tuple #[U64 s,U64 (ADC x y c).2])) w:=by
 subst h;exact db x y c hc w
theorem eY:PL.length=6:=rfl
theorem gE  :PUR 55 [] (aM (PL)):=by
 intro w hw
 refine Hf func55 rfl hw<|fun hGF=>Xp<|Al 0 hGF zv37<|fun b0=>aa<|Xp<|bV (n:=6) (vs:=(PL).map U64) rfl rfl underlying37 sizeOf24 zeroValue37 rfl rfl rfl rfl<|Sw 0 hGF rfl rfl rfl cb eY<|aa<|am<|Rr<|?_
 exact av 0 rfl rfl rfl isAgg37 sizeOf37 rfl (fun w hw=>⟨rfl,ac hw⟩)
theorem DF  :PUR 211 [] (aM (ONE)):=by
 intro w hw
 refine Hf func211 rfl hw<|fun hGF=>Xp<|Al 0 hGF zv37<|fun b0=>aa<|Xp<|bV (n:=6) (vs:=(ONE).map U64) rfl rfl underlying37 sizeOf24 zeroValue37 rfl rfl rfl rfl<|Sw 0 hGF rfl rfl rfl cb vi<|aa<|am<|Rr<|?_
 exact av 0 rfl rfl rfl isAgg37 sizeOf37 rfl (fun w hw=>⟨rfl,ac hw⟩)
theorem ED  :PUR 184 [] (aM (TWO)):=by
 intro w hw
 refine Hf func184 rfl hw<|fun hGF=>Xp<|Al 0 hGF zv37<|fun b0=>aa<|Xp<|bV (n:=6) (vs:=(TWO).map U64) rfl rfl underlying37 sizeOf24 zeroValue37 rfl rfl rfl rfl<|Sw 0 hGF rfl rfl rfl cb ux<|aa<|am<|Rr<|?_
 exact av 0 rfl rfl rfl isAgg37 sizeOf37 rfl (fun w hw=>⟨rfl,ac hw⟩)
theorem mN(a b:L6)(ha:a.length=6)(hb:b.length=6):PUR 97 [aM (a),aM (b)] (aM (RM a b)):=by
 intro w hw
 refine Hf func97 rfl hw ?_
 intro hGF
 by_cases h0:(SS (RT a b 6) PL 6).2=0
 ·refine Xp<|Bx 2 hGF rfl<|fun b2=>Bx 3 hGF rfl<|fun b3=>Al 4 hGF zv37<|fun b4=>aa<|Xp<|Asg rfl<|Asg rfl<|Asg rfl<|Asg rfl<|Asg rfl<|Asg rfl<|aa<|ah<|Xp<|Asg rfl<|aa<|ai<|bL (ι:={i:Nat // i≤6}) (fun x=>[(2,pnt b2),(3,pnt b3),(4,pnt b4),(5,U64 ((RT a b x.1).getD 0 0)),(6,U64 ((RT a b x.1).getD 1 0)),(7,U64 ((RT a b x.1).getD 2 0)),(8,U64 ((RT a b x.1).getD 3 0)),(9,U64 ((RT a b x.1).getD 4 0)),(10,U64 ((RT a b x.1).getD 5 0)),(11,I (x.1:Int))]) (fun x=>[(2,b2,a.map U64,37),(3,b3,b.map U64,37),(4,b4,(List.replicate 6 0#64).map U64,37)]) (fun x=>6-x.1) ⟨0,om⟩ hGF trv trv<|?_
  rintro ⟨i,hi⟩
  dsimp only
  refine ah<|Xp<|Mv rfl<|Bnr rfl rfl (fun _=>az _ _ _)<|aa<|?_
  refine bG rfl (fun hc=> ?_) (fun hc=> ?_)
  ·simp only[decide_eq_true_eq]at hc
   refine aq<|ah<|ai<|Xp<|Asg rfl<|Asg rfl<|Asg rfl<|Asg rfl<|aa<|Xp<|Mv rfl<|Ia (i) rfl rfl underlying37 sizeOf24<|Lm 3 U64 0 rfl rfl isAgg24 (by rw[hb];omega)<|Asg rfl<|aa<|Xp<|Ia (0) rfl rfl underlying37 sizeOf24<|Lm 2 U64 0 rfl rfl isAgg24 (by rw[ha];omega)<|Mv rfl<|Ca rfl (bM _ _)<|Mv rfl<|Ext rfl rfl<|Ext rfl rfl<|Asg rfl<|Asg rfl<|aa<|Xp<|Mv rfl<|Mv rfl<|ba rfl rfl (fun w=>dV _ _ 0 _ dc (k1z (b.getD i 0) a (RT a b i)) w) rfl rfl<|Mv rfl<|Ext rfl rfl<|Ext rfl rfl<|Asg rfl<|Asg rfl<|aa<|Xp<|Mv rfl<|Mv rfl<|Bnr (v:=U64 (KC (b.getD i 0) a (RT a b i) 1)) rfl rfl (fun w=>(aF _ _ _).trans (congrArg (fun z=>Result.ok (U64 z) w) (k2z (b.getD i 0) a (RT a b i))))<|?_
   refine Asg rfl<|aa<|Xp<|Ia (1) rfl rfl underlying37 sizeOf24<|Lm 2 U64 0 rfl rfl isAgg24 (by rw[ha];omega)<|Mv rfl<|Ca rfl (bM _ _)<|Mv rfl<|Ext rfl rfl<|Ext rfl rfl<|Asg rfl<|Asg rfl<|aa<|Xp<|Mv rfl<|Mv rfl<|ba rfl rfl (fun w=>db _ _ 0 dc w) rfl rfl<|Mv rfl<|Ext rfl rfl<|Ext rfl rfl<|Asg rfl<|Asg rfl<|aa<|Xp<|Mv rfl<|Mv rfl<|Bnr rfl rfl (fun _=>aF _ _ _)<|Asg rfl<|aa<|Xp<|Mv rfl<|Mv rfl<|ba rfl rfl (fun w=>dV _ _ 0 _ dc (k1s (b.getD i 0) a (RT a b i) 1) w) rfl rfl<|Mv rfl<|Ext rfl rfl<|Ext rfl rfl<|Asg rfl<|Asg rfl<|aa<|Xp<|?_
   refine Mv rfl<|Mv rfl<|Bnr (v:=U64 (KC (b.getD i 0) a (RT a b i) 2)) rfl rfl (fun w=>(aF _ _ _).trans (congrArg (fun z=>Result.ok (U64 z) w) (k2s (b.getD i 0) a (RT a b i) 1)))<|Asg rfl<|aa<|Xp<|Ia (2) rfl rfl underlying37 sizeOf24<|Lm 2 U64 0 rfl rfl isAgg24 (by rw[ha];omega)<|Mv rfl<|Ca rfl (bM _ _)<|Mv rfl<|Ext rfl rfl<|Ext rfl rfl<|Asg rfl<|Asg rfl<|aa<|Xp<|Mv rfl<|Mv rfl<|ba rfl rfl (fun w=>db _ _ 0 dc w) rfl rfl<|Mv rfl<|Ext rfl rfl<|Ext rfl rfl<|Asg rfl<|Asg rfl<|aa<|Xp<|Mv rfl<|Mv rfl<|Bnr rfl rfl (fun _=>aF _ _ _)<|Asg rfl<|aa<|Xp<|Mv rfl<|Mv rfl<|ba rfl rfl (fun w=>dV _ _ 0 _ dc (k1s (b.getD i 0) a (RT a b i) 2) w) rfl rfl<|Mv rfl<|Ext rfl rfl<|Ext rfl rfl<|Asg rfl<|?_
   refine Asg rfl<|aa<|Xp<|Mv rfl<|Mv rfl<|Bnr (v:=U64 (KC (b.getD i 0) a (RT a b i) 3)) rfl rfl (fun w=>(aF _ _ _).trans (congrArg (fun z=>Result.ok (U64 z) w) (k2s (b.getD i 0) a (RT a b i) 2)))<|Asg rfl<|aa<|Xp<|Ia (3) rfl rfl underlying37 sizeOf24<|Lm 2 U64 0 rfl rfl isAgg24 (by rw[ha];omega)<|Mv rfl<|Ca rfl (bM _ _)<|Mv rfl<|Ext rfl rfl<|Ext rfl rfl<|Asg rfl<|Asg rfl<|aa<|Xp<|Mv rfl<|Mv rfl<|ba rfl rfl (fun w=>db _ _ 0 dc w) rfl rfl<|Mv rfl<|Ext rfl rfl<|Ext rfl rfl<|Asg rfl<|Asg rfl<|aa<|Xp<|Mv rfl<|Mv rfl<|Bnr rfl rfl (fun _=>aF _ _ _)<|Asg rfl<|aa<|Xp<|Mv rfl<|Mv rfl<|ba rfl rfl (fun w=>dV _ _ 0 _ dc (k1s (b.getD i 0) a (RT a b i) 3) w) rfl rfl<|Mv rfl<|?_
   refine Ext rfl rfl<|Ext rfl rfl<|Asg rfl<|Asg rfl<|aa<|Xp<|Mv rfl<|Mv rfl<|Bnr (v:=U64 (KC (b.getD i 0) a (RT a b i) 4)) rfl rfl (fun w=>(aF _ _ _).trans (congrArg (fun z=>Result.ok (U64 z) w) (k2s (b.getD i 0) a (RT a b i) 3)))<|Asg rfl<|aa<|Xp<|Ia (4) rfl rfl underlying37 sizeOf24<|Lm 2 U64 0 rfl rfl isAgg24 (by rw[ha];omega)<|Mv rfl<|Ca rfl (bM _ _)<|Mv rfl<|Ext rfl rfl<|Ext rfl rfl<|Asg rfl<|Asg rfl<|aa<|Xp<|Mv rfl<|Mv rfl<|ba rfl rfl (fun w=>db _ _ 0 dc w) rfl rfl<|Mv rfl<|Ext rfl rfl<|Ext rfl rfl<|Asg rfl<|Asg rfl<|aa<|Xp<|Mv rfl<|Mv rfl<|Bnr rfl rfl (fun _=>aF _ _ _)<|Asg rfl<|aa<|Xp<|Mv rfl<|?_
   refine Mv rfl<|ba rfl rfl (fun w=>dV _ _ 0 _ dc (k1s (b.getD i 0) a (RT a b i) 4) w) rfl rfl<|Mv rfl<|Ext rfl rfl<|Ext rfl rfl<|Asg rfl<|Asg rfl<|aa<|Xp<|Mv rfl<|Mv rfl<|Bnr (v:=U64 (KC (b.getD i 0) a (RT a b i) 5)) rfl rfl (fun w=>(aF _ _ _).trans (congrArg (fun z=>Result.ok (U64 z) w) (k2s (b.getD i 0) a (RT a b i) 4)))<|Asg rfl<|aa<|Xp<|Ia (5) rfl rfl underlying37 sizeOf24<|Lm 2 U64 0 rfl rfl isAgg24 (by rw[ha];omega)<|Mv rfl<|Ca rfl (bM _ _)<|Mv rfl<|Ext rfl rfl<|Ext rfl rfl<|Asg rfl<|Asg rfl<|aa<|Xp<|Mv rfl<|Mv rfl<|ba rfl rfl (fun w=>db _ _ 0 dc w) rfl rfl<|Mv rfl<|Ext rfl rfl<|Ext rfl rfl<|Asg rfl<|Asg rfl<|aa<|Xp<|Mv rfl<|Mv rfl<|Bnr rfl rfl (fun _=>aF _ _ _)<|Asg rfl<|?_
   refine aa<|Xp<|Mv rfl<|Mv rfl<|ba rfl rfl (fun w=>dV _ _ 0 _ dc (k1s (b.getD i 0) a (RT a b i) 5) w) rfl rfl<|Mv rfl<|Ext rfl rfl<|Ext rfl rfl<|Asg rfl<|Asg rfl<|aa<|Xp<|Mv rfl<|Mv rfl<|Bnr (v:=U64 (KC (b.getD i 0) a (RT a b i) 6)) rfl rfl (fun w=>(aF _ _ _).trans (congrArg (fun z=>Result.ok (U64 z) w) (k2s (b.getD i 0) a (RT a b i) 5)))<|Asg rfl<|aa<|Xp<|Mv rfl<|Asg rfl<|aa<|Xp<|Mv rfl<|Bnr (v:=U64 (KT (b.getD i 0) a (RT a b i) 0*INV)) rfl rfl (fun w=>cr _ _ INV)<|Asg rfl<|aa<|Xp<|Mv rfl<|Ca rfl (bM _ (PL.getD 0 0))<|Mv rfl<|Ext rfl rfl<|Ext rfl rfl<|Asg rfl<|Asg rfl<|aa<|Xp<|Mv rfl<|Mv rfl<|ba rfl rfl (fun w=>db _ _ 0 dc w) rfl rfl<|Mv rfl<|?_
   refine Ext rfl rfl<|Ext rfl rfl<|Asg rfl<|aa<|Xp<|Mv rfl<|Mv rfl<|Bnr (v:=U64 (KD (KT (b.getD i 0) a (RT a b i) 0*INV) PL (T1 (b.getD i 0) a (RT a b i)) 0)) rfl rfl (fun w=>(aF _ _ _).trans (congrArg (fun z=>Result.ok (U64 z) w) (d2z (b.getD i 0) (KT (b.getD i 0) a (RT a b i) 0*INV) a (RT a b i))))<|Asg rfl<|aa<|Xp<|Mv rfl<|Ca rfl (bM _ (PL.getD 1 0))<|Mv rfl<|Ext rfl rfl<|Ext rfl rfl<|Asg rfl<|Asg rfl<|aa<|Xp<|Mv rfl<|Mv rfl<|ba rfl rfl (fun w=>db _ _ 0 dc w) rfl rfl<|Mv rfl<|Ext rfl rfl<|Ext rfl rfl<|Asg rfl<|Asg rfl<|aa<|Xp<|Mv rfl<|Mv rfl<|Bnr rfl rfl (fun _=>aF _ _ _)<|Asg rfl<|aa<|Xp<|Mv rfl<|Mv rfl<|ba rfl rfl (fun w=>dV _ _ 0 _ dc (d1s (b.getD i 0) (KT (b.getD i 0) a (RT a b i) 0*INV) a (RT a b i) 0 dc) w) rfl rfl<|Mv rfl<|?_
   refine Ext rfl rfl<|Ext rfl rfl<|Asg rfl<|Asg rfl<|aa<|Xp<|Mv rfl<|Mv rfl<|Bnr (v:=U64 (KD (KT (b.getD i 0) a (RT a b i) 0*INV) PL (T1 (b.getD i 0) a (RT a b i)) 1)) rfl rfl (fun w=>(aF _ _ _).trans (congrArg (fun z=>Result.ok (U64 z) w) (d2s (b.getD i 0) (KT (b.getD i 0) a (RT a b i) 0*INV) a (RT a b i) 0 dc)))<|Asg rfl<|aa<|Xp<|Mv rfl<|Ca rfl (bM _ (PL.getD 2 0))<|Mv rfl<|Ext rfl rfl<|Ext rfl rfl<|Asg rfl<|Asg rfl<|aa<|Xp<|Mv rfl<|Mv rfl<|ba rfl rfl (fun w=>db _ _ 0 dc w) rfl rfl<|Mv rfl<|Ext rfl rfl<|Ext rfl rfl<|Asg rfl<|Asg rfl<|aa<|Xp<|Mv rfl<|Mv rfl<|Bnr rfl rfl (fun _=>aF _ _ _)<|Asg rfl<|aa<|Xp<|Mv rfl<|Mv rfl<|ba rfl rfl (fun w=>dV _ _ 0 _ dc (d1s (b.getD i 0) (KT (b.getD i 0) a (RT a b i) 0*INV) a (RT a b i) 1 dc) w) rfl rfl<|?_
   refine Mv rfl<|Ext rfl rfl<|Ext rfl rfl<|Asg rfl<|Asg rfl<|aa<|Xp<|Mv rfl<|Mv rfl<|Bnr (v:=U64 (KD (KT (b.getD i 0) a (RT a b i) 0*INV) PL (T1 (b.getD i 0) a (RT a b i)) 2)) rfl rfl (fun w=>(aF _ _ _).trans (congrArg (fun z=>Result.ok (U64 z) w) (d2s (b.getD i 0) (KT (b.getD i 0) a (RT a b i) 0*INV) a (RT a b i) 1 dc)))<|Asg rfl<|aa<|Xp<|Mv rfl<|Ca rfl (bM _ (PL.getD 3 0))<|Mv rfl<|Ext rfl rfl<|Ext rfl rfl<|Asg rfl<|Asg rfl<|aa<|Xp<|Mv rfl<|Mv rfl<|ba rfl rfl (fun w=>db _ _ 0 dc w) rfl rfl<|Mv rfl<|Ext rfl rfl<|Ext rfl rfl<|Asg rfl<|Asg rfl<|aa<|Xp<|Mv rfl<|Mv rfl<|Bnr rfl rfl (fun _=>aF _ _ _)<|Asg rfl<|aa<|Xp<|Mv rfl<|Mv rfl<|?_
   refine ba rfl rfl (fun w=>dV _ _ 0 _ dc (d1s (b.getD i 0) (KT (b.getD i 0) a (RT a b i) 0*INV) a (RT a b i) 2 dc) w) rfl rfl<|Mv rfl<|Ext rfl rfl<|Ext rfl rfl<|Asg rfl<|Asg rfl<|aa<|Xp<|Mv rfl<|Mv rfl<|Bnr (v:=U64 (KD (KT (b.getD i 0) a (RT a b i) 0*INV) PL (T1 (b.getD i 0) a (RT a b i)) 3)) rfl rfl (fun w=>(aF _ _ _).trans (congrArg (fun z=>Result.ok (U64 z) w) (d2s (b.getD i 0) (KT (b.getD i 0) a (RT a b i) 0*INV) a (RT a b i) 2 dc)))<|Asg rfl<|aa<|Xp<|Mv rfl<|Ca rfl (bM _ (PL.getD 4 0))<|Mv rfl<|Ext rfl rfl<|Ext rfl rfl<|Asg rfl<|Asg rfl<|aa<|Xp<|Mv rfl<|Mv rfl<|ba rfl rfl (fun w=>db _ _ 0 dc w) rfl rfl<|Mv rfl<|Ext rfl rfl<|Ext rfl rfl<|Asg rfl<|Asg rfl<|aa<|Xp<|Mv rfl<|Mv rfl<|Bnr rfl rfl (fun _=>aF _ _ _)<|Asg rfl<|aa<|Xp<|Mv rfl<|?_
   refine Mv rfl<|ba rfl rfl (fun w=>dV _ _ 0 _ dc (d1s (b.getD i 0) (KT (b.getD i 0) a (RT a b i) 0*INV) a (RT a b i) 3 dc) w) rfl rfl<|Mv rfl<|Ext rfl rfl<|Ext rfl rfl<|Asg rfl<|Asg rfl<|aa<|Xp<|Mv rfl<|Mv rfl<|Bnr (v:=U64 (KD (KT (b.getD i 0) a (RT a b i) 0*INV) PL (T1 (b.getD i 0) a (RT a b i)) 4)) rfl rfl (fun w=>(aF _ _ _).trans (congrArg (fun z=>Result.ok (U64 z) w) (d2s (b.getD i 0) (KT (b.getD i 0) a (RT a b i) 0*INV) a (RT a b i) 3 dc)))<|Asg rfl<|aa<|Xp<|Mv rfl<|Ca rfl (bM _ (PL.getD 5 0))<|Mv rfl<|Ext rfl rfl<|Ext rfl rfl<|Asg rfl<|Asg rfl<|aa<|Xp<|Mv rfl<|Mv rfl<|ba rfl rfl (fun w=>db _ _ 0 dc w) rfl rfl<|Mv rfl<|Ext rfl rfl<|Ext rfl rfl<|Asg rfl<|Asg rfl<|aa<|Xp<|Mv rfl<|Mv rfl<|Bnr rfl rfl (fun _=>aF _ _ _)<|Asg rfl<|aa<|Xp<|?_
   refine Mv rfl<|Mv rfl<|ba rfl rfl (fun w=>dV _ _ 0 _ dc (d1s (b.getD i 0) (KT (b.getD i 0) a (RT a b i) 0*INV) a (RT a b i) 4 dc) w) rfl rfl<|Mv rfl<|Ext rfl rfl<|Ext rfl rfl<|Asg rfl<|Asg rfl<|aa<|Xp<|Mv rfl<|Mv rfl<|Bnr (v:=U64 (KD (KT (b.getD i 0) a (RT a b i) 0*INV) PL (T1 (b.getD i 0) a (RT a b i)) 5)) rfl rfl (fun w=>(aF _ _ _).trans (congrArg (fun z=>Result.ok (U64 z) w) (d2s (b.getD i 0) (KT (b.getD i 0) a (RT a b i) 0*INV) a (RT a b i) 4 dc)))<|Asg rfl<|aa<|Xq<|Mv rfl<|Mv rfl<|Bnr rfl rfl (fun _=>aF _ _ _)<|Asg rfl<|aa<|Xq<|Mv rfl<|Bnr rfl rfl (fun _=>au _ _ _ oi)<|Asg rfl<|aa<|?_
   repeat (refine aP ?_)
   exact aD<|⟨rfl,⟨i+1,om⟩,_,by show 6-(i+1)<6-i;omega,rfl,⟨rfl,rfl,rfl,congrArg (fun z=>some (U64 z)) (sG a b i 0 dc).symm,congrArg (fun z=>some (U64 z)) (sG a b i 1 dc).symm,congrArg (fun z=>some (U64 z)) (sG a b i 2 dc).symm,congrArg (fun z=>some (U64 z)) (sG a b i 3 dc).symm,congrArg (fun z=>some (U64 z)) (sG a b i 4 dc).symm,congrArg (fun z=>some (U64 z)) (Kl a b i).symm,rfl,trivial⟩,trv⟩
  ·obtain rfl:i=6:=by simp at hc;omega
   refine aW<|Xp<|Mv rfl<|Mv rfl<|Mv rfl<|Mv rfl<|Mv rfl<|Mv rfl<|bV (n:=6) (vs:=(RT a b 6).map U64) (congrArg some (Co (RT a b 6) (gb _ _ _))) rfl underlying37 sizeOf24 zeroValue37 (by rw[List.length_map,gb];rfl) (be _) rfl rfl<|Al 19 hGF zv37<|fun b19=>Sw 19 hGF rfl rfl rfl cb (gb _ _ _)<|aa<|ah<|Xa [0,1,2,3,4,5] ⟨6,20,37,(List.replicate 6 0#64).map U64⟩ [7,8] (bp rfl zv37 rfl)<|Lw 19 rfl rfl cb (gb _ _ _)<|Ca rfl (gE)<|Ca rfl (ep _ _ (gb _ _ _) rfl)<|Mv rfl<|Ext rfl rfl<|Ext rfl rfl<|aa<|?_
   refine ⟨_,_,rfl,hGF,by intro x hx;simp only[List.mem_cons,List.not_mem_nil,or_false]at hx;subst hx;rfl,by intro x hx;simp only[List.mem_cons,List.not_mem_nil,or_false]at hx;subst hx;rfl,fun adr=> ?_⟩
   refine Sw 20 hGF rfl rfl rfl cb (aB _ _ _)<|Asg rfl<|aa<|Xp<|Mv rfl<|Bnr (v:=.bool true) rfl rfl (fun w=>(bx _ _ _).trans (congrArg (fun b=>Result.ok (Value.bool b) w) (beq_iff_eq.2 h0)))<|aa<|aR rfl<|Xq<|Lw 20 rfl rfl cb (aB _ _ _)<|aw 19 hGF rfl rfl rfl sizeOf37 (by rw[List.length_map,aB _ _ _]) (by rw[List.length_map,gb _ _ _]) (be _) rfl<|aa<|Xp<|Lw 19 rfl rfl cb (aB _ _ _)<|Sw 4 hGF rfl rfl rfl cb (aB _ _ _)<|aa<|am<|Rr<|?_
   exact av 4 rfl rfl rfl isAgg37 sizeOf37 (by rw[List.length_map,aB]) (fun w hw=>⟨by rw[RM,if_pos h0],ac hw⟩)
 ·refine Xp<|Bx 2 hGF rfl<|fun b2=>Bx 3 hGF rfl<|fun b3=>Al 4 hGF zv37<|fun b4=>aa<|Xp<|Asg rfl<|Asg rfl<|Asg rfl<|Asg rfl<|Asg rfl<|Asg rfl<|aa<|ah<|Xp<|Asg rfl<|aa<|ai<|bL (ι:={i:Nat // i≤6}) (fun x=>[(2,pnt b2),(3,pnt b3),(4,pnt b4),(5,U64 ((RT a b x.1).getD 0 0)),(6,U64 ((RT a b x.1).getD 1 0)),(7,U64 ((RT a b x.1).getD 2 0)),(8,U64 ((RT a b x.1).getD 3 0)),(9,U64 ((RT a b x.1).getD 4 0)),(10,U64 ((RT a b x.1).getD 5 0)),(11,I (x.1:Int))]) (fun x=>[(2,b2,a.map U64,37),(3,b3,b.map U64,37),(4,b4,(List.replicate 6 0#64).map U64,37)]) (fun x=>6-x.1) ⟨0,om⟩ hGF trv trv<|?_
  rintro ⟨i,hi⟩
  dsimp only
  refine ah<|Xp<|Mv rfl<|Bnr rfl rfl (fun _=>az _ _ _)<|aa<|?_
  refine bG rfl (fun hc=> ?_) (fun hc=> ?_)
  ·simp only[decide_eq_true_eq]at hc
   refine aq<|ah<|ai<|Xp<|Asg rfl<|Asg rfl<|Asg rfl<|Asg rfl<|aa<|Xp<|Mv rfl<|Ia (i) rfl rfl underlying37 sizeOf24<|Lm 3 U64 0 rfl rfl isAgg24 (by rw[hb];omega)<|Asg rfl<|aa<|Xp<|Ia (0) rfl rfl underlying37 sizeOf24<|Lm 2 U64 0 rfl rfl isAgg24 (by rw[ha];omega)<|Mv rfl<|Ca rfl (bM _ _)<|Mv rfl<|Ext rfl rfl<|Ext rfl rfl<|Asg rfl<|Asg rfl<|aa<|Xp<|Mv rfl<|Mv rfl<|ba rfl rfl (fun w=>dV _ _ 0 _ dc (k1z (b.getD i 0) a (RT a b i)) w) rfl rfl<|Mv rfl<|Ext rfl rfl<|Ext rfl rfl<|Asg rfl<|Asg rfl<|aa<|Xp<|Mv rfl<|Mv rfl<|Bnr (v:=U64 (KC (b.getD i 0) a (RT a b i) 1)) rfl rfl (fun w=>(aF _ _ _).trans (congrArg (fun z=>Result.ok (U64 z) w) (k2z (b.getD i 0) a (RT a b i))))<|?_
   refine Asg rfl<|aa<|Xp<|Ia (1) rfl rfl underlying37 sizeOf24<|Lm 2 U64 0 rfl rfl isAgg24 (by rw[ha];omega)<|Mv rfl<|Ca rfl (bM _ _)<|Mv rfl<|Ext rfl rfl<|Ext rfl rfl<|Asg rfl<|Asg rfl<|aa<|Xp<|Mv rfl<|Mv rfl<|ba rfl rfl (fun w=>db _ _ 0 dc w) rfl rfl<|Mv rfl<|Ext rfl rfl<|Ext rfl rfl<|Asg rfl<|Asg rfl<|aa<|Xp<|Mv rfl<|Mv rfl<|Bnr rfl rfl (fun _=>aF _ _ _)<|Asg rfl<|aa<|Xp<|Mv rfl<|Mv rfl<|ba rfl rfl (fun w=>dV _ _ 0 _ dc (k1s (b.getD i 0) a (RT a b i) 1) w) rfl rfl<|Mv rfl<|Ext rfl rfl<|Ext rfl rfl<|Asg rfl<|Asg rfl<|aa<|Xp<|?_
   refine Mv rfl<|Mv rfl<|Bnr (v:=U64 (KC (b.getD i 0) a (RT a b i) 2)) rfl rfl (fun w=>(aF _ _ _).trans (congrArg (fun z=>Result.ok (U64 z) w) (k2s (b.getD i 0) a (RT a b i) 1)))<|Asg rfl<|aa<|Xp<|Ia (2) rfl rfl underlying37 sizeOf24<|Lm 2 U64 0 rfl rfl isAgg24 (by rw[ha];omega)<|Mv rfl<|Ca rfl (bM _ _)<|Mv rfl<|Ext rfl rfl<|Ext rfl rfl<|Asg rfl<|Asg rfl<|aa<|Xp<|Mv rfl<|Mv rfl<|ba rfl rfl (fun w=>db _ _ 0 dc w) rfl rfl<|Mv rfl<|Ext rfl rfl<|Ext rfl rfl<|Asg rfl<|Asg rfl<|aa<|Xp<|Mv rfl<|Mv rfl<|Bnr rfl rfl (fun _=>aF _ _ _)<|Asg rfl<|aa<|Xp<|Mv rfl<|Mv rfl<|ba rfl rfl (fun w=>dV _ _ 0 _ dc (k1s (b.getD i 0) a (RT a b i) 2) w) rfl rfl<|Mv rfl<|Ext rfl rfl<|Ext rfl rfl<|Asg rfl<|?_
   refine Asg rfl<|aa<|Xp<|Mv rfl<|Mv rfl<|Bnr (v:=U64 (KC (b.getD i 0) a (RT a b i) 3)) rfl rfl (fun w=>(aF _ _ _).trans (congrArg (fun z=>Result.ok (U64 z) w) (k2s (b.getD i 0) a (RT a b i) 2)))<|Asg rfl<|aa<|Xp<|Ia (3) rfl rfl underlying37 sizeOf24<|Lm 2 U64 0 rfl rfl isAgg24 (by rw[ha];omega)<|Mv rfl<|Ca rfl (bM _ _)<|Mv rfl<|Ext rfl rfl<|Ext rfl rfl<|Asg rfl<|Asg rfl<|aa<|Xp<|Mv rfl<|Mv rfl<|ba rfl rfl (fun w=>db _ _ 0 dc w) rfl rfl<|Mv rfl<|Ext rfl rfl<|Ext rfl rfl<|Asg rfl<|Asg rfl<|aa<|Xp<|Mv rfl<|Mv rfl<|Bnr rfl rfl (fun _=>aF _ _ _)<|Asg rfl<|aa<|Xp<|Mv rfl<|Mv rfl<|ba rfl rfl (fun w=>dV _ _ 0 _ dc (k1s (b.getD i 0) a (RT a b i) 3) w) rfl rfl<|Mv rfl<|?_
   refine Ext rfl rfl<|Ext rfl rfl<|Asg rfl<|Asg rfl<|aa<|Xp<|Mv rfl<|Mv rfl<|Bnr (v:=U64 (KC (b.getD i 0) a (RT a b i) 4)) rfl rfl (fun w=>(aF _ _ _).trans (congrArg (fun z=>Result.ok (U64 z) w) (k2s (b.getD i 0) a (RT a b i) 3)))<|Asg rfl<|aa<|Xp<|Ia (4) rfl rfl underlying37 sizeOf24<|Lm 2 U64 0 rfl rfl isAgg24 (by rw[ha];omega)<|Mv rfl<|Ca rfl (bM _ _)<|Mv rfl<|Ext rfl rfl<|Ext rfl rfl<|Asg rfl<|Asg rfl<|aa<|Xp<|Mv rfl<|Mv rfl<|ba rfl rfl (fun w=>db _ _ 0 dc w) rfl rfl<|Mv rfl<|Ext rfl rfl<|Ext rfl rfl<|Asg rfl<|Asg rfl<|aa<|Xp<|Mv rfl<|Mv rfl<|Bnr rfl rfl (fun _=>aF _ _ _)<|Asg rfl<|aa<|Xp<|Mv rfl<|?_
   refine Mv rfl<|ba rfl rfl (fun w=>dV _ _ 0 _ dc (k1s (b.getD i 0) a (RT a b i) 4) w) rfl rfl<|Mv rfl<|Ext rfl rfl<|Ext rfl rfl<|Asg rfl<|Asg rfl<|aa<|Xp<|Mv rfl<|Mv rfl<|Bnr (v:=U64 (KC (b.getD i 0) a (RT a b i) 5)) rfl rfl (fun w=>(aF _ _ _).trans (congrArg (fun z=>Result.ok (U64 z) w) (k2s (b.getD i 0) a (RT a b i) 4)))<|Asg rfl<|aa<|Xp<|Ia (5) rfl rfl underlying37 sizeOf24<|Lm 2 U64 0 rfl rfl isAgg24 (by rw[ha];omega)<|Mv rfl<|Ca rfl (bM _ _)<|Mv rfl<|Ext rfl rfl<|Ext rfl rfl<|Asg rfl<|Asg rfl<|aa<|Xp<|Mv rfl<|Mv rfl<|ba rfl rfl (fun w=>db _ _ 0 dc w) rfl rfl<|Mv rfl<|Ext rfl rfl<|Ext rfl rfl<|Asg rfl<|Asg rfl<|aa<|Xp<|Mv rfl<|Mv rfl<|Bnr rfl rfl (fun _=>aF _ _ _)<|Asg rfl<|?_
   refine aa<|Xp<|Mv rfl<|Mv rfl<|ba rfl rfl (fun w=>dV _ _ 0 _ dc (k1s (b.getD i 0) a (RT a b i) 5) w) rfl rfl<|Mv rfl<|Ext rfl rfl<|Ext rfl rfl<|Asg rfl<|Asg rfl<|aa<|Xp<|Mv rfl<|Mv rfl<|Bnr (v:=U64 (KC (b.getD i 0) a (RT a b i) 6)) rfl rfl (fun w=>(aF _ _ _).trans (congrArg (fun z=>Result.ok (U64 z) w) (k2s (b.getD i 0) a (RT a b i) 5)))<|Asg rfl<|aa<|Xp<|Mv rfl<|Asg rfl<|aa<|Xp<|Mv rfl<|Bnr (v:=U64 (KT (b.getD i 0) a (RT a b i) 0*INV)) rfl rfl (fun w=>cr _ _ INV)<|Asg rfl<|aa<|Xp<|Mv rfl<|Ca rfl (bM _ (PL.getD 0 0))<|Mv rfl<|Ext rfl rfl<|Ext rfl rfl<|Asg rfl<|Asg rfl<|aa<|Xp<|Mv rfl<|Mv rfl<|ba rfl rfl (fun w=>db _ _ 0 dc w) rfl rfl<|Mv rfl<|?_
   refine Ext rfl rfl<|Ext rfl rfl<|Asg rfl<|aa<|Xp<|Mv rfl<|Mv rfl<|Bnr (v:=U64 (KD (KT (b.getD i 0) a (RT a b i) 0*INV) PL (T1 (b.getD i 0) a (RT a b i)) 0)) rfl rfl (fun w=>(aF _ _ _).trans (congrArg (fun z=>Result.ok (U64 z) w) (d2z (b.getD i 0) (KT (b.getD i 0) a (RT a b i) 0*INV) a (RT a b i))))<|Asg rfl<|aa<|Xp<|Mv rfl<|Ca rfl (bM _ (PL.getD 1 0))<|Mv rfl<|Ext rfl rfl<|Ext rfl rfl<|Asg rfl<|Asg rfl<|aa<|Xp<|Mv rfl<|Mv rfl<|ba rfl rfl (fun w=>db _ _ 0 dc w) rfl rfl<|Mv rfl<|Ext rfl rfl<|Ext rfl rfl<|Asg rfl<|Asg rfl<|aa<|Xp<|Mv rfl<|Mv rfl<|Bnr rfl rfl (fun _=>aF _ _ _)<|Asg rfl<|aa<|Xp<|Mv rfl<|Mv rfl<|ba rfl rfl (fun w=>dV _ _ 0 _ dc (d1s (b.getD i 0) (KT (b.getD i 0) a (RT a b i) 0*INV) a (RT a b i) 0 dc) w) rfl rfl<|Mv rfl<|?_
   refine Ext rfl rfl<|Ext rfl rfl<|Asg rfl<|Asg rfl<|aa<|Xp<|Mv rfl<|Mv rfl<|Bnr (v:=U64 (KD (KT (b.getD i 0) a (RT a b i) 0*INV) PL (T1 (b.getD i 0) a (RT a b i)) 1)) rfl rfl (fun w=>(aF _ _ _).trans (congrArg (fun z=>Result.ok (U64 z) w) (d2s (b.getD i 0) (KT (b.getD i 0) a (RT a b i) 0*INV) a (RT a b i) 0 dc)))<|Asg rfl<|aa<|Xp<|Mv rfl<|Ca rfl (bM _ (PL.getD 2 0))<|Mv rfl<|Ext rfl rfl<|Ext rfl rfl<|Asg rfl<|Asg rfl<|aa<|Xp<|Mv rfl<|Mv rfl<|ba rfl rfl (fun w=>db _ _ 0 dc w) rfl rfl<|Mv rfl<|Ext rfl rfl<|Ext rfl rfl<|Asg rfl<|Asg rfl<|aa<|Xp<|Mv rfl<|Mv rfl<|Bnr rfl rfl (fun _=>aF _ _ _)<|Asg rfl<|aa<|Xp<|Mv rfl<|Mv rfl<|ba rfl rfl (fun w=>dV _ _ 0 _ dc (d1s (b.getD i 0) (KT (b.getD i 0) a (RT a b i) 0*INV) a (RT a b i) 1 dc) w) rfl rfl<|?_
   refine Mv rfl<|Ext rfl rfl<|Ext rfl rfl<|Asg rfl<|Asg rfl<|aa<|Xp<|Mv rfl<|Mv rfl<|Bnr (v:=U64 (KD (KT (b.getD i 0) a (RT a b i) 0*INV) PL (T1 (b.getD i 0) a (RT a b i)) 2)) rfl rfl (fun w=>(aF _ _ _).trans (congrArg (fun z=>Result.ok (U64 z) w) (d2s (b.getD i 0) (KT (b.getD i 0) a (RT a b i) 0*INV) a (RT a b i) 1 dc)))<|Asg rfl<|aa<|Xp<|Mv rfl<|Ca rfl (bM _ (PL.getD 3 0))<|Mv rfl<|Ext rfl rfl<|Ext rfl rfl<|Asg rfl<|Asg rfl<|aa<|Xp<|Mv rfl<|Mv rfl<|ba rfl rfl (fun w=>db _ _ 0 dc w) rfl rfl<|Mv rfl<|Ext rfl rfl<|Ext rfl rfl<|Asg rfl<|Asg rfl<|aa<|Xp<|Mv rfl<|Mv rfl<|Bnr rfl rfl (fun _=>aF _ _ _)<|Asg rfl<|aa<|Xp<|Mv rfl<|Mv rfl<|?_
   refine ba rfl rfl (fun w=>dV _ _ 0 _ dc (d1s (b.getD i 0) (KT (b.getD i 0) a (RT a b i) 0*INV) a (RT a b i) 2 dc) w) rfl rfl<|Mv rfl<|Ext rfl rfl<|Ext rfl rfl<|Asg rfl<|Asg rfl<|aa<|Xp<|Mv rfl<|Mv rfl<|Bnr (v:=U64 (KD (KT (b.getD i 0) a (RT a b i) 0*INV) PL (T1 (b.getD i 0) a (RT a b i)) 3)) rfl rfl (fun w=>(aF _ _ _).trans (congrArg (fun z=>Result.ok (U64 z) w) (d2s (b.getD i 0) (KT (b.getD i 0) a (RT a b i) 0*INV) a (RT a b i) 2 dc)))<|Asg rfl<|aa<|Xp<|Mv rfl<|Ca rfl (bM _ (PL.getD 4 0))<|Mv rfl<|Ext rfl rfl<|Ext rfl rfl<|Asg rfl<|Asg rfl<|aa<|Xp<|Mv rfl<|Mv rfl<|ba rfl rfl (fun w=>db _ _ 0 dc w) rfl rfl<|Mv rfl<|Ext rfl rfl<|Ext rfl rfl<|Asg rfl<|Asg rfl<|aa<|Xp<|Mv rfl<|Mv rfl<|Bnr rfl rfl (fun _=>aF _ _ _)<|Asg rfl<|aa<|Xp<|Mv rfl<|?_
   refine Mv rfl<|ba rfl rfl (fun w=>dV _ _ 0 _ dc (d1s (b.getD i 0) (KT (b.getD i 0) a (RT a b i) 0*INV) a (RT a b i) 3 dc) w) rfl rfl<|Mv rfl<|Ext rfl rfl<|Ext rfl rfl<|Asg rfl<|Asg rfl<|aa<|Xp<|Mv rfl<|Mv rfl<|Bnr (v:=U64 (KD (KT (b.getD i 0) a (RT a b i) 0*INV) PL (T1 (b.getD i 0) a (RT a b i)) 4)) rfl rfl (fun w=>(aF _ _ _).trans (congrArg (fun z=>Result.ok (U64 z) w) (d2s (b.getD i 0) (KT (b.getD i 0) a (RT a b i) 0*INV) a (RT a b i) 3 dc)))<|Asg rfl<|aa<|Xp<|Mv rfl<|Ca rfl (bM _ (PL.getD 5 0))<|Mv rfl<|Ext rfl rfl<|Ext rfl rfl<|Asg rfl<|Asg rfl<|aa<|Xp<|Mv rfl<|Mv rfl<|ba rfl rfl (fun w=>db _ _ 0 dc w) rfl rfl<|Mv rfl<|Ext rfl rfl<|Ext rfl rfl<|Asg rfl<|Asg rfl<|aa<|Xp<|Mv rfl<|Mv rfl<|Bnr rfl rfl (fun _=>aF _ _ _)<|Asg rfl<|aa<|Xp<|?_
   refine Mv rfl<|Mv rfl<|ba rfl rfl (fun w=>dV _ _ 0 _ dc (d1s (b.getD i 0) (KT (b.getD i 0) a (RT a b i) 0*INV) a (RT a b i) 4 dc) w) rfl rfl<|Mv rfl<|Ext rfl rfl<|Ext rfl rfl<|Asg rfl<|Asg rfl<|aa<|Xp<|Mv rfl<|Mv rfl<|Bnr (v:=U64 (KD (KT (b.getD i 0) a (RT a b i) 0*INV) PL (T1 (b.getD i 0) a (RT a b i)) 5)) rfl rfl (fun w=>(aF _ _ _).trans (congrArg (fun z=>Result.ok (U64 z) w) (d2s (b.getD i 0) (KT (b.getD i 0) a (RT a b i) 0*INV) a (RT a b i) 4 dc)))<|Asg rfl<|aa<|Xq<|Mv rfl<|Mv rfl<|Bnr rfl rfl (fun _=>aF _ _ _)<|Asg rfl<|aa<|Xq<|Mv rfl<|Bnr rfl rfl (fun _=>au _ _ _ oi)<|Asg rfl<|aa<|?_
   repeat (refine aP ?_)
   exact aD<|⟨rfl,⟨i+1,om⟩,_,by show 6-(i+1)<6-i;omega,rfl,⟨rfl,rfl,rfl,congrArg (fun z=>some (U64 z)) (sG a b i 0 dc).symm,congrArg (fun z=>some (U64 z)) (sG a b i 1 dc).symm,congrArg (fun z=>some (U64 z)) (sG a b i 2 dc).symm,congrArg (fun z=>some (U64 z)) (sG a b i 3 dc).symm,congrArg (fun z=>some (U64 z)) (sG a b i 4 dc).symm,congrArg (fun z=>some (U64 z)) (Kl a b i).symm,rfl,trivial⟩,trv⟩
  ·obtain rfl:i=6:=by simp at hc;omega
   refine aW<|Xp<|Mv rfl<|Mv rfl<|Mv rfl<|Mv rfl<|Mv rfl<|Mv rfl<|bV (n:=6) (vs:=(RT a b 6).map U64) (congrArg some (Co (RT a b 6) (gb _ _ _))) rfl underlying37 sizeOf24 zeroValue37 (by rw[List.length_map,gb];rfl) (be _) rfl rfl<|Al 19 hGF zv37<|fun b19=>Sw 19 hGF rfl rfl rfl cb (gb _ _ _)<|aa<|ah<|Xa [0,1,2,3,4,5] ⟨6,20,37,(List.replicate 6 0#64).map U64⟩ [7,8] (bp rfl zv37 rfl)<|Lw 19 rfl rfl cb (gb _ _ _)<|Ca rfl (gE)<|Ca rfl (ep _ _ (gb _ _ _) rfl)<|Mv rfl<|Ext rfl rfl<|Ext rfl rfl<|aa<|?_
   refine ⟨_,_,rfl,hGF,by intro x hx;simp only[List.mem_cons,List.not_mem_nil,or_false]at hx;subst hx;rfl,by intro x hx;simp only[List.mem_cons,List.not_mem_nil,or_false]at hx;subst hx;rfl,fun adr=> ?_⟩
   refine Sw 20 hGF rfl rfl rfl cb (aB _ _ _)<|Asg rfl<|aa<|Xp<|Mv rfl<|Bnr (v:=.bool false) rfl rfl (fun w=>(bx _ _ _).trans (congrArg (fun b=>Result.ok (Value.bool b) w) (beq_eq_false_iff_ne.2 h0)))<|aa<|aC rfl<|aq<|Xp<|Lw 19 rfl rfl cb (gb _ _ _)<|Sw 4 hGF rfl rfl rfl cb (gb _ _ _)<|aa<|am<|Rr<|?_
   exact av 4 rfl rfl rfl isAgg37 sizeOf37 (by rw[List.length_map,gb]) (fun w hw=>⟨by rw[RM,if_neg h0],ac hw⟩)
end
section
open Go.RowKit
theorem ent100:ak prog 100:=fun _ _=>kr
theorem ent98:ak prog 98:=fun _ _=>kr
theorem ent149:ak prog 149:=fun _ _=>kr
theorem ent148:ak prog 148:=fun _ _=>kr
theorem ent141:ak prog 141:=fun _ _=>kr
theorem ent147:ak prog 147:=fun _ _=>kr
theorem ent185:ak prog 185:=fun _ _=>kr
theorem zv39(w:World):(zeroValue 39).run prog w=.ok (aM (List.replicate 6 (0#64))) w:=(zeroValue39 w).trans rr
def DH(a b:L6):L6:=if 1873798617647539866#64≤(AS a b 6).1.getD 5 0∧(SS (AS a b 6).1 PL 6).2=0 then (SS (AS a b 6).1 PL 6).1 else (AS a b 6).1
def Fi(a b:L6):L6:=if (SS a b 6).2=1 then (AS (SS a b 6).1 PL 6).1 else (SS a b 6).1
def Ja(a:L6):L6:=if a=List.replicate 6 0 then a else (SS PL a 6).1
theorem r4(a:L6)(ha:a.length=6):PUR 134 [aM (a)] (aM (RM a TWO)):=by
 intro w hw
 refine Hf func134 rfl hw<|fun hGF=>Xp<|Bx 1 hGF rfl<|fun b1=>Al 2 hGF zv39<|fun b2=>aa<|Xd []<|Lw 1 rfl rfl cb ha<|Ca rfl (ED)<|Ca rfl (mN _ _ ha ux)<|ck rfl (a5 _ _) underlying39 rfl sizeOf37 zv39 rfl rfl<|Sw 2 hGF rfl rfl rfl dr (a5 _ _)<|aa<|am<|Rr<|?_
 exact av 2 rfl rfl rfl isAgg39 sizeOf39 (by rw[List.length_map,a5]) (fun w hw=>⟨rfl,ac hw⟩)
theorem kg(a:L6)(ha:a.length=6):PUR 48 [aM (a)] (aM (RM a N1)):=by
 intro w hw
 refine Hf func48 rfl hw<|fun hGF=>Xp<|Bx 1 hGF rfl<|fun b1=>Al 2 hGF zv37<|fun b2=>aa<|Xp<|Fa 0 rfl underlying39 rfl sizeOf37<|Lw 1 rfl rfl cb ha<|eK 1 rfl underlying37 sizeOf24 zv37 rfl rfl<|Ca rfl (mN _ _ ha UC)<|Sw 2 hGF rfl rfl rfl cb (a5 _ _)<|aa<|am<|Rr<|?_
 exact av 2 rfl rfl rfl isAgg37 sizeOf37 (by rw[List.length_map,a5]) (fun w hw=>⟨rfl,ac hw⟩)
theorem n8(a b:L6)(ha:a.length=6)(hb:b.length=6):PUR 147 [aM (a),aM (b)] (aM (RM a b)):=by
 intro w hw
 refine Hf func147 rfl hw<|fun hGF=>Xp<|Bx 2 hGF rfl<|fun b2=>Bx 3 hGF rfl<|fun b3=>Al 4 hGF zv39<|fun b4=>aa<|Xp<|Fa 0 rfl underlying39 rfl sizeOf37<|Lw 2 rfl rfl cb ha<|Fa 0 rfl underlying39 rfl sizeOf37<|Lw 3 rfl rfl cb hb<|Ca rfl (mN _ _ ha hb)<|ck rfl (a5 _ _) underlying39 rfl sizeOf37 zv39 rfl rfl<|Sw 4 hGF rfl rfl rfl dr (a5 _ _)<|aa<|am<|Rr<|?_
 exact av 4 rfl rfl rfl isAgg39 sizeOf39 (by rw[List.length_map,a5]) (fun w hw=>⟨rfl,ac hw⟩)
theorem wH(n:BitVec 64):PUR 100 [U64 n] (aM (RM (n::List.replicate 5 0) TWO)):=by
 intro w hw
 refine Hf func100 rfl hw<|fun hGF=>Xp<|Al 2 hGF zv39<|fun b2=>aa<|Xp<|Mv rfl<|eK n rfl underlying37 sizeOf24 zv37 rfl rfl<|Ca rfl (r4 (n::List.replicate 5 0) rfl)<|Sw 2 hGF rfl rfl rfl dr (a5 _ _)<|aa<|am<|Rr<|?_
 exact av 2 rfl rfl rfl isAgg39 sizeOf39 (by rw[List.length_map,a5]) (fun w hw=>⟨rfl,ac hw⟩)
theorem kd(a:L6)(ha:a.length=6):PUR 98 [aM (a)] (.bool (decide (a=List.replicate 6 0))):=by
 intro w hw
 refine Hf func98 rfl hw<|fun hGF=>Xp<|Bx 1 hGF rfl<|fun b1=>Asg rfl<|aa<|Xp<|Fa 0 rfl underlying39 rfl sizeOf37<|Lw 1 rfl rfl cb ha<|el zv37 underlying37 sizeOf24 rfl rfl<|cy (v:=.bool (decide (a=List.replicate 6 0#64))) rfl rfl (fun _=>Ot _ _ _ _ _ _) (fun w=>WY a (List.replicate 6 0#64) ha rfl w) rfl rfl<|Asg rfl<|aa<|am<|Rr<|?_
 exact aG rfl rfl (fun w hw=>⟨rfl,ac hw⟩)
theorem z6(a b:L6)(ha:a.length=6)(hb:b.length=6):PUR 54 [aM (a),aM (b)] (.bool (decide ((SS a b 6).2=1))):=by
 intro w hw
 refine Hf func54 rfl hw<|fun hGF=>Xp<|Bx 2 hGF rfl<|fun b2=>Bx 3 hGF rfl<|fun b3=>Asg rfl<|aa<|Xp<|Lw 2 rfl rfl cb ha<|Lw 3 rfl rfl cb hb<|Ca rfl (ep _ _ ha hb)<|Mv rfl<|Ext rfl rfl<|Ext rfl rfl<|Al 5 hGF zv37<|fun b5=>Sw 5 hGF rfl rfl rfl cb (aB _ _ _)<|Asg rfl<|aa<|Xp<|Mv rfl<|Bnr (v:=.bool (decide ((SS a b 6).2=1))) rfl rfl (fun w=>(bx _ _ _).trans rfl)<|Asg rfl<|aa<|am<|Rr<|?_
 exact aG rfl rfl (fun w hw=>⟨rfl,ac hw⟩)
theorem At(a b:L6)(ha:a.length=6)(hb:b.length=6):PUR 148 [aM (a),aM (b)] (aM (Fi a b)):=by
 intro w hw
 refine Hf func148 rfl hw ?_
 intro hGF
 by_cases h0:(SS a b 6).2=1
 ·refine Xp<|Bx 2 hGF rfl<|fun b2=>Bx 3 hGF rfl<|fun b3=>Al 4 hGF zv39<|fun b4=>aa<|Xp<|Fa 0 rfl underlying39 rfl sizeOf37<|Lw 2 rfl rfl cb ha<|Fa 0 rfl underlying39 rfl sizeOf37<|Lw 3 rfl rfl cb hb<|Ca rfl (ep _ _ ha hb)<|Mv rfl<|Ext rfl rfl<|Ext rfl rfl<|Al 5 hGF zv37<|fun b5=>Sw 5 hGF rfl rfl rfl cb (aB _ _ _)<|Asg rfl<|aa<|ah<|Xp<|Mv rfl<|Bnr (v:=.bool true) rfl rfl (fun w=>(bx _ _ _).trans (congrArg (fun b=>Result.ok (Value.bool b) w) (beq_iff_eq.2 h0)))<|aa<|aR rfl<|Xe []<|Lw 5 rfl rfl cb (aB _ _ _)<|Ca rfl (gE)<|Ca rfl (jV _ _ (aB _ _ _) eY)<|Mv rfl<|Ext rfl rfl<|Ext rfl rfl<|aw 5 hGF rfl rfl rfl sizeOf37 (by rw[List.length_map,aJ _ _ _]) (by rw[List.length_map,aB _ _ _]) (be _) rfl<|aa<|Xp<|Lw 5 rfl rfl cb (aJ _ _ _)<|ck rfl (aJ _ _ _) underlying39 rfl sizeOf37 zv39 rfl rfl<|Sw 4 hGF rfl rfl rfl dr (aJ _ _ _)<|aa<|am<|Rr<|?_
  exact av 4 rfl rfl rfl isAgg39 sizeOf39 (by rw[List.length_map];exact aJ _ _ _) (fun w hw=>⟨by rw[Fi,if_pos h0],ac hw⟩)
 ·refine Xp<|Bx 2 hGF rfl<|fun b2=>Bx 3 hGF rfl<|fun b3=>Al 4 hGF zv39<|fun b4=>aa<|Xp<|Fa 0 rfl underlying39 rfl sizeOf37<|Lw 2 rfl rfl cb ha<|Fa 0 rfl underlying39 rfl sizeOf37<|Lw 3 rfl rfl cb hb<|Ca rfl (ep _ _ ha hb)<|Mv rfl<|Ext rfl rfl<|Ext rfl rfl<|Al 5 hGF zv37<|fun b5=>Sw 5 hGF rfl rfl rfl cb (aB _ _ _)<|Asg rfl<|aa<|ah<|Xp<|Mv rfl<|Bnr (v:=.bool false) rfl rfl (fun w=>(bx _ _ _).trans (congrArg (fun b=>Result.ok (Value.bool b) w) (beq_eq_false_iff_ne.2 h0)))<|aa<|aC rfl<|aq<|Xp<|Lw 5 rfl rfl cb (aB _ _ _)<|ck rfl (aB _ _ _) underlying39 rfl sizeOf37 zv39 rfl rfl<|Sw 4 hGF rfl rfl rfl dr (aB _ _ _)<|aa<|am<|Rr<|?_
  exact av 4 rfl rfl rfl isAgg39 sizeOf39 (by rw[List.length_map];exact aB _ _ _) (fun w hw=>⟨by rw[Fi,if_neg h0],ac hw⟩)
theorem D5(a:L6)(ha:a.length=6):PUR 141 [aM (a)] (aM (Ja a)):=by
 intro w hw
 refine Hf func141 rfl hw ?_
 intro hGF
 by_cases h0:a=List.replicate 6 0
 ·refine Xp<|Bx 1 hGF rfl<|fun b1=>Al 2 hGF zv39<|fun b2=>aa<|ah<|Xp<|Lw 1 rfl rfl dr ha<|m9 (v:=.bool true) rfl rfl ent98 (decide_eq_true h0▸kd a ha) rfl rfl<|aa<|aR rfl<|Xp<|Lw 1 rfl rfl dr ha<|Sw 2 hGF rfl rfl rfl dr ha<|aa<|am<|Rr<|?_
  exact av 2 rfl rfl rfl isAgg39 sizeOf39 (by rw[List.length_map];exact ha) (fun w hw=>⟨by rw[Ja,if_pos h0],ac hw⟩)
 ·refine Xp<|Bx 1 hGF rfl<|fun b1=>Al 2 hGF zv39<|fun b2=>aa<|ah<|Xp<|Lw 1 rfl rfl dr ha<|m9 (v:=.bool false) rfl rfl ent98 (decide_eq_false h0▸kd a ha) rfl rfl<|aa<|aC rfl<|aq<|Xa [0,1,2,3,4,5,6] ⟨7,3,37,(List.replicate 6 0#64).map U64⟩ [8,9] (bp rfl zv37 rfl)<|Ca rfl (gE)<|Fa 0 rfl underlying39 rfl sizeOf37<|Lw 1 rfl rfl cb ha<|Ca rfl (ep _ _ eY ha)<|Mv rfl<|Ext rfl rfl<|Ext rfl rfl<|aa<|?_
  refine ⟨_,_,rfl,hGF,by intro x hx;simp only[List.mem_cons,List.not_mem_nil,or_false]at hx;subst hx;rfl,by intro x hx;simp only[List.mem_cons,List.not_mem_nil,or_false]at hx;subst hx;rfl,fun adr=> ?_⟩
  refine Sw 3 hGF rfl rfl rfl cb (aB _ _ _)<|Asg rfl<|aa<|Xp<|Lw 3 rfl rfl cb (aB _ _ _)<|ck rfl (aB _ _ _) underlying39 rfl sizeOf37 zv39 rfl rfl<|Sw 2 hGF rfl rfl rfl dr (aB _ _ _)<|aa<|am<|Rr<|?_
  exact av 2 rfl rfl rfl isAgg39 sizeOf39 (by rw[List.length_map];exact aB _ _ _) (fun w hw=>⟨by rw[Ja,if_neg h0],ac hw⟩)
theorem zF(a b:L6)(ha:a.length=6)(hb:b.length=6):PUR 149 [aM (a),aM (b)] (aM (DH a b)):=by
 intro w hw
 refine Hf func149 rfl hw ?_
 intro hGF
 by_cases h1:1873798617647539866#64≤(AS a b 6).1.getD 5 0
 ·by_cases h0:(SS (AS a b 6).1 PL 6).2=0
  ·refine Xp<|Bx 2 hGF rfl<|fun b2=>Bx 3 hGF rfl<|fun b3=>Al 4 hGF zv39<|fun b4=>aa<|Xp<|Fa 0 rfl underlying39 rfl sizeOf37<|Lw 2 rfl rfl cb ha<|Fa 0 rfl underlying39 rfl sizeOf37<|Lw 3 rfl rfl cb hb<|Ca rfl (jV _ _ ha hb)<|Mv rfl<|Ext rfl rfl<|Ext rfl rfl<|Al 5 hGF zv37<|fun b5=>Sw 5 hGF rfl rfl rfl cb (aJ _ _ _)<|Asg rfl<|aa<|ah<|Xp<|Ia (5) rfl rfl underlying37 sizeOf24<|Lm 5 U64 0 rfl rfl isAgg24 (by rw[aJ _ _ _];omega)<|Bnr (v:=.bool true) rfl rfl (fun w=>(go _ _ 1873798617647539866#64).trans (congrArg (fun b=>Result.ok (Value.bool b) w) (decide_eq_true h1)))<|aa<|aR rfl<|Xa [0,1,2,3,4,5] ⟨6,7,37,(List.replicate 6 0#64).map U64⟩ [7,8] (bp rfl zv37 rfl)<|Lw 5 rfl rfl cb (aJ _ _ _)<|Ca rfl (gE)<|Ca rfl (ep _ _ (aJ _ _ _) eY)<|Mv rfl<|Ext rfl rfl<|Ext rfl rfl<|aa<|?_
   refine ⟨_,_,rfl,hGF,by intro x hx;simp only[List.mem_cons,List.not_mem_nil,or_false]at hx;subst hx;rfl,by intro x hx;simp only[List.mem_cons,List.not_mem_nil,or_false]at hx;subst hx;rfl,fun adr=> ?_⟩
   refine Sw 7 hGF rfl rfl rfl cb (aB _ _ _)<|Asg rfl<|aa<|Xp<|Mv rfl<|Bnr (v:=.bool true) rfl rfl (fun w=>(bx _ _ _).trans (congrArg (fun b=>Result.ok (Value.bool b) w) (beq_iff_eq.2 h0)))<|aa<|aR rfl<|Xq<|Lw 7 rfl rfl cb (aB _ _ _)<|aw 5 hGF rfl rfl rfl sizeOf37 (by rw[List.length_map,aB _ _ _]) (by rw[List.length_map,aJ _ _ _]) (be _) rfl<|aa<|Xp<|Lw 5 rfl rfl cb (aB _ _ _)<|ck rfl (aB _ _ _) underlying39 rfl sizeOf37 zv39 rfl rfl<|Sw 4 hGF rfl rfl rfl dr (aB _ _ _)<|aa<|am<|Rr<|?_
   exact av 4 rfl rfl rfl isAgg39 sizeOf39 (by rw[List.length_map];exact aB _ _ _) (fun w hw=>⟨by rw[DH,if_pos ⟨h1,h0⟩],ac hw⟩)
  ·refine Xp<|Bx 2 hGF rfl<|fun b2=>Bx 3 hGF rfl<|fun b3=>Al 4 hGF zv39<|fun b4=>aa<|Xp<|Fa 0 rfl underlying39 rfl sizeOf37<|Lw 2 rfl rfl cb ha<|Fa 0 rfl underlying39 rfl sizeOf37<|Lw 3 rfl rfl cb hb<|Ca rfl (jV _ _ ha hb)<|Mv rfl<|Ext rfl rfl<|Ext rfl rfl<|Al 5 hGF zv37<|fun b5=>Sw 5 hGF rfl rfl rfl cb (aJ _ _ _)<|Asg rfl<|aa<|ah<|Xp<|Ia (5) rfl rfl underlying37 sizeOf24<|Lm 5 U64 0 rfl rfl isAgg24 (by rw[aJ _ _ _];omega)<|Bnr (v:=.bool true) rfl rfl (fun w=>(go _ _ 1873798617647539866#64).trans (congrArg (fun b=>Result.ok (Value.bool b) w) (decide_eq_true h1)))<|aa<|aR rfl<|Xa [0,1,2,3,4,5] ⟨6,7,37,(List.replicate 6 0#64).map U64⟩ [7,8] (bp rfl zv37 rfl)<|Lw 5 rfl rfl cb (aJ _ _ _)<|Ca rfl (gE)<|Ca rfl (ep _ _ (aJ _ _ _) eY)<|Mv rfl<|Ext rfl rfl<|Ext rfl rfl<|aa<|?_
   refine ⟨_,_,rfl,hGF,by intro x hx;simp only[List.mem_cons,List.not_mem_nil,or_false]at hx;subst hx;rfl,by intro x hx;simp only[List.mem_cons,List.not_mem_nil,or_false]at hx;subst hx;rfl,fun adr=> ?_⟩
   refine Sw 7 hGF rfl rfl rfl cb (aB _ _ _)<|Asg rfl<|aa<|Xp<|Mv rfl<|Bnr (v:=.bool false) rfl rfl (fun w=>(bx _ _ _).trans (congrArg (fun b=>Result.ok (Value.bool b) w) (beq_eq_false_iff_ne.2 h0)))<|aa<|aC rfl<|aq<|Xp<|Lw 5 rfl rfl cb (aJ _ _ _)<|ck rfl (aJ _ _ _) underlying39 rfl sizeOf37 zv39 rfl rfl<|Sw 4 hGF rfl rfl rfl dr (aJ _ _ _)<|aa<|am<|Rr<|?_
   exact av 4 rfl rfl rfl isAgg39 sizeOf39 (by rw[List.length_map];exact aJ _ _ _) (fun w hw=>⟨by rw[DH,if_neg (fun h=>h0 h.2)],ac hw⟩)
 ·refine Xp<|Bx 2 hGF rfl<|fun b2=>Bx 3 hGF rfl<|fun b3=>Al 4 hGF zv39<|fun b4=>aa<|Xp<|Fa 0 rfl underlying39 rfl sizeOf37<|Lw 2 rfl rfl cb ha<|Fa 0 rfl underlying39 rfl sizeOf37<|Lw 3 rfl rfl cb hb<|Ca rfl (jV _ _ ha hb)<|Mv rfl<|Ext rfl rfl<|Ext rfl rfl<|Al 5 hGF zv37<|fun b5=>Sw 5 hGF rfl rfl rfl cb (aJ _ _ _)<|Asg rfl<|aa<|ah<|Xp<|Ia (5) rfl rfl underlying37 sizeOf24<|Lm 5 U64 0 rfl rfl isAgg24 (by rw[aJ _ _ _];omega)<|Bnr (v:=.bool false) rfl rfl (fun w=>(go _ _ 1873798617647539866#64).trans (congrArg (fun b=>Result.ok (Value.bool b) w) (decide_eq_false h1)))<|aa<|aC rfl<|aq<|Xp<|Lw 5 rfl rfl cb (aJ _ _ _)<|ck rfl (aJ _ _ _) underlying39 rfl sizeOf37 zv39 rfl rfl<|Sw 4 hGF rfl rfl rfl dr (aJ _ _ _)<|aa<|am<|Rr<|?_
  exact av 4 rfl rfl rfl isAgg39 sizeOf39 (by rw[List.length_map];exact aJ _ _ _) (fun w hw=>⟨by rw[DH,if_neg (fun h=>h1 h.1)],ac hw⟩)
theorem DZ(a:L6)(ha:a.length=6):PUR 185 [aM (a)] (.bool (decide ((RM a N1).getD 0 0 &&& 1#64=1#64))):=by
 intro w hw
 refine Hf func185 rfl hw<|fun hGF=>Xp<|Bx 1 hGF rfl<|fun b1=>Asg rfl<|aa<|Xp<|Lw 1 rfl rfl dr ha<|Ca rfl (kg a ha)<|jo U64 0 (0) rfl rfl underlying37 sizeOf24 isAgg24 om om (a5 _ _) rfl rfl<|Bnr rfl rfl (fun w=>ez _ _ 1#64)<|Bnr (v:=.bool (decide ((RM a N1).getD 0 0 &&& 1#64=1#64))) rfl rfl (fun w=>(bx _ _ 1#64).trans rfl)<|Asg rfl<|aa<|am<|Rr<|?_
 exact aG rfl rfl (fun w hw=>⟨rfl,ac hw⟩)
end
section
open Go.RowKit
theorem ent85:ak prog 85:=fun _ _=>kr
theorem G9(x y c:BitVec 64)(hc:c.toNat≤1):(ADC x y c).2.toNat≤1:=Bw x y c hc
def AB(t:L6)(c:BitVec 64):Nat→L6×BitVec 64
 |0=>(t.set 0 (ADC (t.getD 0 0) c 0).1,(ADC (t.getD 0 0) c 0).2)
 |j+1=>((AB t c j).1.set (j+1) (ADC ((AB t c j).1.getD (j+1) 0) 0 (AB t c j).2).1,(ADC ((AB t c j).1.getD (j+1) 0) 0 (AB t c j).2).2)
theorem n9(t:L6)(c:BitVec 64): ∀j,(AB t c j).1.length=t.length
 |0=>by rw[AB,List.length_set]
 |j+1=>by rw[AB,List.length_set,n9 t c j]
theorem X7(t:L6)(c:BitVec 64): ∀j,(AB t c j).2.toNat≤1
 |0=>G9 _ _ _ dc
 |j+1=>G9 _ _ _ (X7 t c j)
def WDs(bs:L8)(m:L6):Nat→L6
 |0=>List.replicate 6 0
 |i+1=>MOD (AB (MU (WDs bs m i) (256#64::List.replicate 5 0) 6) ((bs.getD i 0).setWidth 64) 11).1 m
theorem gA(bs:L8)(m:L6): ∀i,(WDs bs m i).length=6
 |0=>rfl
 |_+1=>mV _ _
theorem xo(bs:L8)(m:L6)(i:Nat):WDs bs m (i+1)=MOD (AB (MU (WDs bs m i) (256#64::List.replicate 5 0) 6) ((bs.getD i 0).setWidth 64) 11).1 m:=by rw[WDs]
theorem xX(e:Option Addr)(cap:Nat)(bs:L8)(m:L6)(hm:m.length=6)(hlen:bs.length≤1000000)(w:World)(hw:Gt w)(hby:BytesAt w e bs):
 CLS 85 [.slice e bs.length cap,aM (m)].toArray w (fun r w'=>r=.returned (aM (WDs bs m bs.length))∧Grow w w'):=by
 refine Hf func85 rfl hw<|fun hGF=>Xp<|Bx 3 hGF rfl<|fun b3=>Al 4 hGF zv37<|fun b4=>aa<|Xp<|Al 5 hGF zv37<|fun b5=>aa<|ah<|Xp<|Asg rfl<|aa<|ai<|bL (ι:={i:Nat // i≤bs.length}) (fun x=>[(0,.slice e bs.length cap),(3,pnt b3),(4,pnt b4),(5,pnt b5),(6,I (x.1:Int))]) (fun x=>[(3,b3,m.map U64,37),(4,b4,(List.replicate 6 0#64).map U64,37),(5,b5,(WDs bs m x.1).map U64,37)]) (fun x=>bs.length-x.1) ⟨0,om⟩ hGF trv trv<|?_
 rintro ⟨i,hi⟩
 dsimp only
 refine ah<|Xp<|Mv rfl<|Mv rfl<|bi rfl (fun _=>aI underlying22 _ _ _ _) rfl rfl<|Bnr rfl rfl (fun _=>az _ _ _)<|aa<|?_
 refine bG rfl (fun hc=> ?_) (fun hc=> ?_)
 ·simp only[decide_eq_true_eq]at hc
  refine aq<|ah<|ai<|Xp<|Lw 5 rfl rfl cb (gA _ _ _)<|eK 256#64 rfl underlying37 sizeOf24 zv37 rfl rfl<|Ca rfl (Ak (WDs bs m i) (256#64::List.replicate 5 0) (gA _ _ _) rfl)<|Al 7 hGF zv117<|fun b7=>Sw 7 hGF rfl rfl rfl Ii (iz _ _ _)<|aa<|Xp<|Asg rfl<|?_
  generalize hM:(MU (WDs bs m i) (256#64::List.replicate 5 0) 6)=M0
  have hM0:M0.length=12:=by rw[←hM,iz]
  refine aa<|Xd []<|Ia (0) rfl rfl underlying117 sizeOf24<|Lm 7 U64 0 rfl rfl isAgg24 (by rw[hM0];omega)<|Mv rfl<|Mv rfl<|?_
  obtain ⟨ad,rfl,_⟩:=hby i _ (gm U8 bs 0 i om)
  refine gY i rfl rfl underlying22 sizeOf5 rfl om rfl rfl<|bT rfl isAgg5 (fun w' h=>by obtain ⟨ad',e,hc⟩:=(hby.grow (ac h)) i _ (gm U8 bs 0 i om);cases e;exact hc) rfl rfl<|ca rfl rfl (fun _=>lC underlying5 underlying24 _) rfl rfl<|ba rfl rfl (fun w=>db _ _ 0 dc w) rfl rfl<|Mv rfl<|Ext rfl rfl<|Ext rfl rfl<|Ia (0) rfl rfl underlying117 sizeOf24<|aV 7 U64 hGF rfl rfl rfl sizeOf24 rfl (by rw[hM0];omega) rfl<|Asg rfl<|aa<|ah<|Xp<|Asg rfl<|aa<|ai<|bL (ι:={i:Nat // i≤11}) (fun x=>[(0,.slice (some ad) bs.length cap),(3,pnt b3),(4,pnt b4),(5,pnt b5),(6,I (i:Int)),(7,pnt b7),(8,U64 (AB M0 ((bs.getD i 0).setWidth 64) x.1).2),(9,I ((x.1+1:Nat):Int))]) (fun x=>[(3,b3,m.map U64,37),(4,b4,(List.replicate 6 0#64).map U64,37),(5,b5,(WDs bs m i).map U64,37),(7,b7,(AB M0 ((bs.getD i 0).setWidth 64) x.1).1.map U64,117)]) (fun x=>11-x.1) ⟨0,om⟩ hGF trv trv<|?_
  rintro ⟨j,hj⟩
  dsimp only
  refine ah<|Xp<|Mv rfl<|Bnr rfl rfl (fun _=>az _ _ _)<|aa<|?_
  refine bG rfl (fun hc=> ?_) (fun hc=> ?_)
  ·simp only[decide_eq_true_eq]at hc
   refine aq<|ah<|ai<|Xq<|Mv rfl<|Mv rfl<|Ia ((j+1)) rfl rfl underlying117 sizeOf24<|Lm 7 U64 0 rfl rfl isAgg24 (by rw[n9,hM0];omega)<|Mv rfl<|ba rfl rfl (fun w=>db _ 0 _ (X7 _ _ _) w) rfl rfl<|Mv rfl<|Ext rfl rfl<|Ext rfl rfl<|Ia ((j+1)) rfl rfl underlying117 sizeOf24<|aV 7 U64 hGF rfl rfl rfl sizeOf24 rfl (by rw[n9,hM0];omega) rfl<|Asg rfl<|aa<|Xq<|Mv rfl<|Bnr rfl rfl (fun _=>au _ _ _ oi)<|Asg rfl<|aa<|?_
   repeat (refine aP ?_)
   exact aD<|⟨rfl,⟨j+1,om⟩,_,by show 11-(j+1)<11-j;omega,rfl,trv,trv⟩
  ·obtain rfl:j=11:=by simp at hc;omega
   refine aW<|Xq<|bY 7 rfl rfl isAgg117 sizeOf117 (by rw[List.length_map,n9,hM0]) rfl rfl<|Lw 3 rfl rfl cb hm<|Ca rfl (DU _ _ (by rw[n9,hM0]) hm)<|aw 5 hGF rfl rfl rfl sizeOf37 (by rw[List.length_map,mV _ _]) (by rw[List.length_map,gA]) (be _) rfl<|aa<|Xq<|Mv rfl<|Bnr rfl rfl (fun _=>au _ _ _ oi)<|Asg rfl<|aa<|?_
   repeat (refine aP ?_)
   exact aD<|⟨rfl,⟨i+1,om⟩,_,by show bs.length-(i+1)<bs.length-i;omega,rfl,trv,⟨rfl,rfl,by rw[xo,hM];rfl,trivial⟩⟩
 ·obtain rfl:i=bs.length:=by simp at hc;omega
  refine aW<|Xp<|Lw 5 rfl rfl cb (gA _ _ _)<|Sw 4 hGF rfl rfl rfl cb (gA _ _ _)<|aa<|am<|Rr<|?_
  exact av 4 rfl rfl rfl isAgg37 sizeOf37 (by rw[List.length_map,gA]) (fun w hw=>⟨rfl,ac hw⟩)
end
section
open Go.RowKit
theorem ent189:ak prog 189:=fun _ _=>kr
def dU(bs:L8)(i:Nat):BitVec 8:=(bs.getD (i / 8) 0>>>(7-i % 8)) &&& 1#8
def RP(a:L6)(bs:L8):Nat→L6
 |0=>ONE
 |i+1=>if dU bs i=1#8 then RM (RM (RP a bs i) (RP a bs i)) a else RM (RP a bs i) (RP a bs i)
theorem jC(a:L6)(bs:L8): ∀i,(RP a bs i).length=6
 |0=>rfl
 |i+1=>by
  unfold RP;split
  ·exact a5 _ _
  ·exact a5 _ _
theorem QP(a:L6)(bs:L8)(i:Nat)(h:dU bs i=1#8):RP a bs (i+1)=RM (RM (RP a bs i) (RP a bs i)) a:=by rw[RP,if_pos h]
theorem Qm(a:L6)(bs:L8)(i:Nat)(h: ¬dU bs i=1#8):RP a bs (i+1)=RM (RP a bs i) (RP a bs i):=by rw[RP,if_neg h]
theorem rJ(a:L6)(ha:a.length=6)(e:Option Addr)(cap:Nat)(bs:L8)(hlen:bs.length≤4096)(w:World)(hw:Gt w)(hby:BytesAt w e bs):
 CLS 189 [aM (a),.slice e bs.length cap].toArray w (fun r w'=>r=.returned (aM (RP a bs (8*bs.length)))∧Grow w w'):=by
 refine Hf func189 rfl hw<|fun hGF=>Xp<|Bx 2 hGF rfl<|fun b2=>Al 4 hGF zv39<|fun b4=>aa<|Xp<|Ca rfl (DF)<|ck rfl (vi) underlying39 rfl sizeOf37 zv39 rfl rfl<|Al 5 hGF zv39<|fun b5=>Sw 5 hGF rfl rfl rfl dr vi<|aa<|ah<|Xp<|Asg rfl<|aa<|ai<|bL (ι:={i:Nat // i≤8*bs.length}) (fun x=>[(1,.slice e bs.length cap),(2,pnt b2),(4,pnt b4),(5,pnt b5),(6,I (x.1:Int))]) (fun x=>[(2,b2,a.map U64,39),(4,b4,(List.replicate 6 0#64).map U64,39),(5,b5,(RP a bs x.1).map U64,39)]) (fun x=>8*bs.length-x.1) ⟨0,om⟩ hGF trv trv<|?_
 rintro ⟨i,hi⟩
 dsimp only
 refine ah<|Xp<|Mv rfl<|Mv rfl<|bi rfl (fun _=>aI underlying22 _ _ _ _) rfl rfl<|Bnr (v:=I ((8*bs.length:Nat):Int)) rfl rfl (fun _=>(bB _ _ _ oi).trans (by rw[show (8:Int)*(bs.length:Int)=((8*bs.length:Nat):Int) by omega]))<|Bnr rfl rfl (fun _=>az _ _ _)<|aa<|?_
 refine bG rfl (fun hc=> ?_) (fun hc=> ?_)
 ·simp only[decide_eq_true_eq]at hc
  refine aq<|ah<|ai<|Xp<|Lw 5 rfl rfl dr (jC _ _ _)<|Lw 5 rfl rfl dr (jC _ _ _)<|Ca rfl (n8 _ _ (jC _ _ _) (jC _ _ _))<|aw 5 hGF rfl rfl rfl sizeOf39 (by rw[List.length_map,a5 _ _]) (by rw[List.length_map,jC]) (be _) rfl<|aa<|Xp<|Mv rfl<|Mv rfl<|Bnr (v:=I ((i / 8:Nat):Int)) rfl rfl (fun _=>fG _ _ _ dc (show inI ((i / 8:Nat):Int) by unfold inI;omega))<|?_
  obtain ⟨ad,rfl,_⟩:=hby (i / 8) _ (gm U8 bs 0 (i / 8) om)
  refine gY (i / 8) rfl rfl underlying22 sizeOf5 rfl om rfl rfl<|bT rfl isAgg5 (fun w' h=>by obtain ⟨ad',e,hc⟩:=(hby.grow (ac h)) (i / 8) _ (gm U8 bs 0 (i / 8) om);cases e;exact hc) rfl rfl<|Mv rfl<|Bnr (v:=I ((i % 8:Nat):Int)) rfl rfl (fun _=>cV _ _ _ dc)<|Bnr (v:=I ((7-i % 8:Nat):Int)) rfl rfl (fun _=>(aX _ _ _ oi).trans (by rw[show ((7:Int)-((i % 8:Nat):Int))=((7-i % 8:Nat):Int) by omega]))<|Bnr (v:=U8 (bs.getD (i / 8) 0>>>(7-i % 8))) rfl rfl (fun _=>fA _ _ _ om)<|Bnr (v:=U8 (dU bs i)) rfl rfl (fun _=>cE _ _ 1#8)<|Bnr (v:=.bool (decide (dU bs i=1#8))) rfl rfl (fun _=>(cP _ _ 1#8).trans rfl)<|aa<|?_
  refine bG rfl (fun hc=> ?_) (fun hc=> ?_)
  ·simp only[decide_eq_true_eq]at hc
   have hq:=hc
   refine Xq<|Lw 5 rfl rfl dr (a5 _ _)<|Lw 2 rfl rfl dr ha<|Ca rfl (n8 _ _ (a5 _ _) ha)<|aw 5 hGF rfl rfl rfl sizeOf39 (by rw[List.length_map,a5 _ _]) (by rw[List.length_map,a5 _ _]) (be _) rfl<|aa<|Xq<|Mv rfl<|Bnr rfl rfl (fun _=>au _ _ _ oi)<|Asg rfl<|aa<|?_
   repeat (refine aP ?_)
   exact aD<|⟨rfl,⟨i+1,om⟩,_,by show 8*bs.length-(i+1)<8*bs.length-i;omega,rfl,trv,⟨rfl,rfl,by first|(rw[QP a bs i hq];rfl)|(rw[Qm a bs i hq];rfl),trivial⟩⟩
  ·simp only[decide_eq_false_iff_not]at hc
   have hq:=hc
   refine aq<|Xq<|Mv rfl<|Bnr rfl rfl (fun _=>au _ _ _ oi)<|Asg rfl<|aa<|?_
   repeat (refine aP ?_)
   exact aD<|⟨rfl,⟨i+1,om⟩,_,by show 8*bs.length-(i+1)<8*bs.length-i;omega,rfl,trv,⟨rfl,rfl,by first|(rw[QP a bs i hq];rfl)|(rw[Qm a bs i hq];rfl),trivial⟩⟩
 ·obtain rfl:i=8*bs.length:=by simp at hc;omega
  refine aW<|Xp<|Lw 5 rfl rfl dr (jC _ _ _)<|Sw 4 hGF rfl rfl rfl dr (jC _ _ _)<|aa<|am<|Rr<|?_
  exact av 4 rfl rfl rfl isAgg39 sizeOf39 (by rw[List.length_map,jC]) (fun w hw=>⟨rfl,ac hw⟩)
end
section
open Go.RowKit
theorem ent156:ak prog 156:=fun _ _=>kr
theorem Ax(n i:Nat)(hn:n≤64):decide (0#64<BitVec.ofNat 64 (n-i))=decide (i<n):=by
 refine decide_eq_decide.2 ?_
 rw[BitVec.lt_def]
 simp only[BitVec.toNat_ofNat]
 omega
theorem zh(n i:Nat)(_hn:n≤64)(hi:i<n):BitVec.ofNat 64 (n-i)-1#64=BitVec.ofNat 64 (n-(i+1)):=by
 apply BitVec.eq_of_toNat_eq
 simp only[BitVec.toNat_sub,BitVec.toNat_ofNat]
 omega
def HLs(l:L6):Nat→L6
 |0=>l
 |k+1=>if k<5 then ((HLs l k).set k ((HLs l k).getD k 0>>>1)).set k (((HLs l k).set k ((HLs l k).getD k 0>>>1)).getD k 0|||((HLs l k).set k ((HLs l k).getD k 0>>>1)).getD (k+1) 0<<<63)else (HLs l k).set k ((HLs l k).getD k 0>>>1)
theorem sS(l:L6)(k:Nat)(h:k<5):HLs l (k+1)=((HLs l k).set k ((HLs l k).getD k 0>>>1)).set k (((HLs l k).set k ((HLs l k).getD k 0>>>1)).getD k 0|||((HLs l k).set k ((HLs l k).getD k 0>>>1)).getD (k+1) 0<<<63):=by rw[HLs,if_pos h]
theorem tk(l:L6)(k:Nat)(h: ¬k<5):HLs l (k+1)=(HLs l k).set k ((HLs l k).getD k 0>>>1):=by rw[HLs,if_neg h]
theorem dO(l:L6): ∀k,(HLs l k).length=l.length
 |0=>rfl
 |k+1=>by
  unfold HLs;split
  ·rw[List.length_set,List.length_set,dO l k]
  ·rw[List.length_set,dO l k]
def HN(l:L6):Nat→L6
 |0=>l
 |i+1=>HLs (HN l i) 6
theorem dp(l:L6): ∀i,(HN l i).length=l.length
 |0=>rfl
 |i+1=>by rw[HN,dO,dp l i]
theorem yT(w:World)(hw:Gt w):CLS 156 [I (-2),U64 0#64].toArray w (fun e w'=> ∃b,e=.returned (.slice (spt b) 48 48)∧Grow w w'∧w.heap.size≤b∧OwnB w' b ((BYs (HN (SS PL (2#64::List.replicate 5 0) 6).1 0) 48).map U8) 29):=by
 refine Hf func156 rfl hw<|fun hGF=>Xp<|Asg rfl<|aa<|Xp<|Ca rfl (gE)<|Al 5 hGF zv37<|fun b5=>Sw 5 hGF rfl rfl rfl cb eY<|aa<|ah<|Xp<|Mv rfl<|Bnr (v:=.bool true) rfl rfl (fun w=>az _ (-2) 0)<|aa<|aR rfl<|Xq<|Lw 5 rfl rfl cb eY<|Mv rfl<|bu (v:=I 2) rfl (fun _=>wA (-2) oi) rfl rfl<|ca (v:=U64 2#64) rfl rfl (fun _=>(f9 underlying2 underlying24 2).trans rfl) rfl rfl<|eK 2#64 rfl underlying37 sizeOf24 zv37 rfl rfl<|Ca rfl (ep PL (2#64::List.replicate 5 0) eY rfl)<|Mv rfl<|Ext rfl rfl<|Ext rfl rfl<|aw 5 hGF rfl rfl rfl sizeOf37 (by rw[List.length_map,aB _ _ _]) (by rw[List.length_map,eY]) (be _) rfl<|aa<|ah<|ai<|bL (ι:={i:Nat // i≤0}) (fun x=>[(4,.slice none 0 0),(5,pnt b5),(1,U64 (BitVec.ofNat 64 (0-x.1)))]) (fun x=>[(5,b5,(HN (SS PL (2#64::List.replicate 5 0) 6).1 x.1).map U64,37)]) (fun x=>0-x.1) ⟨0,om⟩ hGF trv trv<|?_
 rintro ⟨i,hi⟩
 dsimp only
 refine ah<|Xp<|Mv rfl<|Bnr (v:=.bool (decide (i<0))) rfl rfl (fun w=>(jl _ _ 0#64).trans (congrArg (fun b=>Result.ok (Value.bool b) w) (Ax 0 i dc)))<|aa<|?_
 refine bG rfl (fun hc=> ?_) (fun hc=> ?_)
 ·simp only[decide_eq_true_eq]at hc
  refine aq<|ah<|ai<|Xp<|Asg rfl<|aa<|ai<|bL (ι:={i:Nat // i≤6}) (fun x=>[(4,.slice none 0 0),(5,pnt b5),(1,U64 (BitVec.ofNat 64 (0-i))),(6,I (x.1:Int))]) (fun x=>[(5,b5,(HLs (HN (SS PL (2#64::List.replicate 5 0) 6).1 i) x.1).map U64,37)]) (fun x=>6-x.1) ⟨0,om⟩ hGF trv trv<|?_
  rintro ⟨k,hk⟩
  dsimp only
  refine ah<|Xp<|Mv rfl<|Bnr rfl rfl (fun _=>az _ _ _)<|aa<|?_
  refine bG rfl (fun hc=> ?_) (fun hc=> ?_)
  ·simp only[decide_eq_true_eq]at hc
   refine aq<|ah<|ai<|Xp<|Mv rfl<|Mv rfl<|Ia (k) rfl rfl underlying37 sizeOf24<|Lm 5 U64 0 rfl rfl isAgg24 (by rw[dO,dp,aB];omega)<|Bnr rfl rfl (fun _=>cG _ _ 1#64)<|Ia (k) rfl rfl underlying37 sizeOf24<|aV 5 U64 hGF rfl rfl rfl sizeOf24 rfl (by rw[dO,dp,aB];omega) rfl<|aa<|Xp<|Mv rfl<|Bnr rfl rfl (fun _=>az _ _ _)<|aa<|?_
   refine bG rfl (fun hc=> ?_) (fun hc=> ?_)
   ·simp only[decide_eq_true_eq]at hc
    have hq:k<5:=om
    refine Xe []<|Mv rfl<|Ia (k) rfl rfl underlying37 sizeOf24<|Lm 5 U64 0 rfl rfl isAgg24 (by rw[List.length_set,dO,dp,aB];omega)<|Mv rfl<|Bnr rfl rfl (fun _=>au _ _ _ oi)<|Ia ((k+1)) rfl rfl underlying37 sizeOf24<|Lm 5 U64 0 rfl rfl isAgg24 (by rw[List.length_set,dO,dp,aB];omega)<|Bnr rfl rfl (fun _=>ip _ _ 63#64)<|Bnr rfl rfl (fun _=>fg _ _ _)<|Ia (k) rfl rfl underlying37 sizeOf24<|aV 5 U64 hGF rfl rfl rfl sizeOf24 rfl (by rw[List.length_set,dO,dp,aB];omega) rfl<|aa<|Xq<|Mv rfl<|Bnr rfl rfl (fun _=>au _ _ _ oi)<|Asg rfl<|aa<|?_
    repeat (refine aP ?_)
    exact aD<|⟨rfl,⟨k+1,om⟩,_,by show 6-(k+1)<6-k;omega,rfl,trv,⟨by first|(rw[sS _ k hq];rfl)|(rw[tk _ k hq];rfl),trivial⟩⟩
   ·simp only[decide_eq_false_iff_not]at hc
    have hq: ¬k<5:=om
    refine aq<|Xq<|Mv rfl<|Bnr rfl rfl (fun _=>au _ _ _ oi)<|Asg rfl<|aa<|?_
    repeat (refine aP ?_)
    exact aD<|⟨rfl,⟨k+1,om⟩,_,by show 6-(k+1)<6-k;omega,rfl,trv,⟨by first|(rw[sS _ k hq];rfl)|(rw[tk _ k hq];rfl),trivial⟩⟩
  ·obtain rfl:k=6:=by simp at hc;omega
   refine aW<|Xq<|Mv rfl<|Bnr (v:=U64 (BitVec.ofNat 64 (0-(i+1)))) rfl rfl (fun w=>(il _ _ 1#64).trans (congrArg (fun z=>Result.ok (U64 z) w) (zh 0 i dc om)))<|Asg rfl<|aa<|?_
   repeat (refine aP ?_)
   exact aD<|⟨rfl,⟨i+1,om⟩,_,by show 0-(i+1)<0-i;omega,rfl,trv,trv⟩
 ·obtain rfl:i=0:=by simp at hc;omega
  refine aW<|Xp<|bY 5 rfl rfl isAgg37 sizeOf37 (by rw[List.length_map,dp,aB]) rfl rfl<|Ca rfl (fS _ (by rw[dp,aB]))<|Al 7 hGF zv29<|fun b7=>Sx 7 hGF rfl rfl rfl sD (aK _ _) (bH _)<|aa<|Xp<|bD (l:=0) (h':=48) rfl underlying29 sizeOf5 rfl rfl om om rfl rfl<|Asg rfl<|aa<|am<|Rr<|?_
  exact aG rfl rfl (fun w hw=>⟨b7,rfl,ac hw,(hw.own 7 b7 _ _ rfl).2.elim id False.elim,(hw.own 7 b7 _ _ rfl).1⟩)
theorem z7(w:World)(hw:Gt w):CLS 156 [I (-1),U64 1#64].toArray w (fun e w'=> ∃b,e=.returned (.slice (spt b) 48 48)∧Grow w w'∧w.heap.size≤b∧OwnB w' b ((BYs (HN (SS PL (1#64::List.replicate 5 0) 6).1 1) 48).map U8) 29):=by
 refine Hf func156 rfl hw<|fun hGF=>Xp<|Asg rfl<|aa<|Xp<|Ca rfl (gE)<|Al 5 hGF zv37<|fun b5=>Sw 5 hGF rfl rfl rfl cb eY<|aa<|ah<|Xp<|Mv rfl<|Bnr (v:=.bool true) rfl rfl (fun w=>az _ (-1) 0)<|aa<|aR rfl<|Xq<|Lw 5 rfl rfl cb eY<|Mv rfl<|bu (v:=I 1) rfl (fun _=>wA (-1) oi) rfl rfl<|ca (v:=U64 1#64) rfl rfl (fun _=>(f9 underlying2 underlying24 1).trans rfl) rfl rfl<|eK 1#64 rfl underlying37 sizeOf24 zv37 rfl rfl<|Ca rfl (ep PL (1#64::List.replicate 5 0) eY rfl)<|Mv rfl<|Ext rfl rfl<|Ext rfl rfl<|aw 5 hGF rfl rfl rfl sizeOf37 (by rw[List.length_map,aB _ _ _]) (by rw[List.length_map,eY]) (be _) rfl<|aa<|ah<|ai<|bL (ι:={i:Nat // i≤1}) (fun x=>[(4,.slice none 0 0),(5,pnt b5),(1,U64 (BitVec.ofNat 64 (1-x.1)))]) (fun x=>[(5,b5,(HN (SS PL (1#64::List.replicate 5 0) 6).1 x.1).map U64,37)]) (fun x=>1-x.1) ⟨0,om⟩ hGF trv trv<|?_
 rintro ⟨i,hi⟩
 dsimp only
 refine ah<|Xp<|Mv rfl<|Bnr (v:=.bool (decide (i<1))) rfl rfl (fun w=>(jl _ _ 0#64).trans (congrArg (fun b=>Result.ok (Value.bool b) w) (Ax 1 i dc)))<|aa<|?_
 refine bG rfl (fun hc=> ?_) (fun hc=> ?_)
 ·simp only[decide_eq_true_eq]at hc
  refine aq<|ah<|ai<|Xp<|Asg rfl<|aa<|ai<|bL (ι:={i:Nat // i≤6}) (fun x=>[(4,.slice none 0 0),(5,pnt b5),(1,U64 (BitVec.ofNat 64 (1-i))),(6,I (x.1:Int))]) (fun x=>[(5,b5,(HLs (HN (SS PL (1#64::List.replicate 5 0) 6).1 i) x.1).map U64,37)]) (fun x=>6-x.1) ⟨0,om⟩ hGF trv trv<|?_
  rintro ⟨k,hk⟩
  dsimp only
  refine ah<|Xp<|Mv rfl<|Bnr rfl rfl (fun _=>az _ _ _)<|aa<|?_
  refine bG rfl (fun hc=> ?_) (fun hc=> ?_)
  ·simp only[decide_eq_true_eq]at hc
   refine aq<|ah<|ai<|Xp<|Mv rfl<|Mv rfl<|Ia (k) rfl rfl underlying37 sizeOf24<|Lm 5 U64 0 rfl rfl isAgg24 (by rw[dO,dp,aB];omega)<|Bnr rfl rfl (fun _=>cG _ _ 1#64)<|Ia (k) rfl rfl underlying37 sizeOf24<|aV 5 U64 hGF rfl rfl rfl sizeOf24 rfl (by rw[dO,dp,aB];omega) rfl<|aa<|Xp<|Mv rfl<|Bnr rfl rfl (fun _=>az _ _ _)<|aa<|?_
   refine bG rfl (fun hc=> ?_) (fun hc=> ?_)
   ·simp only[decide_eq_true_eq]at hc
    have hq:k<5:=om
    refine Xe []<|Mv rfl<|Ia (k) rfl rfl underlying37 sizeOf24<|Lm 5 U64 0 rfl rfl isAgg24 (by rw[List.length_set,dO,dp,aB];omega)<|Mv rfl<|Bnr rfl rfl (fun _=>au _ _ _ oi)<|Ia ((k+1)) rfl rfl underlying37 sizeOf24<|Lm 5 U64 0 rfl rfl isAgg24 (by rw[List.length_set,dO,dp,aB];omega)<|Bnr rfl rfl (fun _=>ip _ _ 63#64)<|Bnr rfl rfl (fun _=>fg _ _ _)<|Ia (k) rfl rfl underlying37 sizeOf24<|aV 5 U64 hGF rfl rfl rfl sizeOf24 rfl (by rw[List.length_set,dO,dp,aB];omega) rfl<|aa<|Xq<|Mv rfl<|Bnr rfl rfl (fun _=>au _ _ _ oi)<|Asg rfl<|aa<|?_
    repeat (refine aP ?_)
    exact aD<|⟨rfl,⟨k+1,om⟩,_,by show 6-(k+1)<6-k;omega,rfl,trv,⟨by first|(rw[sS _ k hq];rfl)|(rw[tk _ k hq];rfl),trivial⟩⟩
   ·simp only[decide_eq_false_iff_not]at hc
    have hq: ¬k<5:=om
    refine aq<|Xq<|Mv rfl<|Bnr rfl rfl (fun _=>au _ _ _ oi)<|Asg rfl<|aa<|?_
    repeat (refine aP ?_)
    exact aD<|⟨rfl,⟨k+1,om⟩,_,by show 6-(k+1)<6-k;omega,rfl,trv,⟨by first|(rw[sS _ k hq];rfl)|(rw[tk _ k hq];rfl),trivial⟩⟩
  ·obtain rfl:k=6:=by simp at hc;omega
   refine aW<|Xq<|Mv rfl<|Bnr (v:=U64 (BitVec.ofNat 64 (1-(i+1)))) rfl rfl (fun w=>(il _ _ 1#64).trans (congrArg (fun z=>Result.ok (U64 z) w) (zh 1 i dc om)))<|Asg rfl<|aa<|?_
   repeat (refine aP ?_)
   exact aD<|⟨rfl,⟨i+1,om⟩,_,by show 1-(i+1)<1-i;omega,rfl,trv,trv⟩
 ·obtain rfl:i=1:=by simp at hc;omega
  refine aW<|Xp<|bY 5 rfl rfl isAgg37 sizeOf37 (by rw[List.length_map,dp,aB]) rfl rfl<|Ca rfl (fS _ (by rw[dp,aB]))<|Al 7 hGF zv29<|fun b7=>Sx 7 hGF rfl rfl rfl sD (aK _ _) (bH _)<|aa<|Xp<|bD (l:=0) (h':=48) rfl underlying29 sizeOf5 rfl rfl om om rfl rfl<|Asg rfl<|aa<|am<|Rr<|?_
  exact aG rfl rfl (fun w hw=>⟨b7,rfl,ac hw,(hw.own 7 b7 _ _ rfl).2.elim id False.elim,(hw.own 7 b7 _ _ rfl).1⟩)
theorem qy(w:World)(hw:Gt w):CLS 156 [I (1),U64 2#64].toArray w (fun e w'=> ∃b,e=.returned (.slice (spt b) 48 48)∧Grow w w'∧w.heap.size≤b∧OwnB w' b ((BYs (HN (AS PL (1#64::List.replicate 5 0) 6).1 2) 48).map U8) 29):=by
 refine Hf func156 rfl hw<|fun hGF=>Xp<|Asg rfl<|aa<|Xp<|Ca rfl (gE)<|Al 5 hGF zv37<|fun b5=>Sw 5 hGF rfl rfl rfl cb eY<|aa<|ah<|Xp<|Mv rfl<|Bnr (v:=.bool false) rfl rfl (fun w=>az _ (1) 0)<|aa<|aC rfl<|Xq<|Lw 5 rfl rfl cb eY<|Mv rfl<|ca (v:=U64 1#64) rfl rfl (fun _=>(f9 underlying2 underlying24 1).trans rfl) rfl rfl<|eK 1#64 rfl underlying37 sizeOf24 zv37 rfl rfl<|Ca rfl (jV PL (1#64::List.replicate 5 0) eY rfl)<|Mv rfl<|Ext rfl rfl<|Ext rfl rfl<|aw 5 hGF rfl rfl rfl sizeOf37 (by rw[List.length_map,aJ _ _ _]) (by rw[List.length_map,eY]) (be _) rfl<|aa<|ah<|ai<|bL (ι:={i:Nat // i≤2}) (fun x=>[(4,.slice none 0 0),(5,pnt b5),(1,U64 (BitVec.ofNat 64 (2-x.1)))]) (fun x=>[(5,b5,(HN (AS PL (1#64::List.replicate 5 0) 6).1 x.1).map U64,37)]) (fun x=>2-x.1) ⟨0,om⟩ hGF trv trv<|?_
 rintro ⟨i,hi⟩
 dsimp only
 refine ah<|Xp<|Mv rfl<|Bnr (v:=.bool (decide (i<2))) rfl rfl (fun w=>(jl _ _ 0#64).trans (congrArg (fun b=>Result.ok (Value.bool b) w) (Ax 2 i dc)))<|aa<|?_
 refine bG rfl (fun hc=> ?_) (fun hc=> ?_)
 ·simp only[decide_eq_true_eq]at hc
  refine aq<|ah<|ai<|Xp<|Asg rfl<|aa<|ai<|bL (ι:={i:Nat // i≤6}) (fun x=>[(4,.slice none 0 0),(5,pnt b5),(1,U64 (BitVec.ofNat 64 (2-i))),(6,I (x.1:Int))]) (fun x=>[(5,b5,(HLs (HN (AS PL (1#64::List.replicate 5 0) 6).1 i) x.1).map U64,37)]) (fun x=>6-x.1) ⟨0,om⟩ hGF trv trv<|?_
  rintro ⟨k,hk⟩
  dsimp only
  refine ah<|Xp<|Mv rfl<|Bnr rfl rfl (fun _=>az _ _ _)<|aa<|?_
  refine bG rfl (fun hc=> ?_) (fun hc=> ?_)
  ·simp only[decide_eq_true_eq]at hc
   refine aq<|ah<|ai<|Xp<|Mv rfl<|Mv rfl<|Ia (k) rfl rfl underlying37 sizeOf24<|Lm 5 U64 0 rfl rfl isAgg24 (by rw[dO,dp,aJ];omega)<|Bnr rfl rfl (fun _=>cG _ _ 1#64)<|Ia (k) rfl rfl underlying37 sizeOf24<|aV 5 U64 hGF rfl rfl rfl sizeOf24 rfl (by rw[dO,dp,aJ];omega) rfl<|aa<|Xp<|Mv rfl<|Bnr rfl rfl (fun _=>az _ _ _)<|aa<|?_
   refine bG rfl (fun hc=> ?_) (fun hc=> ?_)
   ·simp only[decide_eq_true_eq]at hc
    have hq:k<5:=om
    refine Xe []<|Mv rfl<|Ia (k) rfl rfl underlying37 sizeOf24<|Lm 5 U64 0 rfl rfl isAgg24 (by rw[List.length_set,dO,dp,aJ];omega)<|Mv rfl<|Bnr rfl rfl (fun _=>au _ _ _ oi)<|Ia ((k+1)) rfl rfl underlying37 sizeOf24<|Lm 5 U64 0 rfl rfl isAgg24 (by rw[List.length_set,dO,dp,aJ];omega)<|Bnr rfl rfl (fun _=>ip _ _ 63#64)<|Bnr rfl rfl (fun _=>fg _ _ _)<|Ia (k) rfl rfl underlying37 sizeOf24<|aV 5 U64 hGF rfl rfl rfl sizeOf24 rfl (by rw[List.length_set,dO,dp,aJ];omega) rfl<|aa<|Xq<|Mv rfl<|Bnr rfl rfl (fun _=>au _ _ _ oi)<|Asg rfl<|aa<|?_
    repeat (refine aP ?_)
    exact aD<|⟨rfl,⟨k+1,om⟩,_,by show 6-(k+1)<6-k;omega,rfl,trv,⟨by first|(rw[sS _ k hq];rfl)|(rw[tk _ k hq];rfl),trivial⟩⟩
   ·simp only[decide_eq_false_iff_not]at hc
    have hq: ¬k<5:=om
    refine aq<|Xq<|Mv rfl<|Bnr rfl rfl (fun _=>au _ _ _ oi)<|Asg rfl<|aa<|?_
    repeat (refine aP ?_)
    exact aD<|⟨rfl,⟨k+1,om⟩,_,by show 6-(k+1)<6-k;omega,rfl,trv,⟨by first|(rw[sS _ k hq];rfl)|(rw[tk _ k hq];rfl),trivial⟩⟩
  ·obtain rfl:k=6:=by simp at hc;omega
   refine aW<|Xq<|Mv rfl<|Bnr (v:=U64 (BitVec.ofNat 64 (2-(i+1)))) rfl rfl (fun w=>(il _ _ 1#64).trans (congrArg (fun z=>Result.ok (U64 z) w) (zh 2 i dc om)))<|Asg rfl<|aa<|?_
   repeat (refine aP ?_)
   exact aD<|⟨rfl,⟨i+1,om⟩,_,by show 2-(i+1)<2-i;omega,rfl,trv,trv⟩
 ·obtain rfl:i=2:=by simp at hc;omega
  refine aW<|Xp<|bY 5 rfl rfl isAgg37 sizeOf37 (by rw[List.length_map,dp,aJ]) rfl rfl<|Ca rfl (fS _ (by rw[dp,aJ]))<|Al 7 hGF zv29<|fun b7=>Sx 7 hGF rfl rfl rfl sD (aK _ _) (bH _)<|aa<|Xp<|bD (l:=0) (h':=48) rfl underlying29 sizeOf5 rfl rfl om om rfl rfl<|Asg rfl<|aa<|am<|Rr<|?_
  exact aG rfl rfl (fun w hw=>⟨b7,rfl,ac hw,(hw.own 7 b7 _ _ rfl).2.elim id False.elim,(hw.own 7 b7 _ _ rfl).1⟩)
end
section
open Go.RowKit
theorem ent155:ak prog 155:=fun _ _=>kr
theorem ent99:ak prog 99:=fun _ _=>kr
def EX2:L8:=BYs (HN (SS PL (2#64::List.replicate 5 0) 6).1 0) 48
def EX1:L8:=BYs (HN (SS PL (1#64::List.replicate 5 0) 6).1 1) 48
def EX4:L8:=BYs (HN (AS PL (1#64::List.replicate 5 0) 6).1 2) 48
theorem MT:EX2.length=48:=aK _ _
theorem uO:EX1.length=48:=aK _ _
theorem NA:EX4.length=48:=aK _ _
theorem QF(a:L6)(ha:a.length=6)(b:Nat)(t:TypeId)(bs:L8)(h48:bs.length=48)(w:World)(hw:Gt w)(ho:OwnB w b (bs.map U8) t):
 CLS 189 [aM (a),.slice (spt b) 48 48].toArray w (fun r w'=>r=.returned (aM (RP a bs 384))∧Grow w w'):=by
 have h:=rJ a ha (spt b) 48 bs om w hw (BytesAt.range ho.range)
 rw[h48]at h
 exact h
theorem Np(b:Nat)(t:TypeId)(bs:L8)(h48:bs.length=48)(w:World)(hw:Gt w)(ho:OwnB w b (bs.map U8) t):
 CLS 44 [.slice (spt b) 48 48].toArray w (fun r w'=>r=.returned (.tuple #[aM (FRs bs 48),.bool true])∧Grow w w'):=by
 have h:=oF (spt b) 48 bs w hw (BytesAt.range ho.range)
 rw[h48,if_neg dc]at h
 exact h
theorem Ej(a:L6)(ha:a.length=6):PUR 155 [aM (a)] (aM (RP a EX2 384)):=by
 intro w hw
 refine Hf func155 rfl hw<|fun hGF=>ae (E:=EE [156,2000156])<|Bx 1 hGF rfl<|fun b1=>Al 2 hGF zv39<|fun b2=>aa<|Xd [156,2000156]<|Lw 1 rfl rfl dr ha<|?_
 refine bQ rfl rfl ent156 rfl rfl (fun w' hw'=>(yT w' (hGF.g _ _ _ hw')).mono fun e w'' h=> ?_)
 obtain ⟨bm,rfl,hg,hb,hob⟩:=h
 refine ⟨_,_,rfl,aA hGF,hw'.news ao hg [(4,bm,EX2.map U8,29)] ?_ bX,bU ao rfl, ?_⟩
 ·intro n' b' c' t' hl
  rcases aL hl with ⟨_,e⟩|⟨_,hl⟩
  ·cases e;exact ⟨hb,hob⟩
  ·cases hl
 clear hw' hg hb hob
 refine Cc rfl ent189 (fun w' hw' hG=>QF a ha bm _ EX2 MT w' hG (hw'.own 4 _ _ _ rfl).1)<|Sw 2 hGF rfl rfl rfl dr (jC _ _ _)<|aa<|am<|Rr<|?_
 exact av 2 rfl rfl rfl isAgg39 sizeOf39 (by rw[List.length_map,jC]) (fun w hw=>⟨rfl,ac hw⟩)
theorem eqgF(op:BinOp)(x y:Operand)(xs ys:Array Value)(w:World):(eqGuard op 39 x y (.agg xs) (.agg ys)).run prog w=.ok () w:=run_eqGuard_agg w op 39 x y xs ys kr
theorem xH(a:L6)(ha:a.length=6):PUR 99 [aM (a)] (.bool (decide ((SS (FRs EX1 48) (RM a N1) 6).2=1))):=by
 intro w hw
 refine Hf func99 rfl hw<|fun hGF=>ae (E:=EE [156,2000156])<|Bx 1 hGF rfl<|fun b1=>Asg rfl<|aa<|ae (E:=EE [156,2000156])<|?_
 refine bQ rfl rfl ent156 rfl rfl (fun w' hw'=>(z7 w' (hGF.g _ _ _ hw')).mono fun e w'' h=> ?_)
 obtain ⟨bm,rfl,hg,hb,hob⟩:=h
 refine ⟨_,_,rfl,aA hGF,hw'.news ao hg [(6,bm,EX1.map U8,29)] ?_ bX,bU ao rfl, ?_⟩
 ·intro n' b' c' t' hl
  rcases aL hl with ⟨_,e⟩|⟨_,hl⟩
  ·cases e;exact ⟨hb,hob⟩
  ·cases hl
 clear hw' hg hb hob
 refine Cc rfl ent44 (fun w' hw' hG=>Np bm _ EX1 uO w' hG (hw'.own 6 _ _ _ rfl).1)<|Mv rfl<|Ext rfl rfl<|Ext rfl rfl<|Al 3 hGF zv37<|fun b3=>Sw 3 hGF rfl rfl rfl cb (aT _ _)<|Asg rfl<|aa<|Xd [156,2000156]<|Lw 3 rfl rfl cb (aT _ _)<|Lw 1 rfl rfl dr ha<|Ca rfl (kg a ha)<|Ca rfl (z6 _ _ (aT _ _) (a5 _ _))<|Asg rfl<|aa<|am<|Rr<|?_
 exact aG rfl rfl (fun w hw=>⟨rfl,ac hw⟩)
end
section
open Go.RowKit
theorem rV(a:BitVec 64){P:Program}{w:World}:(Op.unary .neg (U64 a)).run P w=.ok (U64 (-a)) w:=by
 show (Op.intArith .sub .u64 0 (a.toNat:Int)).run P w=_
 simp only[Op.intArith,Sem.run_pure]
 have h:=a.isLt
 congr 2
 simp only[BitVec.toNat_neg]
 congr 1
 simp only[IntKind.wrap,IntKind.signed,IntKind.bits,Bool.false_and]
 simp
 omega
theorem nq(n:BitVec 64):PUR 65 [U64 n] (U64 (IV n 5)):=by
 intro w hw
 refine Hf func65 rfl hw<|fun hGF=>Xp<|Asg rfl<|aa<|Xp<|Mv rfl<|Asg rfl<|aa<|ah<|Xp<|Mv rfl<|aa<|ai<|bL (ι:={i:Nat // i≤5}) (fun x=>[(0,U64 n),(2,U64 0),(3,U64 (IV n x.1)),(5,I (x.1:Int))]) (fun x=>[]) (fun x=>5-x.1) ⟨0,om⟩ hGF trv trivial<|?_
 rintro ⟨i,hi⟩
 dsimp only
 refine Xp<|Bnr rfl rfl (fun _=>az _ _ _)<|aa<|ah<|?_
 refine bG rfl (fun hc=> ?_) (fun hc=> ?_)
 ·simp only[decide_eq_true_eq]at hc
  refine aq<|ah<|ai<|Xq<|Mv rfl<|Mv rfl<|Mv rfl<|Bnr rfl rfl (fun _=>cr _ _ _)<|Bnr rfl rfl (fun _=>il _ _ _)<|Bnr rfl rfl (fun _=>cr _ _ _)<|Asg rfl<|aa<|Xq<|Bnr rfl rfl (fun _=>au _ _ _ oi)<|Mv rfl<|aa<|?_
  repeat (refine aP ?_)
  exact aD<|⟨rfl,⟨i+1,om⟩,_,by show 5-(i+1)<5-i;omega,rfl,trv,trivial⟩
 ·obtain rfl:i=5:=by simp at hc;omega
  refine aW<|Xp<|Mv rfl<|Asg rfl<|aa<|am<|Rr<|?_
  exact aG rfl rfl (fun w hw=>⟨rfl,ac hw⟩)
theorem SG:(prog.info? 24).map (·.size)=some 1:=kr
theorem D0(a:L6)(h:a.length=6):lay 0 (a.map U64) ((List.replicate 12 0#64).map U64)=(a++List.replicate 6 0).map U64:=by
 rw[jF _ _ _ (by simp[h])]
 simp[h]
theorem iR(a b m:L6)(ha:a.length=6)(hb:b.length=6)(hm:m.length=6):PUR 29 [aM (a),aM (b),aM (m)] (aM (iP a b m)):=by
 intro w hw
 refine Hf func29 rfl hw ?_
 intro hGF
 by_cases h0:m.getD 0 0 % 2=0
 ·refine Xp<|Bx 3 hGF rfl<|fun b3=>Bx 4 hGF rfl<|fun b4=>Bx 5 hGF rfl<|fun b5=>Al 6 hGF zv25<|fun b6=>aa<|ah<|Xp<|Ia (0) rfl rfl underlying25 sizeOf24<|Lm 5 U64 0 rfl rfl isAgg24 (by rw[hm];omega)<|Bnr rfl rfl (fun _=>fb _ _ _ dc)<|Bnr (v:=.bool true) rfl rfl (fun w=>(bx _ _ _).trans (congrArg (fun b=>Result.ok (Value.bool b) w) (beq_iff_eq.2 h0)))<|aa<|aR rfl<|Xp<|el zv25 underlying25 sizeOf24 rfl rfl<|Sw 6 hGF rfl rfl rfl ci List.length_replicate<|aa<|am<|Rr<|?_
  exact av 6 rfl rfl rfl isAgg25 sizeOf25 (by rw[List.length_map,List.length_replicate]) (fun w hw=>⟨by rw[iP,if_pos h0];rfl,ac hw⟩)
 cases h1:LT a m 6 with
 |true=>
  refine Xp<|Bx 3 hGF rfl<|fun b3=>Bx 4 hGF rfl<|fun b4=>Bx 5 hGF rfl<|fun b5=>Al 6 hGF zv25<|fun b6=>aa<|ah<|Xp<|Ia (0) rfl rfl underlying25 sizeOf24<|Lm 5 U64 0 rfl rfl isAgg24 (by rw[hm];omega)<|Bnr rfl rfl (fun _=>fb _ _ _ dc)<|Bnr (v:=.bool false) rfl rfl (fun w=>(bx _ _ _).trans (congrArg (fun b=>Result.ok (Value.bool b) w) (beq_eq_false_iff_ne.2 h0)))<|aa<|aC rfl<|aq<|ah<|Xp<|Lw 3 rfl rfl ci ha<|Lw 5 rfl rfl ci hm<|Ca rfl (lY a m ha hm)<|bu (v:=.bool false) rfl (fun _=>(a9 _).trans (by rw[h1];rfl)) rfl rfl<|aa<|aC rfl<|aq<|Xp<|Ia (0) rfl rfl underlying25 sizeOf24<|Lm 5 U64 0 rfl rfl isAgg24 (by rw[hm];omega)<|Ca rfl (nq _)<|bu rfl (fun _=>rV _) rfl rfl<|Asg rfl<|?_
  generalize hcl: -(IV (m.getD 0 0) 5)=cl
  refine aa<|Xp<|Al 9 hGF zv25<|fun b9=>aa<|Xp<|Asg rfl<|aa<|ah<|Xp<|Lw 3 rfl rfl ci ha<|Mv rfl<|aa<|ai<|bL (ι:={i:Nat // i≤6}) (fun x=>[(4,pnt b4),(5,pnt b5),(6,pnt b6),(8,U64 cl),(9,pnt b9),(10,U64 (MO a b m cl x.1).2),(38,aM (a)),(39,I (x.1:Int))]) (fun x=>[(4,b4,b.map U64,25),(5,b5,m.map U64,25),(6,b6,(List.replicate 6 0#64).map U64,25),(9,b9,(MO a b m cl x.1).1.map U64,25)]) (fun x=>6-x.1) ⟨0,om⟩ hGF trv trv<|?_
  rintro ⟨i,hi⟩
  dsimp only
  refine Xp<|Bnr rfl rfl (fun _=>az _ _ _)<|aa<|ah<|?_
  refine bG rfl (fun hc=> ?_) (fun hc=> ?_)
  ·simp only[decide_eq_true_eq]at hc
   refine aq<|ah<|ai<|Xp<|jo U64 0 (i) rfl rfl underlying25 sizeOf24 isAgg24 om om (ha) rfl rfl<|Asg rfl<|aa<|Xp<|Asg rfl<|Asg rfl<|aa<|ah<|Xp<|Lw 4 rfl rfl ci hb<|Mv rfl<|aa<|ai<|bL (ι:={i:Nat // i≤6}) (fun x=>[(4,pnt b4),(5,pnt b5),(6,pnt b6),(8,U64 cl),(9,pnt b9),(10,U64 (MO a b m cl i).2),(38,aM (a)),(39,I (i:Int)),(12,U64 (a.getD i 0)),(13,U64 (MJ (a.getD i 0) b (MO a b m cl i).1 x.1).2),(14,U64 0),(42,aM (b)),(43,I (x.1:Int))]) (fun x=>[(4,b4,b.map U64,25),(5,b5,m.map U64,25),(6,b6,(List.replicate 6 0#64).map U64,25),(9,b9,(MJ (a.getD i 0) b (MO a b m cl i).1 x.1).1.map U64,25)]) (fun x=>6-x.1) ⟨0,om⟩ hGF trv trv<|?_
   rintro ⟨j,hj⟩
   dsimp only
   refine Xp<|Bnr rfl rfl (fun _=>az _ _ _)<|aa<|ah<|?_
   refine bG rfl (fun hc=> ?_) (fun hc=> ?_)
   ·simp only[decide_eq_true_eq]at hc
    refine aq<|ah<|ai<|Xp<|Mv rfl<|jo U64 0 (j) rfl rfl underlying25 sizeOf24 isAgg24 om om (hb) rfl rfl<|Asg rfl<|Asg rfl<|aa<|Xq<|Mv rfl<|Mv rfl<|Mv rfl<|Mv rfl<|Ia (j) rfl rfl underlying25 sizeOf24<|Lm 9 U64 0 rfl rfl isAgg24 (by rw[lq,eO];omega)<|Mv rfl<|Ca rfl (gj _ _ _ _)<|Mv rfl<|Ext rfl rfl<|Ext rfl rfl<|Ia (j) rfl rfl underlying25 sizeOf24<|aV 9 U64 hGF rfl rfl rfl sizeOf24 rfl (by rw[lq,eO];omega) rfl<|Asg rfl<|aa<|Xq<|Bnr rfl rfl (fun _=>au _ _ _ oi)<|Mv rfl<|aa<|?_
    repeat (refine aP ?_)
    exact aD<|⟨rfl,⟨j+1,om⟩,_,by show 6-(j+1)<6-j;omega,rfl,trv,trv⟩
   ·obtain rfl:j=6:=by simp at hc;omega
    generalize hS:MJ (a.getD i 0) b (MO a b m cl i).1 6=S1
    have hSl:S1.1.length=6:=by rw[←hS,lq,eO]
    refine aW<|Xp<|Mv rfl<|Mv rfl<|ba rfl rfl (fun w=>db _ _ _ dc w) rfl rfl<|Mv rfl<|Ext rfl rfl<|Ext rfl rfl<|Asg rfl<|Asg rfl<|aa<|Xp<|Ia (0) rfl rfl underlying25 sizeOf24<|Lm 9 U64 0 rfl rfl isAgg24 (by rw[hSl];omega)<|Mv rfl<|Bnr rfl rfl (fun _=>cr _ _ _)<|Asg rfl<|aa<|Xp<|Mv rfl<|Ia (0) rfl rfl underlying25 sizeOf24<|Lm 5 U64 0 rfl rfl isAgg24 (by rw[hm];omega)<|Ia (0) rfl rfl underlying25 sizeOf24<|Lm 9 U64 0 rfl rfl isAgg24 (by rw[hSl];omega)<|Ca rfl (gj _ _ _ _)<|Mv rfl<|Ext rfl rfl<|Ext rfl rfl<|Asg rfl<|aa<|ah<|Xp<|Asg rfl<|aa<|ai<|bL (ι:={i:Nat // i≤5}) (fun x=>[(4,pnt b4),(5,pnt b5),(6,pnt b6),(8,U64 cl),(9,pnt b9),(10,U64 (ADC (MO a b m cl i).2 S1.2 0).1),(38,aM (a)),(39,I (i:Int)),(14,U64 (ADC (MO a b m cl i).2 S1.2 0).2),(17,U64 (S1.1.getD 0 0*cl)),(13,U64 (MR (S1.1.getD 0 0*cl) m S1.1 x.1).2),(18,I ((x.1+1:Nat):Int))]) (fun x=>[(4,b4,b.map U64,25),(5,b5,m.map U64,25),(6,b6,(List.replicate 6 0#64).map U64,25),(9,b9,(MR (S1.1.getD 0 0*cl) m S1.1 x.1).1.map U64,25)]) (fun x=>5-x.1) ⟨0,om⟩ hGF trv trv<|?_
    rintro ⟨r,hr⟩
    dsimp only
    refine ah<|Xp<|Mv rfl<|Bnr rfl rfl (fun _=>az _ _ _)<|aa<|?_
    refine bG rfl (fun hc=> ?_) (fun hc=> ?_)
    ·simp only[decide_eq_true_eq]at hc
     refine aq<|ah<|ai<|Xe []<|Mv rfl<|Bnr (v:=I (r:Int)) rfl rfl (fun _=>(aX _ _ _ oi).trans (by rw[show (((r+1:Nat):Int)-1)=(r:Int) by omega]))<|Mv rfl<|Mv rfl<|Ia ((r+1)) rfl rfl underlying25 sizeOf24<|Lm 5 U64 0 rfl rfl isAgg24 (by rw[hm];omega)<|Mv rfl<|Ia ((r+1)) rfl rfl underlying25 sizeOf24<|Lm 9 U64 0 rfl rfl isAgg24 (by rw[jz,hSl];omega)<|Mv rfl<|Ca rfl (gj _ _ _ _)<|Mv rfl<|Ext rfl rfl<|Ext rfl rfl<|Ia (r) rfl rfl underlying25 sizeOf24<|aV 9 U64 hGF rfl rfl rfl sizeOf24 rfl (by rw[jz,hSl];omega) rfl<|Asg rfl<|aa<|Xq<|Mv rfl<|Bnr rfl rfl (fun _=>au _ _ _ oi)<|Asg rfl<|aa<|?_
     repeat (refine aP ?_)
     exact aD<|⟨rfl,⟨r+1,om⟩,_,by show 5-(r+1)<5-r;omega,rfl,trv,trv⟩
    ·obtain rfl:r=5:=by simp at hc;omega
     generalize hM:MR (S1.1.getD 0 0*cl) m S1.1 5=R1
     have hRl:R1.1.length=6:=by rw[←hM,jz,hSl]
     refine aW<|Xp<|Mv rfl<|Mv rfl<|ba rfl rfl (fun w=>db _ _ _ dc w) rfl rfl<|Mv rfl<|Ext rfl rfl<|Ext rfl rfl<|Ia (5) rfl rfl underlying25 sizeOf24<|aV 9 U64 hGF rfl rfl rfl sizeOf24 rfl (by rw[hRl];omega) rfl<|Asg rfl<|aa<|Xq<|Mv rfl<|Mv rfl<|Bnr rfl rfl (fun _=>aF _ _ _)<|Asg rfl<|aa<|Xq<|Bnr rfl rfl (fun _=>au _ _ _ oi)<|Mv rfl<|aa<|?_
     repeat (refine aP ?_)
     exact aD<|⟨rfl,⟨i+1,om⟩,_,by show 6-(i+1)<6-i;omega,rfl,⟨rfl,rfl,rfl,rfl,rfl,by rw[pL a b m cl i hS hM];rfl,rfl,rfl,trivial⟩,⟨rfl,rfl,rfl,by rw[pL a b m cl i hS hM];rfl,trivial⟩⟩
  ·obtain rfl:i=6:=by simp at hc;omega
   refine aW<|Xp<|Lw 9 rfl rfl ci (eO _ _ _ _ _)<|Mv rfl<|Lw 5 rfl rfl ci hm<|Ca rfl (r8 _ _ _ (eO _ _ _ _ _) hm)<|Sw 6 hGF rfl rfl rfl ci (kI _ _ _ (eO _ _ _ _ _))<|aa<|am<|Rr<|?_
   exact av 6 rfl rfl rfl isAgg25 sizeOf25 (by rw[List.length_map];exact kI _ _ _ (eO _ _ _ _ _)) (fun w hw=>⟨by rw[iP,if_neg h0,if_pos h1,MN,hcl],ac hw⟩)
 |false=>
  refine Xp<|Bx 3 hGF rfl<|fun b3=>Bx 4 hGF rfl<|fun b4=>Bx 5 hGF rfl<|fun b5=>Al 6 hGF zv25<|fun b6=>aa<|ah<|Xp<|Ia (0) rfl rfl underlying25 sizeOf24<|Lm 5 U64 0 rfl rfl isAgg24 (by rw[hm];omega)<|Bnr rfl rfl (fun _=>fb _ _ _ dc)<|Bnr (v:=.bool false) rfl rfl (fun w=>(bx _ _ _).trans (congrArg (fun b=>Result.ok (Value.bool b) w) (beq_eq_false_iff_ne.2 h0)))<|aa<|aC rfl<|aq<|ah<|Xp<|Lw 3 rfl rfl ci ha<|Lw 5 rfl rfl ci hm<|Ca rfl (lY a m ha hm)<|bu (v:=.bool true) rfl (fun _=>(a9 _).trans (by rw[h1];rfl)) rfl rfl<|aa<|aR rfl<|Xp<|Al 7 hGF zv117<|fun b7=>aa<|Xd []<|bD (l:=0) (h':=12) rfl underlying117 sizeOf24 rfl rfl om om rfl rfl<|bD (l:=0) (h':=6) rfl underlying25 sizeOf24 rfl rfl om om rfl rfl<|Cu (cs:=a.map U64) 7 hGF rfl rfl rfl underlying118 SG (by rw[List.length_map,ha];rfl) (fun w' h j v hv=>by rw[Addr.add_mid];exact aH (n:=3) rfl w' h j v hv) (be _) (by rw[List.length_map,List.length_map,ha];decide) rfl rfl<|?_
  rw[D0 a ha]
  refine aa<|Xq<|bY 7 rfl rfl isAgg117 sizeOf117 (by rw[List.length_map,List.length_append,ha,List.length_replicate]) rfl rfl<|Lw 5 rfl rfl ci hm<|Ca rfl (FD (a++List.replicate 6 0) m (by rw[List.length_append,ha];rfl) hm)<|aw 3 hGF rfl rfl rfl sizeOf25 (by rw[List.length_map,mV _ _]) (by rw[List.length_map,ha]) (be _) rfl<|aa<|Xp<|Ia (0) rfl rfl underlying25 sizeOf24<|Lm 5 U64 0 rfl rfl isAgg24 (by rw[hm];omega)<|Ca rfl (nq _)<|bu rfl (fun _=>rV _) rfl rfl<|Asg rfl<|?_
  generalize hcl: -(IV (m.getD 0 0) 5)=cl
  refine aa<|Xp<|Al 9 hGF zv25<|fun b9=>aa<|Xp<|Asg rfl<|aa<|ah<|Xp<|Lw 3 rfl rfl ci (mV _ _)<|Mv rfl<|aa<|ai<|bL (ι:={i:Nat // i≤6}) (fun x=>[(4,pnt b4),(5,pnt b5),(6,pnt b6),(8,U64 cl),(9,pnt b9),(10,U64 (MO (MOD (a++List.replicate 6 0) m) b m cl x.1).2),(38,aM ((MOD (a++List.replicate 6 0) m))),(39,I (x.1:Int))]) (fun x=>[(4,b4,b.map U64,25),(5,b5,m.map U64,25),(6,b6,(List.replicate 6 0#64).map U64,25),(9,b9,(MO (MOD (a++List.replicate 6 0) m) b m cl x.1).1.map U64,25)]) (fun x=>6-x.1) ⟨0,om⟩ hGF trv trv<|?_
  rintro ⟨i,hi⟩
  dsimp only
  refine Xp<|Bnr rfl rfl (fun _=>az _ _ _)<|aa<|ah<|?_
  refine bG rfl (fun hc=> ?_) (fun hc=> ?_)
  ·simp only[decide_eq_true_eq]at hc
   refine aq<|ah<|ai<|Xp<|jo U64 0 (i) rfl rfl underlying25 sizeOf24 isAgg24 om om (mV _ _) rfl rfl<|Asg rfl<|aa<|Xp<|Asg rfl<|Asg rfl<|aa<|ah<|Xp<|Lw 4 rfl rfl ci hb<|Mv rfl<|aa<|ai<|bL (ι:={i:Nat // i≤6}) (fun x=>[(4,pnt b4),(5,pnt b5),(6,pnt b6),(8,U64 cl),(9,pnt b9),(10,U64 (MO (MOD (a++List.replicate 6 0) m) b m cl i).2),(38,aM ((MOD (a++List.replicate 6 0) m))),(39,I (i:Int)),(12,U64 ((MOD (a++List.replicate 6 0) m).getD i 0)),(13,U64 (MJ ((MOD (a++List.replicate 6 0) m).getD i 0) b (MO (MOD (a++List.replicate 6 0) m) b m cl i).1 x.1).2),(14,U64 0),(42,aM (b)),(43,I (x.1:Int))]) (fun x=>[(4,b4,b.map U64,25),(5,b5,m.map U64,25),(6,b6,(List.replicate 6 0#64).map U64,25),(9,b9,(MJ ((MOD (a++List.replicate 6 0) m).getD i 0) b (MO (MOD (a++List.replicate 6 0) m) b m cl i).1 x.1).1.map U64,25)]) (fun x=>6-x.1) ⟨0,om⟩ hGF trv trv<|?_
   rintro ⟨j,hj⟩
   dsimp only
   refine Xp<|Bnr rfl rfl (fun _=>az _ _ _)<|aa<|ah<|?_
   refine bG rfl (fun hc=> ?_) (fun hc=> ?_)
   ·simp only[decide_eq_true_eq]at hc
    refine aq<|ah<|ai<|Xp<|Mv rfl<|jo U64 0 (j) rfl rfl underlying25 sizeOf24 isAgg24 om om (hb) rfl rfl<|Asg rfl<|Asg rfl<|aa<|Xq<|Mv rfl<|Mv rfl<|Mv rfl<|Mv rfl<|Ia (j) rfl rfl underlying25 sizeOf24<|Lm 9 U64 0 rfl rfl isAgg24 (by rw[lq,eO];omega)<|Mv rfl<|Ca rfl (gj _ _ _ _)<|Mv rfl<|Ext rfl rfl<|Ext rfl rfl<|Ia (j) rfl rfl underlying25 sizeOf24<|aV 9 U64 hGF rfl rfl rfl sizeOf24 rfl (by rw[lq,eO];omega) rfl<|Asg rfl<|aa<|Xq<|Bnr rfl rfl (fun _=>au _ _ _ oi)<|Mv rfl<|aa<|?_
    repeat (refine aP ?_)
    exact aD<|⟨rfl,⟨j+1,om⟩,_,by show 6-(j+1)<6-j;omega,rfl,trv,trv⟩
   ·obtain rfl:j=6:=by simp at hc;omega
    generalize hS:MJ ((MOD (a++List.replicate 6 0) m).getD i 0) b (MO (MOD (a++List.replicate 6 0) m) b m cl i).1 6=S1
    have hSl:S1.1.length=6:=by rw[←hS,lq,eO]
    refine aW<|Xp<|Mv rfl<|Mv rfl<|ba rfl rfl (fun w=>db _ _ _ dc w) rfl rfl<|Mv rfl<|Ext rfl rfl<|Ext rfl rfl<|Asg rfl<|Asg rfl<|aa<|Xp<|Ia (0) rfl rfl underlying25 sizeOf24<|Lm 9 U64 0 rfl rfl isAgg24 (by rw[hSl];omega)<|Mv rfl<|Bnr rfl rfl (fun _=>cr _ _ _)<|Asg rfl<|aa<|Xp<|Mv rfl<|Ia (0) rfl rfl underlying25 sizeOf24<|Lm 5 U64 0 rfl rfl isAgg24 (by rw[hm];omega)<|Ia (0) rfl rfl underlying25 sizeOf24<|Lm 9 U64 0 rfl rfl isAgg24 (by rw[hSl];omega)<|Ca rfl (gj _ _ _ _)<|Mv rfl<|Ext rfl rfl<|Ext rfl rfl<|Asg rfl<|aa<|ah<|Xp<|Asg rfl<|aa<|ai<|bL (ι:={i:Nat // i≤5}) (fun x=>[(4,pnt b4),(5,pnt b5),(6,pnt b6),(8,U64 cl),(9,pnt b9),(10,U64 (ADC (MO (MOD (a++List.replicate 6 0) m) b m cl i).2 S1.2 0).1),(38,aM ((MOD (a++List.replicate 6 0) m))),(39,I (i:Int)),(14,U64 (ADC (MO (MOD (a++List.replicate 6 0) m) b m cl i).2 S1.2 0).2),(17,U64 (S1.1.getD 0 0*cl)),(13,U64 (MR (S1.1.getD 0 0*cl) m S1.1 x.1).2),(18,I ((x.1+1:Nat):Int))]) (fun x=>[(4,b4,b.map U64,25),(5,b5,m.map U64,25),(6,b6,(List.replicate 6 0#64).map U64,25),(9,b9,(MR (S1.1.getD 0 0*cl) m S1.1 x.1).1.map U64,25)]) (fun x=>5-x.1) ⟨0,om⟩ hGF trv trv<|?_
    rintro ⟨r,hr⟩
    dsimp only
    refine ah<|Xp<|Mv rfl<|Bnr rfl rfl (fun _=>az _ _ _)<|aa<|?_
    refine bG rfl (fun hc=> ?_) (fun hc=> ?_)
    ·simp only[decide_eq_true_eq]at hc
     refine aq<|ah<|ai<|Xe []<|Mv rfl<|Bnr (v:=I (r:Int)) rfl rfl (fun _=>(aX _ _ _ oi).trans (by rw[show (((r+1:Nat):Int)-1)=(r:Int) by omega]))<|Mv rfl<|Mv rfl<|Ia ((r+1)) rfl rfl underlying25 sizeOf24<|Lm 5 U64 0 rfl rfl isAgg24 (by rw[hm];omega)<|Mv rfl<|Ia ((r+1)) rfl rfl underlying25 sizeOf24<|Lm 9 U64 0 rfl rfl isAgg24 (by rw[jz,hSl];omega)<|Mv rfl<|Ca rfl (gj _ _ _ _)<|Mv rfl<|Ext rfl rfl<|Ext rfl rfl<|Ia (r) rfl rfl underlying25 sizeOf24<|aV 9 U64 hGF rfl rfl rfl sizeOf24 rfl (by rw[jz,hSl];omega) rfl<|Asg rfl<|aa<|Xq<|Mv rfl<|Bnr rfl rfl (fun _=>au _ _ _ oi)<|Asg rfl<|aa<|?_
     repeat (refine aP ?_)
     exact aD<|⟨rfl,⟨r+1,om⟩,_,by show 5-(r+1)<5-r;omega,rfl,trv,trv⟩
    ·obtain rfl:r=5:=by simp at hc;omega
     generalize hM:MR (S1.1.getD 0 0*cl) m S1.1 5=R1
     have hRl:R1.1.length=6:=by rw[←hM,jz,hSl]
     refine aW<|Xp<|Mv rfl<|Mv rfl<|ba rfl rfl (fun w=>db _ _ _ dc w) rfl rfl<|Mv rfl<|Ext rfl rfl<|Ext rfl rfl<|Ia (5) rfl rfl underlying25 sizeOf24<|aV 9 U64 hGF rfl rfl rfl sizeOf24 rfl (by rw[hRl];omega) rfl<|Asg rfl<|aa<|Xq<|Mv rfl<|Mv rfl<|Bnr rfl rfl (fun _=>aF _ _ _)<|Asg rfl<|aa<|Xq<|Bnr rfl rfl (fun _=>au _ _ _ oi)<|Mv rfl<|aa<|?_
     repeat (refine aP ?_)
     exact aD<|⟨rfl,⟨i+1,om⟩,_,by show 6-(i+1)<6-i;omega,rfl,⟨rfl,rfl,rfl,rfl,rfl,by rw[pL (MOD (a++List.replicate 6 0) m) b m cl i hS hM];rfl,rfl,rfl,trivial⟩,⟨rfl,rfl,rfl,by rw[pL (MOD (a++List.replicate 6 0) m) b m cl i hS hM];rfl,trivial⟩⟩
  ·obtain rfl:i=6:=by simp at hc;omega
   refine aW<|Xp<|Lw 9 rfl rfl ci (eO _ _ _ _ _)<|Mv rfl<|Lw 5 rfl rfl ci hm<|Ca rfl (r8 _ _ _ (eO _ _ _ _ _) hm)<|Sw 6 hGF rfl rfl rfl ci (kI _ _ _ (eO _ _ _ _ _))<|aa<|am<|Rr<|?_
   exact av 6 rfl rfl rfl isAgg25 sizeOf25 (by rw[List.length_map];exact kI _ _ _ (eO _ _ _ _ _)) (fun w hw=>⟨by rw[iP,if_neg h0,if_neg (by rw[h1];decide),MN,hcl],ac hw⟩)
end
section
open Go.RowKit
attribute [local simp] a7 bv aJ aB aQ a5 aT aK aO
abbrev EV(x:Zp):Value:=aM (fe x)
abbrev NV(n:L6):Value:=aM n
theorem zv52(w:World):(zeroValue 52).run prog w=.ok (aM (List.replicate 6 (0#64))) w:=(zeroValue52 w).trans rr
theorem GS(op:BinOp)(x y:Operand)(xs ys:Array Value)(w:World):(eqGuard op 25 x y (.agg xs) (.agg ys)).run prog w=.ok () w:=run_eqGuard_agg w op 25 x y xs ys kr
theorem Jz(xs ys:L6)(h:xs.length=6)(h':ys.length=6)(w:World):(binOp .eql 25 (aM xs) (aM ys)).run prog w=.ok (.bool (decide (xs=ys))) w:=ql underlying25 underlying24 sizeOf24 isAgg24 xs ys h h' w
theorem gN(x y:Zp):decide (fe x=fe y)=decide (x=y):=decide_eq_decide.2 pT
theorem N0{x y:BitVec 64}(h:(x==y)=true):x=y:=beq_iff_eq.1 h
theorem Ps{x y:BitVec 64}(h:(x==y)=false): ¬x=y:=beq_eq_false_iff_ne.1 h
theorem ent120:ak prog 120:=fun _ _=>kr
theorem ent74:ak prog 74:=fun _ _=>kr
theorem ent241:ak prog 241:=fun _ _=>kr
theorem ent188:ak prog 188:=fun _ _=>kr
theorem ent53:ak prog 53:=fun _ _=>kr
theorem ent179:ak prog 179:=fun _ _=>kr
theorem ent169:ak prog 169:=fun _ _=>kr
theorem ent153:ak prog 153:=fun _ _=>kr
theorem ent117:ak prog 117:=fun _ _=>kr
theorem ent116:ak prog 116:=fun _ _=>kr
theorem ent115:ak prog 115:=fun _ _=>kr
theorem ent204:ak prog 204:=fun _ _=>kr
theorem ent237:ak prog 237:=fun _ _=>kr
theorem ent152:ak prog 152:=fun _ _=>kr
theorem ent271:ak prog 271:=fun _ _=>kr
theorem ent73:ak prog 73:=fun _ _=>kr
theorem iT(x y:Zp):PUR 117 [EV x,EV y] (EV (x*y)):=by
 intro w hw
 refine Hf func117 rfl hw<|fun hGF=>Xp<|Bx 2 hGF rfl<|fun b2=>Bx 3 hGF rfl<|fun b3=>Al 4 hGF zv52<|fun b4=>aa<|Xp<|Fa 0 rfl underlying52 rfl sizeOf25<|La 2 rfl rfl ci<|Fa 0 rfl underlying52 rfl sizeOf25<|La 3 rfl rfl ci<|h9 hGF isAgg25 sizeOf25 sm (fun _ h=>h.g3) rfl rfl<|Ca rfl (iR _ _ _ sm sm sm)<|ck rfl sm underlying52 rfl sizeOf25 zv52 rfl rfl<|Sa 4 hGF rfl rfl rfl bJ<|aa<|am<|Rr<|?_
 exact av 4 rfl rfl rfl isAgg52 sizeOf52 sm (fun w hw=>⟨by rw[Nx],ac hw⟩)
theorem mu(n:L6)(hn:n.length=6):PUR 119 [NV n] (EV (zp (V n 6))):=by
 intro w hw
 refine Hf func119 rfl hw<|fun hGF=>Xp<|Bx 1 hGF rfl<|fun b1=>Al 2 hGF zv52<|fun b2=>aa<|Xp<|h9 hGF isAgg25 sizeOf25 (by first|(simp;done)|simp[hn]) (fun _ h=>h.g5) rfl rfl<|bY 1 rfl rfl isAgg25 sizeOf25 (by first|(simp;done)|simp[hn]) rfl rfl<|h9 hGF isAgg25 sizeOf25 (by first|(simp;done)|simp[hn]) (fun _ h=>h.g3) rfl rfl<|Ca rfl (iR _ _ _ (by first|(simp;done)|simp[hn]) (by first|(simp;done)|simp[hn]) (by first|(simp;done)|simp[hn]))<|ck rfl (by first|(simp;done)|simp[hn]) underlying52 rfl sizeOf25 zv52 rfl rfl<|aw 2 hGF rfl rfl rfl sizeOf52 (by first|(simp;done)|simp[hn]) (by first|(simp;done)|simp[hn]) (be _) rfl<|aa<|am<|Rr<|?_
 exact av 2 rfl rfl rfl isAgg52 sizeOf52 (by first|(simp;done)|simp[hn]) (fun w hw=>⟨by rw[Gg],ac hw⟩)
theorem kE(x:Zp):PUR 118 [EV x] (NV (nm x)):=by
 intro w hw
 refine Hf func118 rfl hw<|fun hGF=>Xp<|Bx 1 hGF rfl<|fun b1=>Al 2 hGF zv25<|fun b2=>aa<|Xp<|Fa 0 rfl underlying52 rfl sizeOf25<|La 1 rfl rfl ci<|eK 1 rfl underlying25 sizeOf24 zv25 rfl rfl<|h9 hGF isAgg25 sizeOf25 sm (fun _ h=>h.g3) rfl rfl<|Ca rfl (iR _ _ _ sm sm sm)<|Sa 2 hGF rfl rfl rfl ci<|aa<|am<|Rr<|?_
 exact av 2 rfl rfl rfl isAgg25 sizeOf25 sm (fun w hw=>⟨by rw[←HS];rfl,ac hw⟩)
theorem Da(n:BitVec 64): ∀k,V (n::List.replicate 5 0) (k+1)=n.toNat
 |0=>by rw[rR,V,Nat.mul_zero,Nat.pow_zero,Nat.mul_one,Nat.zero_add];rfl
 |k+1=>by
  have h0:(n::List.replicate 5 (0:BitVec 64)).getD (k+1) 0=0:=by
   rw[List.getD_eq_getElem?_getD,List.getElem?_cons_succ,List.getElem?_replicate]
   split<;>rfl
  rw[rR,Da n k,h0,show (0:BitVec 64).toNat=0 from rfl,Nat.zero_mul,Nat.add_zero]
theorem pz(n:BitVec 64):V (n::List.replicate 5 0) 6=n.toNat:=Da n 5
theorem fk(n:BitVec 64):PUR 120 [U64 n] (EV (zp n.toNat)):=by
 intro w hw
 refine Hf func120 rfl hw<|fun hGF=>Xp<|Al 2 hGF zv52<|fun b2=>aa<|Xp<|Mv rfl<|eK n rfl underlying25 sizeOf24 zv25 rfl rfl<|Ca rfl (mu _ sm)<|Sa 2 hGF rfl rfl rfl bJ<|aa<|am<|Rr<|?_
 exact av 2 rfl rfl rfl isAgg52 sizeOf52 sm (fun w hw=>⟨by rw[pz],ac hw⟩)
theorem oC(x y:Zp):PUR 188 [EV x,EV y] (.bool (decide (x=y))):=by
 intro w hw
 refine Hf func188 rfl hw<|fun hGF=>Xp<|Bx 2 hGF rfl<|fun b2=>Bx 3 hGF rfl<|fun b3=>Asg rfl<|aa<|Xp<|Fa 0 rfl underlying52 rfl sizeOf25<|La 2 rfl rfl ci<|Fa 0 rfl underlying52 rfl sizeOf25<|La 3 rfl rfl ci<|cy rfl rfl (fun _=>GS _ _ _ _ _ _) (fun w=>Jz _ _ sm sm w) rfl rfl<|Asg rfl<|aa<|am<|Rr<|?_
 exact aG rfl rfl (fun w hw=>⟨by rw[gN],ac hw⟩)
theorem tP(x:Zp):PUR 53 [EV x] (.bool (decide (x=0))):=by
 intro w hw
 refine Hf func53 rfl hw<|fun hGF=>Xp<|Bx 1 hGF rfl<|fun b1=>Asg rfl<|aa<|Xp<|Fa 0 rfl underlying52 rfl sizeOf25<|La 1 rfl rfl ci<|el zv25 underlying25 sizeOf24 rfl rfl<|cy rfl rfl (fun _=>GS _ _ _ _ _ _) (fun w=>Jz _ _ sm sm w) rfl rfl<|Asg rfl<|aa<|am<|Rr<|?_
 exact aG rfl rfl (fun w hw=>⟨by rw[←jw,gN],ac hw⟩)
theorem tg(x y:Zp):PUR 179 [EV x,EV y] (EV (x+y)):=by
 intro w hw
 refine Hf func179 rfl hw<|fun hGF=>Xp<|Bx 2 hGF rfl<|fun b2=>Bx 3 hGF rfl<|fun b3=>Al 4 hGF zv52<|fun b4=>aa<|Xp<|Fa 0 rfl underlying52 rfl sizeOf25<|La 2 rfl rfl ci<|Fa 0 rfl underlying52 rfl sizeOf25<|La 3 rfl rfl ci<|Ca rfl (nG _ _ sm sm)<|Mv rfl<|Ext rfl rfl<|Ext rfl rfl<|Al 5 hGF zv25<|fun b5=>Sa 5 hGF rfl rfl rfl ci<|Asg rfl<|aa<|Xp<|La 5 rfl rfl ci<|h9 hGF isAgg25 sizeOf25 sm (fun _ h=>h.g3) rfl rfl<|Ca rfl (jY _ _ sm sm)<|Mv rfl<|Ext rfl rfl<|Ext rfl rfl<|Al 7 hGF zv25<|fun b7=>Sa 7 hGF rfl rfl rfl ci<|Asg rfl<|aa<|ah<|Xp<|Mv rfl<|Bnr rfl rfl (fun _=>bx _ _ _)<|aa<|?_
 refine bG rfl (fun hc=> ?_) (fun hc=> ?_)
 ·refine Xp<|La 5 rfl rfl ci<|ck rfl sm underlying52 rfl sizeOf25 zv52 rfl rfl<|Sa 4 hGF rfl rfl rfl bJ<|aa<|am<|Rr<|?_
  exact av 4 rfl rfl rfl isAgg52 sizeOf52 sm (fun w hw=>⟨by rw[Cp (E6 (N0 hc))],ac hw⟩)
 ·refine aq<|Xp<|La 7 rfl rfl ci<|ck rfl sm underlying52 rfl sizeOf25 zv52 rfl rfl<|Sa 4 hGF rfl rfl rfl bJ<|aa<|am<|Rr<|?_
  exact av 4 rfl rfl rfl isAgg52 sizeOf52 sm (fun w hw=>⟨by rw[yc (uv (o4 _ _ _) (Ps hc))],ac hw⟩)
theorem nY(x y:Zp):PUR 169 [EV x,EV y] (EV (x-y)):=by
 intro w hw
 refine Hf func169 rfl hw<|fun hGF=>Xp<|Bx 2 hGF rfl<|fun b2=>Bx 3 hGF rfl<|fun b3=>Al 4 hGF zv52<|fun b4=>aa<|Xp<|Fa 0 rfl underlying52 rfl sizeOf25<|La 2 rfl rfl ci<|Fa 0 rfl underlying52 rfl sizeOf25<|La 3 rfl rfl ci<|Ca rfl (jY _ _ sm sm)<|Mv rfl<|Ext rfl rfl<|Ext rfl rfl<|Al 5 hGF zv25<|fun b5=>Sa 5 hGF rfl rfl rfl ci<|Asg rfl<|aa<|ah<|Xp<|Mv rfl<|Bnr rfl rfl (fun _=>bx _ _ _)<|aa<|?_
 refine bG rfl (fun hc=> ?_) (fun hc=> ?_)
 ·refine Xq<|La 5 rfl rfl ci<|h9 hGF isAgg25 sizeOf25 sm (fun _ h=>h.g3) rfl rfl<|Ca rfl (nG _ _ sm sm)<|Mv rfl<|Ext rfl rfl<|Ext rfl rfl<|Sa 5 hGF rfl rfl rfl ci<|aa<|Xp<|La 5 rfl rfl ci<|ck rfl sm underlying52 rfl sizeOf25 zv52 rfl rfl<|Sa 4 hGF rfl rfl rfl bJ<|aa<|am<|Rr<|?_
  exact av 4 rfl rfl rfl isAgg52 sizeOf52 sm (fun w hw=>⟨by rw[Cw (N0 hc)],ac hw⟩)
 ·refine aq<|Xp<|La 5 rfl rfl ci<|ck rfl sm underlying52 rfl sizeOf25 zv52 rfl rfl<|Sa 4 hGF rfl rfl rfl bJ<|aa<|am<|Rr<|?_
  exact av 4 rfl rfl rfl isAgg52 sizeOf52 sm (fun w hw=>⟨by rw[wp (uv (o4 _ _ _) (Ps hc))],ac hw⟩)
theorem eo(x:Zp):PUR 153 [EV x] (EV (-x)):=by
 intro w hw
 refine Hf func153 rfl hw<|fun hGF=>Xp<|Bx 1 hGF rfl<|fun b1=>Al 2 hGF zv52<|fun b2=>aa<|Xp<|eM zv52 underlying52 (mx sizeOf25) rfl rfl<|La 1 rfl rfl bJ<|Ca rfl ((show PUR 169 [NV (List.replicate 6 0#64),EV x] (EV (0-x)) by rw[←jw];exact nY 0 x))<|Sa 2 hGF rfl rfl rfl bJ<|aa<|am<|Rr<|?_
 exact av 2 rfl rfl rfl isAgg52 sizeOf52 sm (fun w hw=>⟨by rw[show (0:Zp)-x= -x by grind],ac hw⟩)
theorem kk(x:Zp):PUR 116 [EV x] (EV (x*x)):=by
 intro w hw
 refine Hf func116 rfl hw<|fun hGF=>Xp<|Bx 1 hGF rfl<|fun b1=>Al 2 hGF zv52<|fun b2=>aa<|Xp<|La 1 rfl rfl bJ<|La 1 rfl rfl bJ<|Ca rfl (iT _ _)<|Sa 2 hGF rfl rfl rfl bJ<|aa<|am<|Rr<|?_
 exact av 2 rfl rfl rfl isAgg52 sizeOf52 sm (fun w hw=>⟨rfl,ac hw⟩)
theorem ee(x:Zp):PUR 71 [EV x] (.agg ((ch x).map U8).toArray):=by
 intro w hw
 refine Hf func71 rfl hw<|fun hGF=>Xp<|Bx 1 hGF rfl<|fun b1=>Al 2 hGF zv29<|fun b2=>aa<|Xp<|La 1 rfl rfl bJ<|Ca rfl (kE _)<|Ca rfl (kj _ sm)<|aw 2 hGF rfl rfl rfl sizeOf29 sm sm (bH _) rfl<|aa<|am<|Rr<|?_
 exact av 2 rfl rfl rfl isAgg29 sizeOf29 sm (fun w hw=>⟨rfl,ac hw⟩)
end
section
open Go.RowKit
theorem ent263:ak prog 263:=fun _ _=>kr
attribute [local simp] a7 bv aJ aB aQ a5 aT aK aO bf bC
theorem zv269(w:World):(zeroValue 269).run prog w=.ok (aM (FL (fun _=>List.replicate 6 0#64) 16)) w:=(zeroValue269 w).trans rr
theorem sU:PUR 120 [U64 1#64] (EV 1):=fk 1#64
theorem v7(x:Zp):PUR 236 [EV x] (aM (SP x 16)):=by
 intro w hw
 refine Hf func236 rfl hw<|fun hGF=>Xp<|Bx 1 hGF rfl<|fun b1=>Al 2 hGF zv269<|fun b2=>aa<|Xp<|Ca rfl (sU)<|EK rfl sm dc underlying269 sizeOf52 zv269 rfl rfl<|Al 3 hGF zv269<|fun b3=>Sa 3 hGF rfl rfl rfl BW<|aa<|ah<|Xp<|Asg rfl<|aa<|ai<|bL (ι:={i:Nat // 1≤i∧i≤16}) (fun y=>[(1,pnt b1),(2,pnt b2),(3,pnt b3),(4,I (y.1:Int))]) (fun y=>[(1,b1,(fe x).map U64,52),(2,b2,(FL (fun _=>List.replicate 6 0#64) 16).map U64,269),(3,b3,(SP x y.1).map U64,269)]) (fun y=>16-y.1) ⟨1,om⟩ hGF trv ⟨rfl,rfl,by rw[←Ti];rfl,trivial⟩<|?_
 rintro ⟨i,hi⟩
 dsimp only
 refine ah<|Xp<|Mv rfl<|Bnr rfl rfl (fun _=>az _ _ _)<|aa<|?_
 refine bG rfl (fun hc=> ?_) (fun hc=> ?_)
 ·simp only[decide_eq_true_eq]at hc
  refine aq<|ah<|ai<|Xe []<|Mv rfl<|Mv rfl<|Bnr rfl rfl (fun _=>aX _ _ _ oi)<|fK (i-1) (6*(i-1)) rfl rfl underlying269 sizeOf52 om om om rfl rfl<|ay 3 ((fe (x^(i-1))).map U64) rfl rfl isAgg52 sizeOf52 sm (ue x i (i-1) om om _ rfl) rfl rfl<|La 1 rfl rfl bJ<|Ca rfl (iT _ _)<|fK (i) (6*(i)) rfl rfl underlying269 sizeOf52 om om om rfl rfl<|lQ 3 ((SP x (i+1)).map U64) hGF rfl rfl rfl sizeOf52 sm (be _) (by rw[List.length_map,List.length_map,a7,bC];omega) (LP x i om om _ rfl) rfl<|aa<|Xq<|Mv rfl<|Bnr rfl rfl (fun _=>au _ _ _ oi)<|Asg rfl<|aa<|?_
  repeat (refine aP ?_)
  exact aD<|⟨rfl,⟨i+1,om⟩,_,by show 16-(i+1)<16-i;omega,rfl,trv,trv⟩
 ·obtain rfl:i=16:=by simp at hc;omega
  refine aW<|Xp<|La 3 rfl rfl BW<|Sa 2 hGF rfl rfl rfl BW<|aa<|am<|Rr<|?_
  exact av 2 rfl rfl rfl isAgg269 sizeOf269 sm (fun w hw=>⟨rfl,ac hw⟩)
def RdD(bb:Nat)(e:Option Addr)(cap:Nat)(bs:L8):Cls:=fun W=>W.cell? ⟨bb,0,none⟩=some (.slice e bs.length cap)∧BytesAt W e bs
def NB(bs:L8):List (List Value):=(List.range (2*bs.length)).map fun m=>[U8 (NBv bs m)]
theorem yP(bs:L8):(NB bs).length=2*bs.length:=by simp[NB]
theorem zQ(bs:L8)(m:Nat)(h:m<2*bs.length):(NB bs)[m]? =some [U8 (NBv bs m)]:=by
 rw[NB,List.getElem?_map,List.getElem?_range h];rfl
theorem W7(bs:L8)(m:Nat)(x:List Value)(h:(NB bs)[m]? =some x):m<2*bs.length∧x=[U8 (NBv bs m)]:=by
 have hm:m<2*bs.length:=by
  rcases Nat.lt_or_ge m (2*bs.length)with h'|h'
  ·exact h'
  ·rw[List.getElem?_eq_none (by rw[yP];exact h')]at h;cases h
 rw[zQ bs m hm]at h
 exact ⟨hm,(Option.some.inj h).symm⟩
theorem YH(bs:L8)(i:Nat)(h:i<bs.length):(NB bs)[2*i]? =some [U8 (bs.getD i 0>>>4)]:=by
 rw[zQ bs _ om,NBv,if_pos om,show 2*i / 2=i by omega]
theorem Wq(bs:L8)(i:Nat)(h:i<bs.length):(NB bs)[2*i+1]? =some [U8 (bs.getD i 0 % 16#8)]:=by
 rw[zQ bs _ om,NBv,if_neg om,show (2*i+1) / 2=i by omega]
theorem sF(sv:Value)(hs:sv.cells= #[sv])(w:World)(hw:Gt w):CLS 237 [sv].toArray w (fun e w'=> ∃b1,e=.returned (.func (.func 263) #[] #[pnt b1])∧Grow w w'∧w.heap.size≤b1∧OwnB w' b1 [sv] 22):=by
 refine Hf func237 rfl hw<|fun hGF=>Xp<|i9 1 hGF rfl rfl rfl<|fun b1=>Asg rfl<|aa<|Xp<|gz rfl rfl rfl rfl<|Asg rfl<|aa<|am<|Rr<|?_
 exact aG rfl rfl (fun w hw=>⟨b1,rfl,ac hw,(hw.own 1 b1 _ _ rfl).2.elim id False.elim,(by have:=(hw.own 1 b1 _ _ rfl).1;rw[hs]at this;exact this)⟩)
theorem xS(bb:Nat)(e:Option Addr)(cap:Nat)(bs:L8)(hlen:bs.length≤1000000):fV prog Gt 263 [pnt bb] (NB bs) (RdD bb e cap bs):=by
 intro l J Jx hJ hJx hRd hGx hY w hj
 have okJ: ∀k,BOk Gt (Bi w (fun Y=>J Y k)):=fun k=>⟨fun _ _ _ h=>(hRd _ _ _ h.rid).1,hJ k⟩
 have okX: ∀k,BOk Gt (Bi w (fun Y=>Jx Y k)):=fun k=>⟨fun _ _ _ h=>hGx _ _ _ h.rid,hJx k⟩
 have c1: ∀k L w',Hp (Bi w (fun Y=>J Y k)) L w'→RdD bb e cap bs w':=fun k L w' h=>(hRd _ _ _ h.rid).2
 have hby:=(hRd _ _ _ hj).2.2
 refine cx (G:=Gt) func263 rfl rfl (Hp (Bi w (fun Y=>J Y 0)) []) (cm (Bi w _) hj (hJ 0)) (aA (okJ 0))<|Xp<|bT rfl isAgg22 (fun w h=>(c1 _ _ w h).1) rfl rfl<|bi rfl (fun _=>aI underlying22 _ _ _ _) rfl rfl<|Mv rfl<|aa<|ai<|gQ (ι:={i:Nat // i≤bs.length}) (fun x=>[(0,.func (.yield l) #[] #[]),(1,pnt bb),(5,.slice e bs.length cap),(6,I (bs.length:Int)),(7,I (x.1:Int))]) (fun x=>Bi w (fun Y=>J Y (2*x.1))) (fun x=>[]) (fun x=>bs.length-x.1) ⟨0,Nat.zero_le _⟩ (fun _=>okJ _) rfl trv trivial<|?_
 rintro ⟨i,hi⟩
 dsimp only
 refine Xp<|Bnr rfl rfl (fun _=>az _ _ _)<|aa<|ah<|?_
 refine bG rfl (fun hc=> ?_) (fun hc=> ?_)
 ·simp only[decide_eq_true_eq]at hc
  have hi2:i<bs.length:=om
  refine aq<|ah<|ai<|Xp<|?_
  obtain ⟨ad,rfl,_⟩:=hby i _ (gm U8 bs 0 i om)
  refine gY i rfl rfl underlying22 sizeOf5 rfl om rfl rfl<|bT rfl isAgg5 (fun w' h=>by obtain ⟨ad',e',hc'⟩:=(c1 _ _ w' h).2 i _ (gm U8 bs 0 i om);cases e';exact hc') rfl rfl<|Asg rfl<|aa<|Ez (E:=EE []) 4<|Mv rfl<|Mv rfl<|Bnr (v:=U8 (bs.getD i 0>>>4)) rfl rfl (fun _=>zv _ _ 4#64)<|?_
  refine dC (hY.b (k:=2*i) (YH bs i om) w) (okJ _) (okX _) rfl rfl rfl rfl rfl ?_ ?_
  ·refine aa ?_
   refine ⟨EE [], ?_⟩
   refine bu rfl (fun _=>a9 _) rfl rfl<|Mv rfl<|Mv rfl<|Mv rfl<|Bnr (v:=U8 (bs.getD i 0 % 16#8)) rfl rfl (fun _=>Aw _ _ 16#8 dc)<|?_
   refine dC (hY.b (k:=2*i+1) (Wq bs i om) w) (okJ _) (okX _) rfl rfl rfl rfl rfl ?_ ?_
   ·refine bu rfl (fun _=>a9 _) rfl rfl<|Pk rfl rfl rfl<|aa<|aC rfl<|aq<|Xq<|Bnr rfl rfl (fun _=>au _ _ _ oi)<|Mv rfl<|aa<|?_
    rw[show 2*i+1+1=2*(i+1) by omega]
    repeat (refine aP ?_)
    exact aD<|⟨rfl,⟨i+1,om⟩,_,by show bs.length-(i+1)<bs.length-i;omega,rfl,trv,trivial⟩
   ·refine bu rfl (fun _=>a9 _) rfl rfl<|Pk rfl rfl rfl<|aa<|aR rfl<|am<|Rr<|?_
    repeat (first|refine dH ?_|refine cq ?_|refine dS rfl ?_|refine bP ?_|refine bR ?_)
    exact dv rfl (fun w hw=>⟨⟨_,rfl⟩,.inr ⟨_,cg (hJx _) hw.rid⟩⟩)
  ·refine aa ?_
   refine ⟨EE [3000000], ?_⟩
   refine bu rfl (fun _=>a9 _) rfl rfl<|Mv rfl<|Sk<|Sk<|Sk<|Sk<|Sk<|Pk rfl rfl rfl<|aa<|aR rfl<|am<|Rr<|?_
   repeat (first|refine dH ?_|refine cq ?_|refine dS rfl ?_|refine bP ?_|refine bR ?_)
   exact dv rfl (fun w hw=>⟨⟨_,rfl⟩,.inr ⟨_,cg (hJx _) hw.rid⟩⟩)
 ·simp only[decide_eq_false_iff_not]at hc
  obtain rfl:i=bs.length:=om
  refine aW ?_
  repeat (first|refine dH ?_|refine cq ?_|refine dS rfl ?_|refine bP ?_|refine bR ?_)
  refine cQ rfl (fun w hw=>⟨⟨_,rfl⟩,.inl ?_⟩)
  have:=cg (hJ _) hw.rid
  rw[yP]
  exact this
end
section
open Go.RowKit
attribute [local simp] a7 bv aJ aB aQ a5 aT aK aO bf bC
theorem AK(x:Zp)(e:Option Addr)(cap:Nat)(bs:L8)(hlen:bs.length≤1000000)(w:World)(hw:Gt w)(hby:BytesAt w e bs):
 CLS 204 [EV x,.slice e bs.length cap].toArray w (fun r w'=>r=.returned (EV (x^BN bs bs.length))∧Grow w w'):=by
 have hGF:BOk Gt (pl w):=gt_low.plain hw
 refine cz (G:=Gt) func204 rfl rfl (Hp (pl w) []) (cm (pl w) trivial ao) (aA hGF)<|ae (E:=EE [237])<|Bx 2 hGF rfl<|fun b2=>Al 4 hGF zv52<|fun b4=>aa<|ae (E:=EE [237])<|La 2 rfl rfl bJ<|Ca rfl (v7 _)<|Al 5 hGF zv269<|fun b5=>Sa 5 hGF rfl rfl rfl BW<|aa<|ae (E:=EE [237])<|fK 0 0 rfl rfl underlying269 sizeOf52 rfl dc rfl rfl rfl<|ay 5 ((fe (x^0)).map U64) rfl rfl isAgg52 sizeOf52 sm (ue x 16 0 dc dc 0 rfl) rfl rfl<|Al 6 hGF zv52<|fun b6=>Sa 6 hGF rfl rfl rfl bJ<|aa<|ah<|ae (E:=EE [237])<|Mv rfl<|?_
 refine dz rfl rfl ent237 rfl rfl (fun w' hw'=>(sF _ rfl w' (hGF.g _ _ _ hw')).mono fun e' w'' h=> ?_)
 obtain ⟨c1,rfl,hg,h1,ho⟩:=h
 refine ⟨_,_,rfl,aA hGF,hw'.news ao hg [(33,c1,[.slice e bs.length cap],22)] ?_ bX, ?_⟩
 ·intro n' b' c' t' hl
  rcases aL hl with ⟨_,e⟩|⟨_,hl⟩
  ·cases e;exact ⟨h1,ho⟩
  ·cases hl
 clear hw' hg h1 ho
 refine aa<|ai<|?_
 refine ft (fun _=>pl w) (fun _ _=>pl w) (fun _=>hGF) (fun _ _=>hGF) (fun _=>rfl) (fun _ _=>rfl) rfl rfl ent263 (xS c1 e cap bs hlen) (fun x hx=>by obtain ⟨k,hk,rfl⟩:=List.mem_map.1 hx;rfl) rfl (fun k=>[(2,b2,(fe x).map U64,52),(4,b4,(List.replicate 6 0#64).map U64,52),(5,b5,(SP x 16).map U64,269),(6,b6,(fe (x^DN bs k)).map U64,52),(33,c1,[.slice e bs.length cap],22)]) (fun _ _ _=>False) ⟨rfl,rfl,rfl,by rw[DN];rfl,rfl,trivial⟩ (fun k _ w' h=>⟨cB (n:=33) rfl rfl w' h,hby.grow (h.below (fun _ h=>h))⟩) ?_ ?_ (fun _ _ _ _ _ h=>h.elim)
 ·intro k v hx R hR
  obtain ⟨hk,rfl⟩:=W7 bs k v hx
  have hlt:=QC bs k
  refine bN (E:=EE [237])<|Asg rfl<|aa<|?_
  refine ⟨rfl,_,rfl, ?_⟩
  refine ai<|ah<|ae (E:=EE [237])<|Mv rfl<|aa<|ai<|bL (ι:={i:Nat // i≤4}) (fun j=>[(5,pnt b5),(6,pnt b6),(7,U8 (NBv bs k)),(15,I (j.1:Int))]) (fun j=>[(2,b2,(fe x).map U64,52),(4,b4,(List.replicate 6 0#64).map U64,52),(5,b5,(SP x 16).map U64,269),(6,b6,(fe (x^(2^j.1*DN bs k))).map U64,52),(33,c1,[.slice e bs.length cap],22)]) (fun j=>4-j.1) ⟨0,om⟩ (hR (pl w) rfl hGF).2.1 trv ⟨rfl,rfl,rfl,by rw[Nat.pow_zero,Nat.one_mul];rfl,rfl,trivial⟩<|?_
  rintro ⟨j,hj⟩
  dsimp only
  refine ae (E:=EE [237])<|Bnr rfl rfl (fun _=>az _ _ _)<|aa<|ah<|?_
  refine bG rfl (fun hc=> ?_) (fun hc=> ?_)
  ·simp only[decide_eq_true_eq]at hc
   refine aq<|ah<|ai<|bN (E:=EE [237])<|La 6 rfl rfl bJ<|Ca rfl (kk _)<|aw 6 (hR (pl w) rfl hGF).2.1 rfl rfl rfl sizeOf52 sm sm (be _) rfl<|aa<|bN (E:=EE [237])<|Bnr rfl rfl (fun _=>au _ _ _ oi)<|Mv rfl<|aa<|?_
   repeat (refine aP ?_)
   exact aD<|⟨rfl,⟨j+1,om⟩,_,by show 4-(j+1)<4-j;omega,rfl,trv,⟨rfl,rfl,rfl,by rw[←LH];rfl,rfl,trivial⟩⟩
  ·obtain rfl:j=4:=by simp at hc;omega
   refine aW<|Xe [237]<|La 6 rfl rfl bJ<|Mv rfl<|LW (6*(NBv bs k).toNat) rfl rfl underlying269 sizeOf52 hlt om rfl rfl<|ay 5 ((fe (x^(NBv bs k).toNat)).map U64) rfl rfl isAgg52 sizeOf52 sm (ue x 16 _ hlt (Nat.le_refl _) _ rfl) rfl rfl<|Ca rfl (H8 x bs k▸iT (x^(2^4*DN bs k)) (x^(NBv bs k).toNat))<|aw 6 (hR (pl w) rfl hGF).2.1 rfl rfl rfl sizeOf52 sm sm (be _) rfl<|aa<|?_
   repeat (refine aP ?_)
   exact ⟨_,rfl,trv⟩
 ·intro D hD
  rw[yP,Hy]
  refine ae (E:=EE [237])<|La 6 rfl rfl bJ<|Sa 4 hD rfl rfl rfl bJ<|aa<|am<|Rr<|?_
  exact d9 (.inl rfl) ao (av 4 rfl rfl rfl isAgg52 sizeOf52 sm (fun w hw=>⟨rfl,ac hw⟩))
end
section
theorem B8(l:L6):(l.getD 0 0).toNat % 2=V l 6 % 2:=by
 have h:=P0 l 6 0 dc
 rw[Nat.testBit_zero,Nat.zero_div,Nat.zero_mod,BitVec.getLsbD,Nat.testBit_zero]at h
 have h':=decide_eq_decide.1 h
 omega
theorem Te(x:Zp):((nm x).getD 0 0 % 2#64==1#64)=decide (x.val % 2=1):=by
 have h:=B8 (nm x)
 rw[vM]at h
 rw[←h]
 by_cases e:(nm x).getD 0 0 % 2#64=1#64
 ·have:=congrArg BitVec.toNat e
  rw[BitVec.toNat_umod]at this
  rw[beq_iff_eq.2 e,decide_eq_true]
  exact this
 ·rw[beq_eq_false_iff_ne.2 e,decide_eq_false]
  intro h'
  apply e
  apply BitVec.eq_of_toNat_eq
  rw[BitVec.toNat_umod]
  exact h'
theorem Mw(x:Zp):decide ((nm x).getD 0 0 &&& 1#64=1#64)=decide (x.val % 2=1):=by
 have h:=B8 (nm x)
 rw[vM]at h
 rw[←h]
 apply decide_eq_decide.2
 constructor
 ·intro e
  have:=congrArg BitVec.toNat e
  rw[BitVec.toNat_and,show (1#64).toNat=1 from rfl,Nat.and_one_is_mod]at this
  exact this
 ·intro e
  apply BitVec.eq_of_toNat_eq
  rw[BitVec.toNat_and,show (1#64).toNat=1 from rfl,Nat.and_one_is_mod]
  exact e
def hf:Nat:=(PP-1) / 2
def rg:Nat:=(PP+1) / 4
theorem vQ:PP % 4=3:=by decide+kernel
theorem mw:1000<PP:=by decide+kernel
theorem mO:2*hf+1=PP:=by have:=vQ;unfold hf;omega
theorem TN:4*rg=PP+1:=by have:=vQ;unfold rg;omega
theorem TV:hf % 2=1:=by have:=vQ;have:=mO;omega
theorem ZJ:2*rg=hf+1:=by have:=TN;have:=mO;omega
theorem HL(x:Zp):LT HFP (nm x) 6=decide (hf<x.val):=by rw[qc,vM,Nn];rfl
theorem TZ: ∃n,hf=n+1:=⟨hf-1,by have:=mO;have:=mw;omega⟩
def SQr(x:Zp):Zp:=x^rg
def SQn(x:Zp):Zp:=if hf<(SQr x).val then-(SQr x)else SQr x
def SQ(x:Zp):Zp:=if SQr x*SQr x=x then SQn x else 0
def FO(bs:L8):Bool:=decide (bs.length=48∧BN bs 48<PP)
def FV(bs:L8):Zp:=if bs.length=48∧BN bs 48<PP then zp (BN bs 48)else 0
def ZB(bs:L8):Zp:=zp (BN bs bs.length)
theorem Mj{k:Nat}(h:R6=2^k)(hk:k=8*48):R6=256^48:=by rw[yv,h,hk]
theorem Uw:R6=256^48:=Mj eH rfl
theorem DM(bs:L8)(k cut:Nat)(h:k=0∨cut=48):zp (BN bs k)*RZ+zp (BN (bs.drop k) cut)=zp (BN bs (k+cut)):=by
 rw[qG bs k cut,gC,jH]
 rcases h with rfl|rfl
 ·rw[BN,Lo];grind
 ·rw[←Uw];rfl
theorem VG{n:Nat}(h0:0<n)(h:n % 48=0):(n-1) % 48+1=48:=om
theorem Fw{n:Nat}(h0:0<n):(n-((n-1) % 48+1)) % 48=0∧(n-1) % 48+1≤n∧(n-1) % 48+1≤48:=om
theorem Ng(bs:L8)(n:Nat):BN (bs.take n) n=BN bs n:=qC n fun i hi=>by
 rw[List.getD_eq_getElem?_getD,List.getD_eq_getElem?_getD,List.getElem?_take,if_pos hi]
end
end Go.Proofs.YtjookodjbjabbaaGreatDoor
