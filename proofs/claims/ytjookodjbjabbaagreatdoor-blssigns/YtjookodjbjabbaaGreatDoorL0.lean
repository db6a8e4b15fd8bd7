/- L0 -/
import Derived.Test.YtjookodjbjabbaaGreatDoorXW
set_option maxRecDepth 100000
set_option maxHeartbeats 1000000
namespace Go.Proofs.YtjookodjbjabbaaGreatDoor
open Go.Proofs.Tryz
section
open Go.RowKit
def EB:Array Value->Sem Value:=λargs=>do
 let (x,y,b)<-Extern.MathBitsCarry.three "Sub64" args
 pure (Extern.MathBitsCarry.pair ((x+Extern.MathBitsCarry.m64-y-b) % Extern.MathBitsCarry.m64) (if x<y+b then 1 else 0))
theorem eI(x y c:BitVec 64)(hc:c.toNat<=1)(w:World):(callFunc 67 [U64 x,U64 y,U64 c].toArray).run prog w=.ok (.value (.tuple #[U64 (ADC x y c).1,U64 (ADC x y c).2])) w:=by
 show (callFunc 67 #[U64 x,U64 y,U64 c]).run prog w=_;rw[run_callFunc_extern func67 kr kr kr (e:=add64Entry) kr];simp only[U64];rw[run_add64 _ _ _ om om om om];have h1:=x.isLt;have h2:=y.isLt;have e1:((x.toNat:Int)+(y.toNat:Int)+(c.toNat:Int)) % 18446744073709551616=((ADC x y c).1.toNat:Int):=by simp only[ADC,BitVec.toNat_ofNat];omega
 have e2:((x.toNat:Int)+(y.toNat:Int)+(c.toNat:Int)) / 18446744073709551616=((ADC x y c).2.toNat:Int):=by simp only[ADC,BitVec.toNat_ofNat];omega
 rw[e1,e2];rfl
theorem MP(x y c:BitVec 64)(hc:c.toNat<=1)(w:World):(callFunc 108 [U64 x,U64 y,U64 c].toArray).run prog w=.ok (.value (.tuple #[U64 (SBB x y c).1,U64 (SBB x y c).2])) w:=by
 show (callFunc 108 #[U64 x,U64 y,U64 c]).run prog w=_;rw[run_callFunc_extern func108 kr kr kr (e:=EB) kr];have key: ∀b:Nat,b<=1->(EB #[.int .u64 (x.toNat:Int),.int .u64 (y.toNat:Int),.int .u64 (b:Int)]).run prog w=
  .ok (.tuple #[.int .u64 (((x.toNat+18446744073709551616-y.toNat-b) % 18446744073709551616:Nat):Int),.int .u64 ((if x.toNat<y.toNat+b then 1 else 0:Nat):Int)]) w:=λb hb=>by
  have:b=0\/b=1:=om;rcases this with rfl|rfl<;>rfl
 simp only[U64];rw[key _ hc];simp only[Result.andThen,SBB,BitVec.toNat_ofNat];congr 5;split<;>rfl
theorem ent28:ai prog 28:=λ_ _=>kr
theorem ent44:ai prog 44:=λ_ _=>kr
theorem ent15:ai prog 15:=λ_ _=>kr
theorem ent113:ai prog 113:=λ_ _=>kr
theorem ent166:ai prog 166:=λ_ _=>kr
theorem zv25(w:World):(zeroValue 25).run prog w=.ok (aJ (List.replicate 6 (0#64))) w:=(zeroValue25 w).trans rr
theorem zv37(w:World):(zeroValue 37).run prog w=.ok (aJ (List.replicate 6 (0#64))) w:=(zeroValue37 w).trans rr
theorem zv117(w:World):(zeroValue 117).run prog w=.ok (aJ (List.replicate 12 (0#64))) w:=(zeroValue117 w).trans rr
theorem zv29(w:World):(zeroValue 29).run prog w=.ok (.agg ((List.replicate 48 (0#8)).map U8).toArray) w:=(zeroValue29 w).trans rr
theorem mC(a b:L6)(ha:a.length=6)(hb:b.length=6):PUR 59 [aJ (a),aJ (b)] (.tuple #[aJ ((AS a b 6).1),U64 (AS a b 6).2]):=by
 intro w hw;refine Hf func59 O hw<|λhGF=>Xp<|Bx 2 hGF O<|λb2=>Bx 3 hGF O<|λb3=>Al 4 hGF zv25<|λb4=>Asg O<|aa<|Xp<|Al 6 hGF zv25<|λb6=>aa<|Xp<|Asg O<|aa<|ae<|Xp<|Mv O<|aa<|ah<|bG (ι:={i:Nat // i<=6}) (λx=>[(2,pnt b2),(3,pnt b3),(4,pnt b4),(6,pnt b6),(7,U64 (AS a b x.1).2),(9,I (x.1:Int))]) (λx=>[(2,b2,a.map U64,25),(3,b3,b.map U64,25),(4,b4,(List.replicate 6 0#64).map U64,25),(6,b6,(AS a b x.1).1.map U64,25)]) (λx=>6-x.1) ⟨0,om⟩ hGF trv trv<|?_;rintro ⟨i,hi⟩;dsimp only;refine Xp<|Bnr O O (λ_=>av _ _ _)<|aa<|ae<|?_;refine bC O (λhc=> ?_) (λhc=> ?_)
 ·simp only[decide_eq_true_eq]at hc
  refine ap<|ae<|ah<|Xp<|Mv O<|Asg O<|aa<|Xe []<|Mv O<|Mv O<|Ia (i) O O underlying25 sizeOf24<|Lm 2 U64 0 O O isAgg24 (by rw[ha];omega)<|Mv O<|Ia (i) O O underlying25 sizeOf24<|Lm 3 U64 0 O O isAgg24 (by rw[hb];omega)<|Mv O<|bX O O (λw=>eI _ _ _ (xg a b i) w) O O<|Mv O<|Ext O O<|Ext O O<|Ia (i) O O underlying25 sizeOf24<|aX 6 U64 hGF O O O sizeOf24 O (by rw[aH];omega) O<|Asg O<|aa<|Xq<|Bnr O O (λ_=>aq _ _ _ oi)<|Mv O<|aa<|?_
  repeat (refine aL ?_)
  exact aB<|⟨rfl,⟨i+1,om⟩,_,by show 6-(i+1)<6-i;omega,rfl,trv,trv⟩
 ·obtain rfl:i=6:=by simp at hc;omega
  refine aU<|Xp<|Lw 6 O O cf (aH _ _ _)<|Mv O<|Sw 4 hGF O O O cf (aH _ _ _)<|Asg O<|aa<|ak<|Rr<|?_;exact aZ 4 O O O O isAgg25 sizeOf25 (by rw[List.length_map,aH]) (λw hw=>⟨rfl,ab hw⟩)
theorem jv(a b:L6)(ha:a.length=6)(hb:b.length=6):PUR 60 [aJ (a),aJ (b)] (.tuple #[aJ ((SS a b 6).1),U64 (SS a b 6).2]):=by
 intro w hw;refine Hf func60 O hw<|λhGF=>Xp<|Bx 2 hGF O<|λb2=>Bx 3 hGF O<|λb3=>Al 4 hGF zv25<|λb4=>Asg O<|aa<|Xp<|Al 6 hGF zv25<|λb6=>aa<|Xp<|Asg O<|aa<|ae<|Xp<|Mv O<|aa<|ah<|bG (ι:={i:Nat // i<=6}) (λx=>[(2,pnt b2),(3,pnt b3),(4,pnt b4),(6,pnt b6),(7,U64 (SS a b x.1).2),(9,I (x.1:Int))]) (λx=>[(2,b2,a.map U64,25),(3,b3,b.map U64,25),(4,b4,(List.replicate 6 0#64).map U64,25),(6,b6,(SS a b x.1).1.map U64,25)]) (λx=>6-x.1) ⟨0,om⟩ hGF trv trv<|?_;rintro ⟨i,hi⟩;dsimp only;refine Xp<|Bnr O O (λ_=>av _ _ _)<|aa<|ae<|?_;refine bC O (λhc=> ?_) (λhc=> ?_)
 ·simp only[decide_eq_true_eq]at hc
  refine ap<|ae<|ah<|Xp<|Mv O<|Asg O<|aa<|Xe []<|Mv O<|Mv O<|Ia (i) O O underlying25 sizeOf24<|Lm 2 U64 0 O O isAgg24 (by rw[ha];omega)<|Mv O<|Ia (i) O O underlying25 sizeOf24<|Lm 3 U64 0 O O isAgg24 (by rw[hb];omega)<|Mv O<|bX O O (λw=>MP _ _ _ (n8 a b i) w) O O<|Mv O<|Ext O O<|Ext O O<|Ia (i) O O underlying25 sizeOf24<|aX 6 U64 hGF O O O sizeOf24 O (by rw[aA];omega) O<|Asg O<|aa<|Xq<|Bnr O O (λ_=>aq _ _ _ oi)<|Mv O<|aa<|?_
  repeat (refine aL ?_)
  exact aB<|⟨rfl,⟨i+1,om⟩,_,by show 6-(i+1)<6-i;omega,rfl,trv,trv⟩
 ·obtain rfl:i=6:=by simp at hc;omega
  refine aU<|Xp<|Lw 6 O O cf (aA _ _ _)<|Mv O<|Sw 4 hGF O O O cf (aA _ _ _)<|Asg O<|aa<|ak<|Rr<|?_;exact aZ 4 O O O O isAgg25 sizeOf25 (by rw[List.length_map,aA]) (λw hw=>⟨rfl,ab hw⟩)
theorem jj(a b:L6)(ha:a.length=6)(hb:b.length=6):PUR 186 [aJ (a),aJ (b)] (.tuple #[aJ ((AS a b 6).1),U64 (AS a b 6).2]):=by
 intro w hw;refine Hf func186 O hw<|λhGF=>Xp<|Bx 2 hGF O<|λb2=>Bx 3 hGF O<|λb3=>Al 4 hGF zv37<|λb4=>Asg O<|aa<|Xp<|Al 6 hGF zv37<|λb6=>aa<|Xp<|Asg O<|aa<|ae<|Xp<|Asg O<|aa<|ah<|bG (ι:={i:Nat // i<=6}) (λx=>[(2,pnt b2),(3,pnt b3),(4,pnt b4),(6,pnt b6),(7,U64 (AS a b x.1).2),(8,I (x.1:Int))]) (λx=>[(2,b2,a.map U64,37),(3,b3,b.map U64,37),(4,b4,(List.replicate 6 0#64).map U64,37),(6,b6,(AS a b x.1).1.map U64,37)]) (λx=>6-x.1) ⟨0,om⟩ hGF trv trv<|?_;rintro ⟨i,hi⟩;dsimp only;refine ae<|Xp<|Mv O<|Bnr O O (λ_=>av _ _ _)<|aa<|?_;refine bC O (λhc=> ?_) (λhc=> ?_)
 ·simp only[decide_eq_true_eq]at hc
  refine ap<|ae<|ah<|Xe []<|Mv O<|Mv O<|Ia (i) O O underlying37 sizeOf24<|Lm 2 U64 0 O O isAgg24 (by rw[ha];omega)<|Mv O<|Ia (i) O O underlying37 sizeOf24<|Lm 3 U64 0 O O isAgg24 (by rw[hb];omega)<|Mv O<|bX O O (λw=>eI _ _ _ (xg a b i) w) O O<|Mv O<|Ext O O<|Ext O O<|Ia (i) O O underlying37 sizeOf24<|aX 6 U64 hGF O O O sizeOf24 O (by rw[aH];omega) O<|Asg O<|aa<|Xq<|Mv O<|Bnr O O (λ_=>aq _ _ _ oi)<|Asg O<|aa<|?_
  repeat (refine aL ?_)
  exact aB<|⟨rfl,⟨i+1,om⟩,_,by show 6-(i+1)<6-i;omega,rfl,trv,trv⟩
 ·obtain rfl:i=6:=by simp at hc;omega
  refine aU<|Xp<|Lw 6 O O ce (aH _ _ _)<|Mv O<|Sw 4 hGF O O O ce (aH _ _ _)<|Asg O<|aa<|ak<|Rr<|?_;exact aZ 4 O O O O isAgg37 sizeOf37 (by rw[List.length_map,aH]) (λw hw=>⟨rfl,ab hw⟩)
theorem fq(a b:L6)(ha:a.length=6)(hb:b.length=6):PUR 102 [aJ (a),aJ (b)] (.tuple #[aJ ((SS a b 6).1),U64 (SS a b 6).2]):=by
 intro w hw;refine Hf func102 O hw<|λhGF=>Xp<|Bx 2 hGF O<|λb2=>Bx 3 hGF O<|λb3=>Al 4 hGF zv37<|λb4=>Asg O<|aa<|Xp<|Al 6 hGF zv37<|λb6=>aa<|Xp<|Asg O<|aa<|ae<|Xp<|Asg O<|aa<|ah<|bG (ι:={i:Nat // i<=6}) (λx=>[(2,pnt b2),(3,pnt b3),(4,pnt b4),(6,pnt b6),(7,U64 (SS a b x.1).2),(8,I (x.1:Int))]) (λx=>[(2,b2,a.map U64,37),(3,b3,b.map U64,37),(4,b4,(List.replicate 6 0#64).map U64,37),(6,b6,(SS a b x.1).1.map U64,37)]) (λx=>6-x.1) ⟨0,om⟩ hGF trv trv<|?_;rintro ⟨i,hi⟩;dsimp only;refine ae<|Xp<|Mv O<|Bnr O O (λ_=>av _ _ _)<|aa<|?_;refine bC O (λhc=> ?_) (λhc=> ?_)
 ·simp only[decide_eq_true_eq]at hc
  refine ap<|ae<|ah<|Xe []<|Mv O<|Mv O<|Ia (i) O O underlying37 sizeOf24<|Lm 2 U64 0 O O isAgg24 (by rw[ha];omega)<|Mv O<|Ia (i) O O underlying37 sizeOf24<|Lm 3 U64 0 O O isAgg24 (by rw[hb];omega)<|Mv O<|bX O O (λw=>MP _ _ _ (n8 a b i) w) O O<|Mv O<|Ext O O<|Ext O O<|Ia (i) O O underlying37 sizeOf24<|aX 6 U64 hGF O O O sizeOf24 O (by rw[aA];omega) O<|Asg O<|aa<|Xq<|Mv O<|Bnr O O (λ_=>aq _ _ _ oi)<|Asg O<|aa<|?_
  repeat (refine aL ?_)
  exact aB<|⟨rfl,⟨i+1,om⟩,_,by show 6-(i+1)<6-i;omega,rfl,trv,trv⟩
 ·obtain rfl:i=6:=by simp at hc;omega
  refine aU<|Xp<|Lw 6 O O ce (aA _ _ _)<|Mv O<|Sw 4 hGF O O O ce (aA _ _ _)<|Asg O<|aa<|ak<|Rr<|?_;exact aZ 4 O O O O isAgg37 sizeOf37 (by rw[List.length_map,aA]) (λw hw=>⟨rfl,ab hw⟩)
theorem k4(a b:L6)(ha:a.length=6)(hb:b.length=6):PUR 63 [aJ (a),aJ (b)] (.bool (LT a b 6)):=by
 intro w hw;refine Hf func63 O hw<|λhGF=>Xp<|Bx 2 hGF O<|λb2=>Bx 3 hGF O<|λb3=>Asg O<|aa<|lj<|ae<|mh<|ae<|Xp<|Asg O<|aa<|ah<|bG (ι:={i:Nat // i<=6/\LT a b 6=LT a b i}) (λx=>[(2,pnt b2),(3,pnt b3),(4,.bool false),(5,I ((x.1:Int)-1))]) (λx=>[(2,b2,a.map U64,25),(3,b3,b.map U64,25)]) (λx=>x.1) ⟨6,om,rfl⟩ hGF trv trv<|?_;rintro ⟨i,hi,hlt⟩;dsimp only;refine ae<|Xp<|Mv O<|Bnr O O (λ_=>dh _ _ _)<|aa<|?_;refine bC O (λhc=> ?_) (λhc=> ?_)
 ·simp only[decide_eq_true_eq]at hc
  obtain ⟨k,rfl⟩: ∃k,i=k+1:=⟨i-1,om⟩;refine ap<|ae<|ah<|ah<|Xd []<|Mv O<|Ia (k) O O underlying25 sizeOf24<|Lm 2 U64 0 O O isAgg24 (by rw[ha];omega)<|Mv O<|Ia (k) O O underlying25 sizeOf24<|Lm 3 U64 0 O O isAgg24 (by rw[hb];omega)<|Bnr O O (λ_=>nL _ _ _)<|Asg O<|aa<|?_
  refine bC O (λhc=> ?_) (λhc=> ?_)
  ·simp only[decide_eq_true_eq]at hc
   have hfin:LT a b 6=true:=by rw[hlt,LT,if_pos hc]
   refine Xp<|Asg O<|aa<|ak<|?_
   repeat (first|refine bJ ?_|refine bI ?_|refine eY ?_)
   exact aE O O (λw hw=>⟨by rw[hfin];rfl,ab hw⟩)
  ·simp only[decide_eq_false_iff_not]at hc
   have hc1:=hc;refine Xd []<|Mv O<|Ia (k) O O underlying25 sizeOf24<|Lm 2 U64 0 O O isAgg24 (by rw[ha];omega)<|Mv O<|Ia (k) O O underlying25 sizeOf24<|Lm 3 U64 0 O O isAgg24 (by rw[hb];omega)<|Bnr O O (λ_=>iW _ _ _)<|Asg O<|aa<|?_
   refine bC O (λhc=> ?_) (λhc=> ?_)
   ·simp only[decide_eq_true_eq]at hc
    have hfin:LT a b 6=false:=by rw[hlt,LT,if_neg hc1,if_pos hc]
    refine aU<|Xp<|Asg O<|aa<|ak<|?_
    repeat (first|refine bJ ?_|refine bI ?_|refine eY ?_)
    exact aE O O (λw hw=>⟨by rw[hfin];rfl,ab hw⟩)
   ·simp only[decide_eq_false_iff_not]at hc
    refine ap<|Xq<|Mv O<|Bnr (v:=I ((k:Int)-1)) O O (λ_=>(aV _ _ _ oi).trans (by rw[show (((k+1:Nat):Int)-1)-1=(k:Int)-1 by omega]))<|Asg O<|aa<|?_
    repeat (refine aL ?_)
    exact aB<|⟨rfl,⟨k,om,by rw[hlt,LT,if_neg hc1,if_neg hc]⟩,_,by show k<k+1;omega,rfl,trv,trv⟩
 ·simp only[decide_eq_false_iff_not]at hc
  obtain rfl:i=0:=om;have hfin:LT a b 6=false:=hlt;refine aU<|Xp<|Asg O<|aa<|ak<|?_
  repeat (first|refine bJ ?_|refine bI ?_|refine eY ?_)
  exact aE O O (λw hw=>⟨by rw[hfin];rfl,ab hw⟩)
theorem cO(x y:BitVec 64):PUR 114 [U64 x,U64 y] (.tuple #[U64 (MH x y),U64 (MLo x y)]):=by
 intro w hw;refine Hf func114 O hw<|λhGF=>Xp<|Asg O<|Asg O<|aa<|Xp<|Mv O<|Bnr O O (λ_=>d9 _ _ _)<|Asg O<|aa<|Xp<|Mv O<|Bnr O O (λ_=>cC _ _ _)<|Asg O<|aa<|Xp<|Mv O<|Bnr O O (λ_=>d9 _ _ _)<|Asg O<|aa<|Xp<|Mv O<|Bnr O O (λ_=>cC _ _ _)<|Asg O<|aa<|Xp<|Mv O<|Mv O<|Bnr O O (λ_=>cv _ _ _)<|Asg O<|aa<|Xp<|Mv O<|Mv O<|Bnr O O (λ_=>cv _ _ _)<|Mv O<|Bnr O O (λ_=>cC _ _ _)<|Bnr O O (λ_=>a8 _ _ _)<|Asg O<|aa<|?_;refine Xp<|Mv O<|Bnr O O (λ_=>d9 _ _ _)<|Asg O<|aa<|Xp<|Mv O<|Bnr O O (λ_=>cC _ _ _)<|Asg O<|aa<|Xp<|Mv O<|Mv O<|Mv O<|Bnr O O (λ_=>cv _ _ _)<|Bnr O O (λ_=>a8 _ _ _)<|Asg O<|aa<|Xp<|Mv O<|Mv O<|Bnr O O (λ_=>cv _ _ _)<|Mv O<|Bnr O O (λ_=>a8 _ _ _)<|Mv O<|Bnr O O (λ_=>cC _ _ _)<|Bnr O O (λ_=>a8 _ _ _)<|Asg O<|aa<|Xp<|Mv O<|Mv O<|Bnr O O (λ_=>cv _ _ _)<|Asg O<|aa<|ak<|Rr<|?_;exact cg O O O (λw hw=>⟨by rw[<-Vb,<-OG];rfl,ab hw⟩)
theorem fU(x y c d:BitVec 64):PUR 66 [U64 x,U64 y,U64 c,U64 d] (.tuple #[U64 (MA x y c d).1,U64 (MA x y c d).2]):=by
 intro w hw;refine Hf func66 O hw<|λhGF=>Xp<|Asg O<|Asg O<|aa<|Xp<|Mv O<|Mv O<|Ca O (cO _ _)<|Mv O<|Ext O O<|Ext O O<|Asg O<|Asg O<|aa<|Xp<|Mv O<|Mv O<|bX O O (λw=>eI _ _ _ dc w) O O<|Mv O<|Ext O O<|Ext O O<|Asg O<|Asg O<|aa<|Xp<|Mv O<|Mv O<|Bnr O O (λ_=>a8 _ _ _)<|Asg O<|aa<|Xp<|Mv O<|Mv O<|bX O O (λw=>eI _ _ _ dc w) O O<|Mv O<|Ext O O<|Ext O O<|Asg O<|Asg O<|?_;refine aa<|Xp<|Mv O<|Mv O<|Mv O<|Bnr O O (λ_=>a8 _ _ _)<|Asg O<|Asg O<|aa<|ak<|Rr<|?_;exact cg O O O (λw hw=>⟨rfl,ab hw⟩)
theorem wM(a b:L6)(ha:a.length=6)(hb:b.length=6):PUR 135 [aJ (a),aJ (b)] (aJ (MU a b 6)):=by
 intro w hw;refine Hf func135 O hw<|λhGF=>Xp<|Bx 2 hGF O<|λb2=>Bx 3 hGF O<|λb3=>Al 4 hGF zv117<|λb4=>aa<|Xp<|Al 5 hGF zv117<|λb5=>aa<|ae<|Xp<|Asg O<|aa<|ah<|bG (ι:={i:Nat // i<=6}) (λx=>[(2,pnt b2),(3,pnt b3),(4,pnt b4),(5,pnt b5),(6,I (x.1:Int))]) (λx=>[(2,b2,a.map U64,37),(3,b3,b.map U64,37),(4,b4,(List.replicate 12 0#64).map U64,117),(5,b5,(MU a b x.1).map U64,117)]) (λx=>6-x.1) ⟨0,om⟩ hGF trv trv<|?_;rintro ⟨i,hi⟩;dsimp only;refine ae<|Xp<|Mv O<|Bnr O O (λ_=>av _ _ _)<|aa<|?_;refine bC O (λhc=> ?_) (λhc=> ?_)
 ·simp only[decide_eq_true_eq]at hc
  refine ap<|ae<|ah<|Xp<|Asg O<|aa<|ae<|Xp<|Asg O<|aa<|ah<|bG (ι:={i:Nat // i<=6}) (λx=>[(2,pnt b2),(3,pnt b3),(4,pnt b4),(5,pnt b5),(6,I (i:Int)),(7,U64 (MI (a.getD i 0) b i (MU a b i) x.1).2),(8,I (x.1:Int))]) (λx=>[(2,b2,a.map U64,37),(3,b3,b.map U64,37),(4,b4,(List.replicate 12 0#64).map U64,117),(5,b5,(MI (a.getD i 0) b i (MU a b i) x.1).1.map U64,117)]) (λx=>6-x.1) ⟨0,om⟩ hGF trv trv<|?_;rintro ⟨j,hj⟩;dsimp only;refine ae<|Xp<|Mv O<|Bnr O O (λ_=>av _ _ _)<|aa<|?_;refine bC O (λhc=> ?_) (λhc=> ?_)
  ·simp only[decide_eq_true_eq]at hc
   refine ap<|ae<|ah<|Xd []<|Mv O<|Ia (i) O O underlying37 sizeOf24<|Lm 2 U64 0 O O isAgg24 (by rw[ha];omega)<|Mv O<|Ia (j) O O underlying37 sizeOf24<|Lm 3 U64 0 O O isAgg24 (by rw[hb];omega)<|Ca O (cO _ _)<|Mv O<|Ext O O<|Ext O O<|Asg O<|Asg O<|aa<|Xp<|Asg O<|aa<|Xp<|Mv O<|Mv O<|Mv O<|Bnr O O (λ_=>aq _ _ _ oi)<|Ia ((i+j)) O O underlying117 sizeOf24<|Lm 5 U64 0 O O isAgg24 (by rw[kB,ib];omega)<|bX O O (λw=>eI _ _ _ dc w) O O<|Mv O<|Ext O O<|Ext O O<|Asg O<|Asg O<|aa<|Xp<|Mv O<|Mv O<|Bnr O O (λ_=>a8 _ _ _)<|Asg O<|aa<|?_
   refine Xp<|Mv O<|Mv O<|bX O O (λw=>eI _ _ _ dc w) O O<|Mv O<|Ext O O<|Ext O O<|Asg O<|Asg O<|aa<|Xp<|Mv O<|Mv O<|Bnr O O (λ_=>a8 _ _ _)<|Asg O<|aa<|Xq<|Mv O<|Mv O<|Bnr O O (λ_=>aq _ _ _ oi)<|Mv O<|Mv O<|Ia ((i+j)) O O underlying117 sizeOf24<|aX 5 U64 hGF O O O sizeOf24 O (by rw[kB,ib];omega) O<|Asg O<|aa<|Xq<|Mv O<|Bnr O O (λ_=>aq _ _ _ oi)<|Asg O<|aa<|?_
   repeat (refine aL ?_)
   exact aB<|⟨rfl,⟨j+1,om⟩,_,by show 6-(j+1)<6-j;omega,rfl,trv,trv⟩
  ·obtain rfl:j=6:=by simp at hc;omega
   refine aU<|Xq<|Mv O<|Bnr O O (λ_=>aq _ _ _ oi)<|Mv O<|Ia ((i+6)) O O underlying117 sizeOf24<|aX 5 U64 hGF O O O sizeOf24 O (by rw[kB,ib];omega) O<|aa<|Xq<|Mv O<|Bnr O O (λ_=>aq _ _ _ oi)<|Asg O<|aa<|?_
   repeat (refine aL ?_)
   exact aB<|⟨rfl,⟨i+1,om⟩,_,by show 6-(i+1)<6-i;omega,rfl,trv,trv⟩
 ·obtain rfl:i=6:=by simp at hc;omega
  refine aU<|Xp<|Lw 5 O O C9 (ib _ _ _)<|Sw 4 hGF O O O C9 (ib _ _ _)<|aa<|ak<|Rr<|?_;exact au 4 O O O isAgg117 sizeOf117 (by rw[List.length_map,ib]) (λw hw=>⟨rfl,ab hw⟩)
end
section
open Go.RowKit
theorem eqg(op:BinOp)(x y:Operand)(xs ys:Array Value)(w:World):(eqGuard op 25 x y (.agg xs) (.agg ys)).run prog w=.ok () w:=run_eqGuard_agg w op 25 x y xs ys kr
theorem K9(op:BinOp)(x y:Operand)(xs ys:Array Value)(w:World):(eqGuard op 37 x y (.agg xs) (.agg ys)).run prog w=.ok () w:=run_eqGuard_agg w op 37 x y xs ys kr
theorem eq23(xs ys:L6)(h:xs.length=6)(h':ys.length=6)(w:World):(binOp .eql 25 (aJ xs) (aJ ys)).run prog w=.ok (.bool (decide (xs=ys))) w:=qZ underlying25 underlying24 sizeOf24 isAgg24 xs ys h h' w
theorem U1(xs ys:L6)(h:xs.length=6)(h':ys.length=6)(w:World):(binOp .eql 37 (aJ xs) (aJ ys)).run prog w=.ok (.bool (decide (xs=ys))) w:=qZ underlying37 underlying24 sizeOf24 isAgg24 xs ys h h' w
theorem bQ{n:Nat}{b1:Nat}{c1:List Value}{t1:TypeId}: ∀i j b c t c' t',lkB [(n,b1,c1,t1)] i=some (b,c,t)->lkB [(n,b1,c1,t1)] j=some (b,c',t')->i=j:=by
 intro i j b c t c' t' h1 h2;rcases aI h1 with ⟨e1,x1⟩|⟨_,h1⟩
 ·rcases aI h2 with ⟨e2,x2⟩|⟨_,h2⟩
  ·exact e1.trans e2.symm
  ·cases h2
 ·cases h1
theorem bZ{J:(Nat->Prop)->World->Prop}(hr:Rides J){Y:Nat->Prop}{w:World}(h:J Y w):J (λ_=>False) w:=hr.less _ _ _ (λ_ h=>h.elim) h
theorem pX(a:L6)(top:BitVec 64)(m:L6)(ha:a.length=6)(hm:m.length=6):PUR 68 [aJ (a),U64 top,aJ (m)] (aJ (RED a top m)):=by
 intro w hw;refine Hf func68 O hw ?_;intro hGF;by_cases h1:top=0
 ·by_cases h2:(SS a m 6).2=1
  ·refine Xp<|Bx 3 hGF O<|λb3=>Bx 5 hGF O<|λb5=>Al 6 hGF zv25<|λb6=>aa<|Xp<|Lw 3 O O cf ha<|Lw 5 O O cf hm<|Ca O (jv a m ha hm)<|Mv O<|Ext O O<|Ext O O<|Al 7 hGF zv25<|λb7=>Sw 7 hGF O O O cf (aA _ _ _)<|Asg O<|aa<|ae<|Xp<|Mv O<|Bnr (v:=.bool true) O O (λw=>(bj _ _ _).trans (congrArg (λb=>Result.ok (Value.bool b) w) (beq_iff_eq.2 h1)))<|Mv O<|Mv O<|Bnr (v:=.bool true) O O (λw=>(bj _ _ _).trans (congrArg (λb=>Result.ok (Value.bool b) w) (beq_iff_eq.2 h2)))<|Pk O O O<|aa<|aP O<|Xp<|Lw 3 O O cf ha<|Sw 6 hGF O O O cf ha<|aa<|ak<|Rr<|?_
   exact au 6 O O O isAgg25 sizeOf25 (by rw[List.length_map,ha]) (λw hw=>⟨by rw[RED,if_pos (⟨h1,h2⟩)],ab hw⟩)
  ·refine Xp<|Bx 3 hGF O<|λb3=>Bx 5 hGF O<|λb5=>Al 6 hGF zv25<|λb6=>aa<|Xp<|Lw 3 O O cf ha<|Lw 5 O O cf hm<|Ca O (jv a m ha hm)<|Mv O<|Ext O O<|Ext O O<|Al 7 hGF zv25<|λb7=>Sw 7 hGF O O O cf (aA _ _ _)<|Asg O<|aa<|ae<|Xp<|Mv O<|Bnr (v:=.bool true) O O (λw=>(bj _ _ _).trans (congrArg (λb=>Result.ok (Value.bool b) w) (beq_iff_eq.2 h1)))<|Mv O<|Mv O<|Bnr (v:=.bool false) O O (λw=>(bj _ _ _).trans (congrArg (λb=>Result.ok (Value.bool b) w) (beq_eq_false_iff_ne.2 h2)))<|Pk O O O<|aa<|aC O<|ap<|Xp<|Lw 7 O O cf (aA _ _ _)<|Sw 6 hGF O O O cf (aA _ _ _)<|aa<|ak<|Rr<|?_
   exact au 6 O O O isAgg25 sizeOf25 (by rw[List.length_map,aA]) (λw hw=>⟨by rw[RED,if_neg (λh=>h2 h.2)],ab hw⟩)
 ·refine Xp<|Bx 3 hGF O<|λb3=>Bx 5 hGF O<|λb5=>Al 6 hGF zv25<|λb6=>aa<|Xp<|Lw 3 O O cf ha<|Lw 5 O O cf hm<|Ca O (jv a m ha hm)<|Mv O<|Ext O O<|Ext O O<|Al 7 hGF zv25<|λb7=>Sw 7 hGF O O O cf (aA _ _ _)<|Asg O<|aa<|ae<|Xp<|Mv O<|Bnr (v:=.bool false) O O (λw=>(bj _ _ _).trans (congrArg (λb=>Result.ok (Value.bool b) w) (beq_eq_false_iff_ne.2 h1)))<|Mv O<|Sk<|Sk<|Pk O O O<|aa<|aC O<|ap<|Xp<|Lw 7 O O cf (aA _ _ _)<|Sw 6 hGF O O O cf (aA _ _ _)<|aa<|ak<|Rr<|?_
  exact au 6 O O O isAgg25 sizeOf25 (by rw[List.length_map,aA]) (λw hw=>⟨by rw[RED,if_neg (λh=>h1 h.1)],ab hw⟩)
def sS(bb b:Nat)(a:L6)(n:Nat):Cls:=λW=>W.cell? ⟨bb,0,none⟩=some (.slice (spt b) n n)/\W.rangeAt b 0 (a.map U64)
def DG(a:L6)(n:Nat):List (List Value):=(List.range (64*n)).map λj=>[I ((64*n-1-j:Nat):Int),U64 (dig a (64*n-1-j))]
theorem fB(a:L6)(n:Nat):(DG a n).length=64*n:=by simp[DG]
theorem Rj(a:L6)(n q s:Nat)(hq:q<n)(hs:s<64):(DG a n)[64*(n-(q+1))+(64-(s+1))]? =some [I ((64*q+s:Nat):Int),U64 (dig a (64*q+s))]:=by
 have h:64*(n-(q+1))+(64-(s+1))<64*n:=om;rw[DG,List.getElem?_map,List.getElem?_range h];simp only[Option.map_some];rw[show 64*n-1-(64*(n-(q+1))+(64-(s+1)))=64*q+s by omega]
theorem Mn(a:L6)(n k:Nat)(x:List Value)(h:(DG a n)[k]? =some x):k<64*n/\x=[I ((64*n-1-k:Nat):Int),U64 (dig a (64*n-1-k))]:=by
 have hk:k<64*n:=by
  rcases Nat.lt_or_ge k (64*n)with h'|h'
  ·exact h'
  ·rw[List.getElem?_eq_none (by rw[fB];exact h')]at h;cases h
 rw[DG,List.getElem?_map,List.getElem?_range hk]at h;exact ⟨hk,(Option.some.inj h).symm⟩
theorem mD(sv:Value)(hs:sv.cells= #[sv])(w:World)(hw:Gt w):CLS 113 [sv].toArray w (λe w'=> ∃b1,e=.returned (.func (.func 166) #[] #[pnt b1])/\Grow w w'/\w.heap.size<=b1/\OwnB w' b1 [sv] 118):=by
 refine Hf func113 O hw<|λhGF=>Xp<|iN 1 hGF O O O<|λb1=>Asg O<|aa<|Xp<|gj O O O O<|Asg O<|aa<|ak<|Rr<|?_;exact aE O O (λw hw=>⟨b1,rfl,ab hw,(hw.own 1 b1 _ _ O).2.elim id False.elim,(by have:=(hw.own 1 b1 _ _ O).1;rw[hs]at this;exact this)⟩)
theorem qf(bb b:Nat)(a:L6)(n:Nat)(hn:n<=100)(ha:a.length=n):fD prog Gt 166 [pnt bb] (DG a n) (sS bb b a n):=by
 intro l J Jx hJ hJx hRd hGx hY w hj;have okJ: ∀k,BOk Gt (Bi w (λY=>J Y k)):=λk=>⟨λ_ _ _ h=>(hRd _ _ _ h.rid).1,hJ k⟩;have okX: ∀k,BOk Gt (Bi w (λY=>Jx Y k)):=λk=>⟨λ_ _ _ h=>hGx _ _ _ h.rid,hJx k⟩;have c1: ∀k L w',Hp (Bi w (λY=>J Y k)) L w'->sS bb b a n w':=λk L w' h=>(hRd _ _ _ h.rid).2;refine cu (G:=Gt) func166 O O (Hp (Bi w (λY=>J Y 0)) []) (ci (Bi w _) hj (hJ 0)) (ay (okJ 0))<|lj<|ae<|mh<|Xp<|bN O isAgg118 (λw h=>(c1 _ _ w h).1) O O<|bc O (λ_=>aF underlying118 _ _ _ _) O O<|Bnr O O (λ_=>aV _ _ _ oi)<|Asg O<|aa<|ah<|gy (ι:={i:Nat // i<=n}) (λx=>[(0,.func (.yield l) #[] #[]),(1,pnt bb),(3,I ((x.1:Int)-1))]) (λx=>Bi w (λY=>J Y (64*(n-x.1)))) (λx=>[]) (λx=>x.1) ⟨n,Nat.le_refl _⟩ (λ_=>okJ _) (by rw[Nat.sub_self]) trv trivial<|?_
 rintro ⟨i,hi⟩;dsimp only;refine ae<|Xp<|Mv O<|Bnr O O (λ_=>dh _ _ _)<|aa<|?_;refine bC O (λhc=> ?_) (λhc=> ?_)
 ·simp only[decide_eq_true_eq]at hc
  obtain ⟨q,rfl⟩: ∃q,i=q+1:=⟨i-1,om⟩;clear hc;rw[show ((q+1:Nat):Int)-1=(q:Int) by omega]
  refine ap<|ae<|ah<|Xp<|Asg O<|aa<|ah<|gy (ι:={r:Nat // r<=64}) (λx=>[(0,.func (.yield l) #[] #[]),(1,pnt bb),(3,I (q:Int)),(4,I ((x.1:Int)-1))]) (λx=>Bi w (λY=>J Y (64*(n-(q+1))+(64-x.1)))) (λx=>[]) (λx=>x.1) ⟨64,Nat.le_refl _⟩ (λ_=>okJ _) O trv trivial<|?_;rintro ⟨r,hr⟩;dsimp only;refine ae<|Xp<|Mv O<|Bnr O O (λ_=>dh _ _ _)<|aa<|?_;refine bC O (λhc=> ?_) (λhc=> ?_)
  ·simp only[decide_eq_true_eq]at hc
   obtain ⟨s,rfl⟩: ∃s,r=s+1:=⟨r-1,om⟩;clear hc;rw[show ((s+1:Nat):Int)-1=(s:Int) by omega]
   refine ap<|ae<|ah<|Xp<|Mv O<|Mv O<|Bnr (v:=I ((64*q:Nat):Int)) O O (λ_=>(bp _ _ _ oi).trans (by rw[show (64:Int)*(q:Int)=((64*q:Nat):Int) by omega]))<|Mv O<|Bnr (v:=I ((64*q+s:Nat):Int)) O O (λ_=>(aq _ _ _ oi).trans (by rw[show ((64*q:Nat):Int)+(s:Int)=((64*q+s:Nat):Int) by omega]))<|bN O isAgg118 (λw h=>(c1 _ _ w h).1) O O<|Mv O<|ie q O O underlying118 sizeOf24 om om O O<|bN O isAgg24 (λw h=>(c1 _ _ w h).2 q _ (gm U64 a 0 q om)) O O<|Mv O<|Bnr O O (λ_=>da _ _ _ om)<|Bnr (v:=U64 (dig a (64*q+s))) O O (λ_=>(d9 _ _ _).trans (by rw[<-Qo a q s om];rfl))<|?_
   refine dw (hY.b (k:=64*(n-(q+1))+(64-(s+1))) (Rj a n q s om om) w) (okJ _) (okX _) O O O O O ?_ ?_
   ·refine bi O (λ_=>a5 _) O O<|aa<|aC O<|ap<|Xq<|Mv O<|Bnr O O (λ_=>aV _ _ _ oi)<|Asg O<|aa<|?_
    rw[show 64*(n-(q+1))+(64-(s+1))+1=64*(n-(q+1))+(64-s) by omega]
    repeat (refine aL ?_)
    exact aB<|⟨rfl,⟨s,om⟩,_,by show s<s+1;omega,rfl,trv,trivial⟩
   ·refine bi O (λ_=>a5 _) O O<|aa<|aP O<|aU<|?_
    repeat (first|refine du ?_|refine ck ?_|refine dK O ?_)
    exact FH<|cS O (λw hw=>⟨⟨_,rfl⟩,.inr ⟨_,bZ (hJx _) hw.rid⟩⟩)
  ·simp only[decide_eq_false_iff_not]at hc
   obtain rfl:r=0:=om;clear hc;rw[show 64*(n-(q+1))+(64-0)=64*(n-q) by omega]
   refine aU<|Xq<|Mv O<|Bnr O O (λ_=>aV _ _ _ oi)<|Asg O<|aa<|?_
   repeat (refine aL ?_)
   exact aB<|⟨rfl,⟨q,om⟩,_,by show q<q+1;omega,rfl,trv,trivial⟩
 ·simp only[decide_eq_false_iff_not]at hc
  obtain rfl:i=0:=om;refine aU ?_
  repeat (first|refine du ?_|refine ck ?_|refine dK O ?_)
  refine FH ?_;refine cS O (λw hw=>⟨⟨_,rfl⟩,.inl ?_⟩);have:=bZ (hJ _) hw.rid;rw[fB];exact this
end
section
open Go.RowKit
theorem G1(t m:L6)(ht:t.length=12)(hm:m.length=6):PUR 64 [aJ (t),aJ (m)] (aJ (MOD t m)):=by
 intro w hw;have hGF:BOk Gt (pl w):=gt_low.plain hw;refine cw (G:=Gt) func64 O O (Hp (pl w) []) (ci (pl w) trivial am) (ay hGF)<|ac (E:=EE [113])<|Bx 2 hGF O<|λb2=>Bx 3 hGF O<|λb3=>Al 4 hGF zv25<|λb4=>aa<|ac (E:=EE [113])<|Al 5 hGF zv25<|λb5=>aa<|ae<|ac (E:=EE [113])<|Lw 3 O O cf hm<|Lw 5 O O cf List.length_replicate<|cr O O (λw=>eqg _ _ _ _ _ w) (λw=>eq23 m (List.replicate 6 0) hm O w) O O<|aa<|?_;refine bC O (λhc=> ?_) (λhc=> ?_)
 ·simp only[decide_eq_true_eq]at hc
  refine ac (E:=EE [113])<|Lw 5 O O cf List.length_replicate<|az 4 hGF O O O sizeOf25 sm (by rw[List.length_map,List.length_replicate]) (ba _) O<|aa<|ak<|Rr<|?_
  exact Kk (.inl O) (au 4 O O O isAgg25 sizeOf25 (by rw[List.length_map,List.length_replicate]) (λw hw=>⟨by rw[MOD,if_pos hc];rfl,ab hw⟩))
 ·simp only[decide_eq_false_iff_not]at hc
  refine ap<|ae<|ac (E:=EE [113])<|bP (l:=0) (h':=12) O underlying117 sizeOf24 O O om om O O<|?_;refine dy O O ent113 O O (λw' hw'=>(mD _ O w' (hGF.g _ _ _ hw')).mono λe w'' h=> ?_);obtain ⟨c1,rfl,hg,h1,ho⟩:=h;refine ⟨_,_,rfl,ay hGF,hw'.news am hg [(33,c1,[.slice (spt b2) 12 12],118)] ?_ bQ, ?_⟩
  ·intro n' b' c' t' hl
   rcases aI hl with ⟨_,e⟩|⟨_,hl⟩
   ·cases e;exact ⟨h1,ho⟩
   ·cases hl
  clear hw' hg h1 ho;refine aa<|ah<|?_;refine fc (λ_=>pl w) (λ_ _=>pl w) (λ_=>hGF) (λ_ _=>hGF) (λ_=>rfl) (λ_ _=>rfl) O O ent166 (qf c1 b2 t 12 dc ht) (λx hx=>by obtain ⟨k,hk,rfl⟩:=List.mem_map.1 hx;rfl) O (λk=>[(2,b2,t.map U64,117),(3,b3,m.map U64,25),(4,b4,(List.replicate 6 0#64).map U64,25),(5,b5,(MDs t m k).map U64,25),(33,c1,[.slice (spt b2) 12 12],118)]) (λ_ _ _=>False) trv (λk _ w' h=>⟨cM (n:=33) O O w' h,aG (n:=2) O w' h⟩) ?_ ?_ (λ_ _ _ _ _ h=>h.elim)
  ·intro k x hx R hR
   obtain ⟨hk,rfl⟩:=Mn t 12 k x hx;rw[show 64*12-1-k=767-k from O];refine bF (E:=EE [113])<|Asg O<|aa<|?_;refine ⟨rfl,_,rfl, ?_⟩;exact ah<|ac (E:=EE [113])<|Lw 5 O O cf (cD _ _ _)<|Lw 5 O O cf (cD _ _ _)<|Ca O (mC _ _ (cD t m _) (cD t m _))<|Mv O<|Ext O O<|Ext O O<|dN 8 (hR (pl w) O hGF).2.1 zv25 O O<|λb8=>az 8 (hR (pl w) O hGF).2.1 O O O sizeOf25 (by rw[List.length_map,aH]) (by rw[List.length_map,List.length_replicate]) (ba _) O<|Asg O<|aa<|ac (E:=EE [113])<|Ia (0) O O underlying25 sizeOf24<|Lm 8 U64 0 O O isAgg24 (by rw[aH];omega)<|Mv O<|Bnr O O (λ_=>eK _ _ _)<|Ia (0) O O underlying25 sizeOf24<|aX 8 U64 (hR (pl w) O hGF).2.1 O O O sizeOf24 O (by rw[aH];omega) O<|aa<|bF (E:=EE [113])<|bS 8 O O isAgg25 sizeOf25 (by rw[List.length_map,List.length_set,aH]) O O<|Mv O<|Lw 3 O O cf hm<|Ca O (pX _ _ _ (oZ _ _) hm)<|az 5 (hR (pl w) O hGF).2.1 O O O sizeOf25 (by rw[List.length_map];exact jE _ _ _ (oZ _ _)) (by rw[List.length_map,cD]) (ba _) O<|aa<|⟨_,rfl,trv⟩
  ·intro D hD
   rw[fB];refine ac (E:=EE [113])<|Lw 5 O O cf (cD _ _ _)<|Sw 4 hD O O O cf (cD _ _ _)<|aa<|ak<|Rr<|?_;exact dR (.inl O) am (au 4 O O O isAgg25 sizeOf25 (by rw[List.length_map,cD]) (λw hw=>⟨by rw[MOD,if_neg hc],ab hw⟩))
theorem Cp(t m:L6)(ht:t.length=12)(hm:m.length=6):PUR 136 [aJ (t),aJ (m)] (aJ (MOD t m)):=by
 intro w hw;refine Hf func136 O hw<|λhGF=>Xp<|Bx 2 hGF O<|λb2=>Bx 3 hGF O<|λb3=>Al 4 hGF zv37<|λb4=>aa<|Xp<|Al 5 hGF zv37<|λb5=>aa<|ae<|Xp<|Lw 3 O O ce hm<|dX zv37 underlying37 sizeOf24 O O<|cr O O (λw=>K9 _ _ _ _ _ w) (λw=>U1 m (List.replicate 6 0) hm O w) O O<|aa<|?_;refine bC O (λhc=> ?_) (λhc=> ?_)
 ·simp only[decide_eq_true_eq]at hc
  have hz:=hc;refine Xp<|Lw 5 O O ce List.length_replicate<|Sw 4 hGF O O O ce List.length_replicate<|aa<|ak<|Rr<|?_;exact au 4 O O O isAgg37 sizeOf37 (by rw[List.length_map,List.length_replicate]) (λw hw=>⟨by rw[MOD,if_pos hz];rfl,ab hw⟩)
 ·simp only[decide_eq_false_iff_not]at hc
  have hz:=hc;refine ap<|ae<|Xp<|Asg O<|aa<|ah<|bG (ι:={i:Nat // i<=768}) (λx=>[(2,pnt b2),(3,pnt b3),(4,pnt b4),(5,pnt b5),(6,I (((768-x.1:Nat):Int)-1))]) (λx=>[(2,b2,t.map U64,117),(3,b3,m.map U64,37),(4,b4,(List.replicate 6 0#64).map U64,37),(5,b5,(MDs t m x.1).map U64,37)]) (λx=>768-x.1) ⟨0,om⟩ hGF trv trv<|?_;rintro ⟨j,hj⟩;dsimp only;refine ae<|Xp<|Mv O<|Bnr O O (λ_=>dh _ _ _)<|aa<|?_;refine bC O (λhc=> ?_) (λhc=> ?_)
  ·simp only[decide_eq_true_eq]at hc
   rw[show ((768-j:Nat):Int)-1=((767-j:Nat):Int) by omega]
   refine ap<|ae<|ah<|Xp<|Ia (5) O O underlying37 sizeOf24<|Lm 5 U64 0 O O isAgg24 (by rw[cD];omega)<|Bnr O O (λ_=>cC _ _ _)<|Asg O<|aa<|ae<|Xp<|Asg O<|aa<|ah<|bG (ι:={i:Nat // i<=5}) (λx=>[(2,pnt b2),(3,pnt b3),(4,pnt b4),(5,pnt b5),(6,I ((767-j:Nat):Int)),(7,U64 ((MDs t m j).getD 5 0>>>63)),(8,I ((5-x.1:Nat):Int))]) (λx=>[(2,b2,t.map U64,117),(3,b3,m.map U64,37),(4,b4,(List.replicate 6 0#64).map U64,37),(5,b5,(SHs (MDs t m j) x.1).map U64,37)]) (λx=>5-x.1) ⟨0,om⟩ hGF trv trv<|?_
   rintro ⟨s,hs⟩;dsimp only;refine ae<|Xp<|Mv O<|Bnr O O (λ_=>a9 _ _ _)<|aa<|?_;refine bC O (λhc=> ?_) (λhc=> ?_)
   ·simp only[decide_eq_true_eq]at hc
    refine ap<|ae<|ah<|Xe []<|Mv O<|Mv O<|Ia ((5-s)) O O underlying37 sizeOf24<|Lm 5 U64 0 O O isAgg24 (by rw[fH _ (cD t m j)];omega)<|Bnr O O (λ_=>gZ _ _ _)<|Mv O<|Bnr (v:=I ((4-s:Nat):Int)) O O (λ_=>(aV _ _ _ oi).trans (by rw[show (((5-s:Nat):Int)-1)=((4-s:Nat):Int) by omega]))<|Ia ((4-s)) O O underlying37 sizeOf24<|Lm 5 U64 0 O O isAgg24 (by rw[fH _ (cD t m j)];omega)<|Bnr O O (λ_=>cC _ _ _)<|Bnr O O (λ_=>eK _ _ _)<|Ia ((5-s)) O O underlying37 sizeOf24<|aX 5 U64 hGF O O O sizeOf24 O (by rw[fH _ (cD t m j)];omega) O<|aa<|Xq<|Mv O<|Bnr (v:=I ((5-(s+1):Nat):Int)) O O (λ_=>(aV _ _ _ oi).trans (by rw[show (((5-s:Nat):Int)-1)=((5-(s+1):Nat):Int) by omega]))<|Asg O<|aa<|?_
    repeat (refine aL ?_)
    exact aB<|⟨rfl,⟨s+1,om⟩,_,by show 5-(s+1)<5-s;omega,rfl,trv,trv⟩
   ·simp only[decide_eq_false_iff_not]at hc
    obtain rfl:s=5:=om;refine aU<|Xd []<|Ia (0) O O underlying37 sizeOf24<|Lm 5 U64 0 O O isAgg24 (by rw[fH _ (cD t m j)];omega)<|Bnr O O (λ_=>gZ _ _ _)<|Mv O<|Bnr (v:=I (((767-j) / 64:Nat):Int)) O O (λ_=>fh _ _ _ dc (show inI (((767-j) / 64:Nat):Int) by unfold inI;omega))<|Ia (((767-j) / 64)) O O underlying117 sizeOf24<|Lm 2 U64 0 O O isAgg24 (by rw[ht];omega)<|Mv O<|Bnr (v:=I (((767-j) % 64:Nat):Int)) O O (λ_=>cX _ _ _ dc)<|Bnr (v:=U64 (t.getD ((767-j) / 64) 0>>>((767-j) % 64))) O O (λ_=>da _ _ _ om)<|Bnr (v:=U64 (dig t (767-j))) O O (λ_=>d9 _ _ _)<|Bnr O O (λ_=>eK _ _ _)<|Ia (0) O O underlying37 sizeOf24<|aX 5 U64 hGF O O O sizeOf24 O (by rw[fH _ (cD t m j)];omega) O<|aa<|Xp<|bS 5 O O isAgg37 sizeOf37 (by rw[List.length_map,List.length_set,fH _ (cD t m j)]) O O<|Lw 3 O O ce hm<|Ca O (fq _ _ (xp _ _ (cD t m j)) hm)<|Mv O<|Ext O O<|Ext O O<|Al 9 hGF zv37<|λb9=>Sw 9 hGF O O O ce (aA _ _ _)<|Asg O<|aa<|Xp<|Mv O<|?_
    rcases Decidable.em ((MDs t m j).getD 5 0>>>63=1)with ht1|ht1
    ·refine Bnr (v:=.bool true) O O (λw=>(bj _ _ _).trans (congrArg (λb=>Result.ok (Value.bool b) w) (beq_iff_eq.2 ht1)))<|Mv O<|Sk<|Sk<|Pk O O O<|aa<|aP O<|Xq<|Lw 9 O O ce (aA _ _ _)<|az 5 hGF O O O sizeOf37 (by rw[List.length_map,aA _ _ _]) (by rw[List.length_map,List.length_set,fH _ (cD t m j)]) (ba _) O<|aa<|Xq<|Mv O<|cr (v:=I (((768-(j+1):Nat):Int)-1)) O O (λ_=>rfl) (λ_=>(aV _ _ _ oi).trans (by rw[show (((767-j:Nat):Int)-1)=((768-(j+1):Nat):Int)-1 by omega])) O O<|Asg O<|aa<|?_
     repeat (refine aL ?_)
     exact aB<|⟨rfl,⟨j+1,om⟩,_,by show 768-(j+1)<768-j;omega,rfl,trv,⟨rfl,rfl,rfl,by rw[vj t m j (.inl ht1)];rfl,trivial⟩⟩
    ·refine Bnr (v:=.bool false) O O (λw=>(bj _ _ _).trans (congrArg (λb=>Result.ok (Value.bool b) w) (beq_eq_false_iff_ne.2 ht1))) ?_
     rcases Decidable.em ((SS (RN (MDs t m j) (dig t (767-j))) m 6).2=0)with ht2|ht2
     ·refine Mv O<|Mv O<|Bnr (v:=.bool true) O O (λw=>(bj _ _ _).trans (congrArg (λb=>Result.ok (Value.bool b) w) (beq_iff_eq.2 ht2)))<|Pk O O O<|aa<|aP O<|Xq<|Lw 9 O O ce (aA _ _ _)<|az 5 hGF O O O sizeOf37 (by rw[List.length_map,aA _ _ _]) (by rw[List.length_map,List.length_set,fH _ (cD t m j)]) (ba _) O<|aa<|Xq<|Mv O<|cr (v:=I (((768-(j+1):Nat):Int)-1)) O O (λ_=>rfl) (λ_=>(aV _ _ _ oi).trans (by rw[show (((767-j:Nat):Int)-1)=((768-(j+1):Nat):Int)-1 by omega])) O O<|Asg O<|aa<|?_
      repeat (refine aL ?_)
      exact aB<|⟨rfl,⟨j+1,om⟩,_,by show 768-(j+1)<768-j;omega,rfl,trv,⟨rfl,rfl,rfl,by rw[vj t m j (.inr ht2)];rfl,trivial⟩⟩
     ·refine Mv O<|Mv O<|Bnr (v:=.bool false) O O (λw=>(bj _ _ _).trans (congrArg (λb=>Result.ok (Value.bool b) w) (beq_eq_false_iff_ne.2 ht2)))<|Pk O O O<|aa<|aC O<|ap<|Xq<|Mv O<|cr (v:=I (((768-(j+1):Nat):Int)-1)) O O (λ_=>rfl) (λ_=>(aV _ _ _ oi).trans (by rw[show (((767-j:Nat):Int)-1)=((768-(j+1):Nat):Int)-1 by omega])) O O<|Asg O<|aa<|?_
      repeat (refine aL ?_)
      exact aB<|⟨rfl,⟨j+1,om⟩,_,by show 768-(j+1)<768-j;omega,rfl,trv,⟨rfl,rfl,rfl,by rw[CQ t m j ht1 ht2];rfl,trivial⟩⟩
  ·simp only[decide_eq_false_iff_not]at hc
   obtain rfl:j=768:=om;refine aU<|Xp<|Lw 5 O O ce (cD _ _ _)<|Sw 4 hGF O O O ce (cD _ _ _)<|aa<|ak<|Rr<|?_;exact au 4 O O O isAgg37 sizeOf37 (by rw[List.length_map,cD]) (λw hw=>⟨by rw[MOD,if_neg hz],ab hw⟩)
end
section
open Go.RowKit
theorem o4(a:Option Addr)(cap:Nat)(bs:L8)(w:World)(hw:Gt w)(hby:BytesAt w a bs):
 CLS 28 [.slice a bs.length cap].toArray w (λe w'=>e=.returned (if 48<bs.length then .tuple #[aJ (List.replicate 6 0#64),.bool false]else .tuple #[aJ (FRs bs bs.length),.bool true])/\Grow w w'):=by
 refine Hf func28 O hw<|λhGF=>Xp<|Al 2 hGF zv25<|λb2=>Asg O<|aa<|Xp<|Al 4 hGF zv25<|λb4=>aa<|ae<|Xp<|Mv O<|bc O (λ_=>aF underlying22 _ _ _ _) O O<|?_;by_cases hA:48<bs.length
 ·refine Bnr (v:=.bool true) O O (λ_=>(a9 _ _ _).trans (by rw[decide_eq_true (by omega:((bs.length:Int)>48))]))<|aa<|aP O<|Xp<|Lw 4 O O cf List.length_replicate<|Sw 2 hGF O O O cf List.length_replicate<|Asg O<|aa<|ak<|Rr<|?_
  exact aZ 2 O O O O isAgg25 sizeOf25 (by rw[List.length_map,List.length_replicate]) (λw hw=>⟨by rw[if_pos hA];rfl,ab hw⟩)
 ·refine Bnr (v:=.bool false) O O (λ_=>(a9 _ _ _).trans (by rw[decide_eq_false (by omega: ¬((bs.length:Int)>48))]))<|aa<|aC O<|ap<|ae<|Xp<|Mv O<|bc O (λ_=>aF underlying22 _ _ _ _) O O<|Mv O<|aa<|ah<|bG (ι:={i:Nat // i<=bs.length}) (λx=>[(0,.slice a bs.length cap),(2,pnt b2),(4,pnt b4),(12,.slice a bs.length cap),(13,I (bs.length:Int)),(14,I (x.1:Int))]) (λx=>[(2,b2,(List.replicate 6 0#64).map U64,25),(4,b4,(FRs bs x.1).map U64,25)]) (λx=>bs.length-x.1) ⟨0,om⟩ hGF trv trv<|?_
  rintro ⟨i,hi⟩;dsimp only;refine Xp<|Bnr O O (λ_=>av _ _ _)<|aa<|ae<|?_;refine bC O (λhc=> ?_) (λhc=> ?_)
  ·simp only[decide_eq_true_eq]at hc
   refine ap<|ae<|ah<|Xp<|Mv O<|?_;obtain ⟨ad,rfl,_⟩:=hby i _ (gm U8 bs 0 i om);refine gA i O O underlying22 sizeOf5 O om O O<|bN O isAgg5 (λw' h=>by obtain ⟨ad',e,hc⟩:=(hby.grow (ab h)) i _ (gm U8 bs 0 i om);cases e;exact hc) O O<|Asg O<|Asg O<|aa<|Xp<|Mv O<|bc O (λ_=>aF underlying22 _ _ _ _) O O<|Bnr (v:=I ((bs.length:Int)-1)) O O (λ_=>aV _ _ _ oi)<|Mv O<|Bnr (v:=I ((bs.length-1-i:Nat):Int)) O O (λ_=>(aV _ _ _ oi).trans (by rw[show ((bs.length:Int)-1-(i:Int))=((bs.length-1-i:Nat):Int) by omega]))<|Asg O<|aa<|Xe []<|Mv O<|Bnr (v:=I (((bs.length-1-i) / 8:Nat):Int)) O O (λ_=>fh _ _ _ dc (show inI (((bs.length-1-i) / 8:Nat):Int) by unfold inI;omega))<|Ia (((bs.length-1-i) / 8)) O O underlying25 sizeOf24<|Lm 4 U64 0 O O isAgg24 (by rw[aR];omega)<|Mv O<|bV O O (λ_=>kW underlying5 underlying24 _) O O<|Mv O<|Bnr (v:=I (((bs.length-1-i) % 8:Nat):Int)) O O (λ_=>cX _ _ _ dc)<|cr (v:=I ((8*((bs.length-1-i) % 8):Nat):Int)) O O (λ_=>rfl) (λ_=>(bp _ _ _ oi).trans (by rw[show (8:Int)*(((bs.length-1-i) % 8:Nat):Int)=((8*((bs.length-1-i) % 8):Nat):Int) by omega])) O O<|cr (v:=U64 ((bs.getD i 0).setWidth 64<<<(8*((bs.length-1-i) % 8)))) O O (λ_=>rfl) (λ_=>lu _ _ _ om) O O<|Bnr O O (λ_=>eK _ _ _)<|Ia (((bs.length-1-i) / 8)) O O underlying25 sizeOf24<|aX 4 U64 hGF O O O sizeOf24 O (by rw[aR];omega) O<|aa<|Xq<|Bnr O O (λ_=>aq _ _ _ oi)<|Mv O<|aa<|?_
   repeat (refine aL ?_)
   exact aB<|⟨rfl,⟨i+1,om⟩,_,by show bs.length-(i+1)<bs.length-i;omega,rfl,trv,trv⟩
  ·obtain rfl:i=bs.length:=by simp at hc;omega
   refine aU<|Xp<|Lw 4 O O cf (aR _ _)<|Sw 2 hGF O O O cf (aR _ _)<|Asg O<|aa<|ak<|Rr<|?_;exact aZ 2 O O O O isAgg25 sizeOf25 (by rw[List.length_map,aR]) (λw hw=>⟨by rw[if_neg hA];rfl,ab hw⟩)
theorem nK(a:Option Addr)(cap:Nat)(bs:L8)(w:World)(hw:Gt w)(hby:BytesAt w a bs):
 CLS 44 [.slice a bs.length cap].toArray w (λe w'=>e=.returned (if 48<bs.length then .tuple #[aJ (List.replicate 6 0#64),.bool false]else .tuple #[aJ (FRs bs bs.length),.bool true])/\Grow w w'):=by
 refine Hf func44 O hw ?_;intro hGF;by_cases hA:48<bs.length
 ·refine Xp<|Al 2 hGF zv37<|λb2=>Asg O<|aa<|ae<|Xp<|Mv O<|bc O (λ_=>aF underlying22 _ _ _ _) O O<|Bnr (v:=.bool true) O O (λ_=>(a9 _ _ _).trans (by rw[decide_eq_true (by omega:((bs.length:Int)>48))]))<|aa<|aP O<|Xp<|dX zv37 underlying37 sizeOf24 O O<|Sw 2 hGF O O O ce List.length_replicate<|Asg O<|aa<|ak<|Rr<|?_
  exact aZ 2 O O O O isAgg37 sizeOf37 (by rw[List.length_map,List.length_replicate]) (λw hw=>⟨by rw[if_pos hA];rfl,ab hw⟩)
 ·refine Xp<|Al 2 hGF zv37<|λb2=>Asg O<|aa<|ae<|Xp<|Mv O<|bc O (λ_=>aF underlying22 _ _ _ _) O O<|Bnr (v:=.bool false) O O (λ_=>(a9 _ _ _).trans (by rw[decide_eq_false (by omega: ¬((bs.length:Int)>48))]))<|aa<|aC O<|ap<|Xp<|Al 4 hGF zv37<|λb4=>aa<|ae<|Xp<|Asg O<|aa<|ah<|bG (ι:={i:Nat // i<=bs.length}) (λx=>[(0,.slice a bs.length cap),(2,pnt b2),(4,pnt b4),(5,I (x.1:Int))]) (λx=>[(2,b2,(List.replicate 6 0#64).map U64,37),(4,b4,(FRs bs x.1).map U64,37)]) (λx=>bs.length-x.1) ⟨0,om⟩ hGF trv trv<|?_
  rintro ⟨i,hi⟩;dsimp only;refine ae<|Xp<|Mv O<|Mv O<|bc O (λ_=>aF underlying22 _ _ _ _) O O<|Bnr O O (λ_=>av _ _ _)<|aa<|?_;refine bC O (λhc=> ?_) (λhc=> ?_)
  ·simp only[decide_eq_true_eq]at hc
   refine ap<|ae<|ah<|Xp<|Mv O<|bc O (λ_=>aF underlying22 _ _ _ _) O O<|Bnr (v:=I ((bs.length:Int)-1)) O O (λ_=>aV _ _ _ oi)<|Mv O<|Bnr (v:=I ((bs.length-1-i:Nat):Int)) O O (λ_=>(aV _ _ _ oi).trans (by rw[show ((bs.length:Int)-1-(i:Int))=((bs.length-1-i:Nat):Int) by omega]))<|Asg O<|aa<|Xe []<|Mv O<|Bnr (v:=I (((bs.length-1-i) / 8:Nat):Int)) O O (λ_=>fh _ _ _ dc (show inI (((bs.length-1-i) / 8:Nat):Int) by unfold inI;omega))<|Ia (((bs.length-1-i) / 8)) O O underlying37 sizeOf24<|Lm 4 U64 0 O O isAgg24 (by rw[aR];omega)<|Mv O<|Mv O<|?_
   obtain ⟨ad,rfl,_⟩:=hby i _ (gm U8 bs 0 i om);refine gA i O O underlying22 sizeOf5 O om O O<|bN O isAgg5 (λw' h=>by obtain ⟨ad',e,hc⟩:=(hby.grow (ab h)) i _ (gm U8 bs 0 i om);cases e;exact hc) O O<|bV O O (λ_=>kW underlying5 underlying24 _) O O<|Mv O<|Bnr (v:=I (((bs.length-1-i) % 8:Nat):Int)) O O (λ_=>cX _ _ _ dc)<|cr (v:=I ((8*((bs.length-1-i) % 8):Nat):Int)) O O (λ_=>rfl) (λ_=>(bp _ _ _ oi).trans (by rw[show (8:Int)*(((bs.length-1-i) % 8:Nat):Int)=((8*((bs.length-1-i) % 8):Nat):Int) by omega])) O O<|cr (v:=U64 ((bs.getD i 0).setWidth 64<<<(8*((bs.length-1-i) % 8)))) O O (λ_=>rfl) (λ_=>lu _ _ _ om) O O<|Bnr O O (λ_=>eK _ _ _)<|Ia (((bs.length-1-i) / 8)) O O underlying37 sizeOf24<|aX 4 U64 hGF O O O sizeOf24 O (by rw[aR];omega) O<|aa<|Xq<|Mv O<|Bnr O O (λ_=>aq _ _ _ oi)<|Asg O<|aa<|?_
   repeat (refine aL ?_)
   exact aB<|⟨rfl,⟨i+1,om⟩,_,by show bs.length-(i+1)<bs.length-i;omega,rfl,trv,trv⟩
  ·obtain rfl:i=bs.length:=by simp at hc;omega
   refine aU<|Xp<|Lw 4 O O ce (aR _ _)<|Sw 2 hGF O O O ce (aR _ _)<|Asg O<|aa<|ak<|Rr<|?_;exact aZ 2 O O O O isAgg37 sizeOf37 (by rw[List.length_map,aR]) (λw hw=>⟨by rw[if_neg hA];rfl,ab hw⟩)
theorem jU(a:L6)(ha:a.length=6):PUR 91 [aJ (a)] (.agg ((BYs a 48).map U8).toArray):=by
 intro w hw;refine Hf func91 O hw<|λhGF=>Xp<|Bx 1 hGF O<|λb1=>Al 2 hGF zv29<|λb2=>aa<|Xp<|Al 3 hGF zv29<|λb3=>aa<|ae<|Xp<|Mv O<|aa<|ah<|bG (ι:={i:Nat // i<=48}) (λx=>[(1,pnt b1),(2,pnt b2),(3,pnt b3),(6,I (x.1:Int))]) (λx=>[(1,b1,a.map U64,25),(2,b2,(List.replicate 48 0#8).map U8,29),(3,b3,(BYs a x.1).map U8,29)]) (λx=>48-x.1) ⟨0,om⟩ hGF trv trv<|?_;rintro ⟨i,hi⟩;dsimp only;refine Xp<|Bnr O O (λ_=>av _ _ _)<|aa<|ae<|?_;refine bC O (λhc=> ?_) (λhc=> ?_)
 ·simp only[decide_eq_true_eq]at hc
  refine ap<|ae<|ah<|Xp<|Mv O<|Asg O<|aa<|Xp<|Mv O<|Bnr (v:=I ((47-i:Nat):Int)) O O (λ_=>(aV _ _ _ oi).trans (by rw[show ((47:Int)-(i:Int))=((47-i:Nat):Int) by omega]))<|Asg O<|aa<|Xq<|Mv O<|Mv O<|Bnr (v:=I (((47-i) / 8:Nat):Int)) O O (λ_=>fh _ _ _ dc (show inI (((47-i) / 8:Nat):Int) by unfold inI;omega))<|Ia (((47-i) / 8)) O O underlying25 sizeOf24<|Lm 1 U64 0 O O isAgg24 (by rw[ha];omega)<|Mv O<|Bnr (v:=I (((47-i) % 8:Nat):Int)) O O (λ_=>cX _ _ _ dc)<|cr (v:=I ((8*((47-i) % 8):Nat):Int)) O O (λ_=>rfl) (λ_=>(bp _ _ _ oi).trans (by rw[show (8:Int)*(((47-i) % 8:Nat):Int)=((8*((47-i) % 8):Nat):Int) by omega])) O O<|cr (v:=U64 (a.getD ((47-i) / 8) 0>>>(8*((47-i) % 8)))) O O (λ_=>rfl) (λ_=>da _ _ _ om) O O<|bV O O (λ_=>eJ underlying24 underlying5 _) O O<|Ia (i) O O underlying29 sizeOf5<|aX 3 U8 hGF O O O sizeOf5 O (by rw[aK];omega) O<|aa<|Xq<|Bnr O O (λ_=>aq _ _ _ oi)<|Mv O<|aa<|?_
  repeat (refine aL ?_)
  exact aB<|⟨rfl,⟨i+1,om⟩,_,by show 48-(i+1)<48-i;omega,rfl,trv,trv⟩
 ·obtain rfl:i=48:=by simp at hc;omega
  refine aU<|Xp<|Lw 3 O O vh (aK _ _)<|Sx 2 hGF O O O vh (aK _ _) (bY _)<|aa<|ak<|Rr<|?_;exact au 2 O O O isAgg29 sizeOf29 (by rw[List.length_map,aK]) (λw hw=>⟨rfl,ab hw⟩)
theorem fF(a:L6)(ha:a.length=6):PUR 42 [aJ (a)] (.agg ((BYs a 48).map U8).toArray):=by
 intro w hw;refine Hf func42 O hw<|λhGF=>Xp<|Bx 1 hGF O<|λb1=>Al 2 hGF zv29<|λb2=>aa<|Xp<|Al 3 hGF zv29<|λb3=>aa<|ae<|Xp<|Asg O<|aa<|ah<|bG (ι:={i:Nat // i<=48}) (λx=>[(1,pnt b1),(2,pnt b2),(3,pnt b3),(4,I (x.1:Int))]) (λx=>[(1,b1,a.map U64,37),(2,b2,(List.replicate 48 0#8).map U8,29),(3,b3,(BYs a x.1).map U8,29)]) (λx=>48-x.1) ⟨0,om⟩ hGF trv trv<|?_;rintro ⟨i,hi⟩;dsimp only;refine ae<|Xp<|Mv O<|Bnr O O (λ_=>av _ _ _)<|aa<|?_;refine bC O (λhc=> ?_) (λhc=> ?_)
 ·simp only[decide_eq_true_eq]at hc
  refine ap<|ae<|ah<|Xp<|Mv O<|Bnr (v:=I ((47-i:Nat):Int)) O O (λ_=>(aV _ _ _ oi).trans (by rw[show ((47:Int)-(i:Int))=((47-i:Nat):Int) by omega]))<|Asg O<|aa<|Xq<|Mv O<|Mv O<|Bnr (v:=I (((47-i) / 8:Nat):Int)) O O (λ_=>fh _ _ _ dc (show inI (((47-i) / 8:Nat):Int) by unfold inI;omega))<|Ia (((47-i) / 8)) O O underlying37 sizeOf24<|Lm 1 U64 0 O O isAgg24 (by rw[ha];omega)<|Mv O<|Bnr (v:=I (((47-i) % 8:Nat):Int)) O O (λ_=>cX _ _ _ dc)<|cr (v:=I ((8*((47-i) % 8):Nat):Int)) O O (λ_=>rfl) (λ_=>(bp _ _ _ oi).trans (by rw[show (8:Int)*(((47-i) % 8:Nat):Int)=((8*((47-i) % 8):Nat):Int) by omega])) O O<|cr (v:=U64 (a.getD ((47-i) / 8) 0>>>(8*((47-i) % 8)))) O O (λ_=>rfl) (λ_=>da _ _ _ om) O O<|bV O O (λ_=>eJ underlying24 underlying5 _) O O<|Ia (i) O O underlying29 sizeOf5<|aX 3 U8 hGF O O O sizeOf5 O (by rw[aK];omega) O<|aa<|Xq<|Mv O<|Bnr O O (λ_=>aq _ _ _ oi)<|Asg O<|aa<|?_
  repeat (refine aL ?_)
  exact aB<|⟨rfl,⟨i+1,om⟩,_,by show 48-(i+1)<48-i;omega,rfl,trv,trv⟩
 ·obtain rfl:i=48:=by simp at hc;omega
  refine aU<|Xp<|Lw 3 O O vh (aK _ _)<|Sx 2 hGF O O O vh (aK _ _) (bY _)<|aa<|ak<|Rr<|?_;exact au 2 O O O isAgg29 sizeOf29 (by rw[List.length_map,aK]) (λw hw=>⟨rfl,ab hw⟩)
def BT(a:L6):List (List Value):=(gq a 384).map λn:Nat=>[I (n:Int)]
theorem Oj(a:L6):(BT a).length=(gq a 384).length:=by simp[BT]
theorem TP(a:L6)(k:Nat)(hk:k<384)(h:dig a (383-k)=1):(BT a)[(gq a k).length]? =some [I ((383-k:Nat):Int)]:=by
 rw[BT,List.getElem?_map,JZ a k hk h];rfl
theorem wi(a:L6)(k:Nat)(h:dig a (383-k)=1):(gq a (k+1)).length=(gq a k).length+1:=by rw[gq,if_pos h];simp
theorem JW(a:L6)(k:Nat)(h: ¬dig a (383-k)=1):(gq a (k+1)).length=(gq a k).length:=by rw[gq,if_neg h]
end
section
open Go.RowKit
theorem iL(x y c s:BitVec 64)(hc:c.toNat<=1)(h:(ADC x y c).1=s)(w:World):(callFunc 67 [U64 x,U64 y,U64 c].toArray).run prog w=.ok (.value (.tuple #[U64 s,U64 (ADC x y c).2])) w:=by
 subst h;exact eI x y c hc w
theorem eP:PL.length=6:=rfl
theorem gJ  :PUR 55 [] (aJ (PL)):=by
 intro w hw;refine Hf func55 O hw<|λhGF=>Xp<|Al 0 hGF zv37<|λb0=>aa<|Xp<|bR (n:=6) (vs:=(PL).map U64) O O underlying37 sizeOf24 zeroValue37 O O O O<|Sw 0 hGF O O O ce eP<|aa<|ak<|Rr<|?_;exact au 0 O O O isAgg37 sizeOf37 O (λw hw=>⟨rfl,ab hw⟩)
theorem CO  :PUR 211 [] (aJ (ONE)):=by
 intro w hw;refine Hf func211 O hw<|λhGF=>Xp<|Al 0 hGF zv37<|λb0=>aa<|Xp<|bR (n:=6) (vs:=(ONE).map U64) O O underlying37 sizeOf24 zeroValue37 O O O O<|Sw 0 hGF O O O ce uB<|aa<|ak<|Rr<|?_;exact au 0 O O O isAgg37 sizeOf37 O (λw hw=>⟨rfl,ab hw⟩)
theorem B6  :PUR 184 [] (aJ (TWO)):=by
 intro w hw;refine Hf func184 O hw<|λhGF=>Xp<|Al 0 hGF zv37<|λb0=>aa<|Xp<|bR (n:=6) (vs:=(TWO).map U64) O O underlying37 sizeOf24 zeroValue37 O O O O<|Sw 0 hGF O O O ce tF<|aa<|ak<|Rr<|?_;exact au 0 O O O isAgg37 sizeOf37 O (λw hw=>⟨rfl,ab hw⟩)
theorem lU(a b:L6)(ha:a.length=6)(hb:b.length=6):PUR 97 [aJ (a),aJ (b)] (aJ (RM a b)):=by
 intro w hw;refine Hf func97 O hw<|λhGF=>Xp<|Bx 2 hGF O<|λb2=>Bx 3 hGF O<|λb3=>Al 4 hGF zv37<|λb4=>aa<|Xp<|Asg O<|Asg O<|Asg O<|Asg O<|Asg O<|Asg O<|aa<|ae<|Xp<|Asg O<|aa<|ah<|bG (ι:={i:Nat // i<=6}) (λx=>[(2,pnt b2),(3,pnt b3),(4,pnt b4),(5,U64 ((RT a b x.1).getD 0 0)),(6,U64 ((RT a b x.1).getD 1 0)),(7,U64 ((RT a b x.1).getD 2 0)),(8,U64 ((RT a b x.1).getD 3 0)),(9,U64 ((RT a b x.1).getD 4 0)),(10,U64 ((RT a b x.1).getD 5 0)),(11,I (x.1:Int))]) (λx=>[(2,b2,a.map U64,37),(3,b3,b.map U64,37),(4,b4,(List.replicate 6 0#64).map U64,37)]) (λx=>6-x.1) ⟨0,om⟩ hGF trv trv<|?_;rintro ⟨i,hi⟩;dsimp only;refine ae<|Xp<|Mv O<|Bnr O O (λ_=>av _ _ _)<|aa<|?_;refine bC O (λhc=> ?_) (λhc=> ?_)
 ·simp only[decide_eq_true_eq]at hc
  refine ap<|ae<|ah<|Xp<|Asg O<|Asg O<|Asg O<|Asg O<|aa<|Xp<|Mv O<|Ia (i) O O underlying37 sizeOf24<|Lm 3 U64 0 O O isAgg24 (by rw[hb];omega)<|Asg O<|aa<|Xp<|Ia (0) O O underlying37 sizeOf24<|Lm 2 U64 0 O O isAgg24 (by rw[ha];omega)<|Mv O<|Ca O (cO _ _)<|Mv O<|Ext O O<|Ext O O<|Asg O<|Asg O<|aa<|Xp<|Mv O<|Mv O<|bX O O (λw=>iL _ _ 0 _ dc (k1z (b.getD i 0) a (RT a b i)) w) O O<|Mv O<|Ext O O<|Ext O O<|Asg O<|Asg O<|aa<|Xp<|Mv O<|Mv O<|Bnr (v:=U64 (KC (b.getD i 0) a (RT a b i) 1)) O O (λw=>(a8 _ _ _).trans (congrArg (λz=>Result.ok (U64 z) w) (k2z (b.getD i 0) a (RT a b i))))<|?_
  refine Asg O<|aa<|Xp<|Ia (1) O O underlying37 sizeOf24<|Lm 2 U64 0 O O isAgg24 (by rw[ha];omega)<|Mv O<|Ca O (cO _ _)<|Mv O<|Ext O O<|Ext O O<|Asg O<|Asg O<|aa<|Xp<|Mv O<|Mv O<|bX O O (λw=>eI _ _ 0 dc w) O O<|Mv O<|Ext O O<|Ext O O<|Asg O<|Asg O<|aa<|Xp<|Mv O<|Mv O<|Bnr O O (λ_=>a8 _ _ _)<|Asg O<|aa<|Xp<|Mv O<|Mv O<|bX O O (λw=>iL _ _ 0 _ dc (k1s (b.getD i 0) a (RT a b i) 1) w) O O<|Mv O<|Ext O O<|Ext O O<|Asg O<|Asg O<|aa<|Xp<|?_
  refine Mv O<|Mv O<|Bnr (v:=U64 (KC (b.getD i 0) a (RT a b i) 2)) O O (λw=>(a8 _ _ _).trans (congrArg (λz=>Result.ok (U64 z) w) (k2s (b.getD i 0) a (RT a b i) 1)))<|Asg O<|aa<|Xp<|Ia (2) O O underlying37 sizeOf24<|Lm 2 U64 0 O O isAgg24 (by rw[ha];omega)<|Mv O<|Ca O (cO _ _)<|Mv O<|Ext O O<|Ext O O<|Asg O<|Asg O<|aa<|Xp<|Mv O<|Mv O<|bX O O (λw=>eI _ _ 0 dc w) O O<|Mv O<|Ext O O<|Ext O O<|Asg O<|Asg O<|aa<|Xp<|Mv O<|Mv O<|Bnr O O (λ_=>a8 _ _ _)<|Asg O<|aa<|Xp<|Mv O<|Mv O<|bX O O (λw=>iL _ _ 0 _ dc (k1s (b.getD i 0) a (RT a b i) 2) w) O O<|Mv O<|Ext O O<|Ext O O<|Asg O<|?_
  refine Asg O<|aa<|Xp<|Mv O<|Mv O<|Bnr (v:=U64 (KC (b.getD i 0) a (RT a b i) 3)) O O (λw=>(a8 _ _ _).trans (congrArg (λz=>Result.ok (U64 z) w) (k2s (b.getD i 0) a (RT a b i) 2)))<|Asg O<|aa<|Xp<|Ia (3) O O underlying37 sizeOf24<|Lm 2 U64 0 O O isAgg24 (by rw[ha];omega)<|Mv O<|Ca O (cO _ _)<|Mv O<|Ext O O<|Ext O O<|Asg O<|Asg O<|aa<|Xp<|Mv O<|Mv O<|bX O O (λw=>eI _ _ 0 dc w) O O<|Mv O<|Ext O O<|Ext O O<|Asg O<|Asg O<|aa<|Xp<|Mv O<|Mv O<|Bnr O O (λ_=>a8 _ _ _)<|Asg O<|aa<|Xp<|Mv O<|Mv O<|bX O O (λw=>iL _ _ 0 _ dc (k1s (b.getD i 0) a (RT a b i) 3) w) O O<|Mv O<|?_
  refine Ext O O<|Ext O O<|Asg O<|Asg O<|aa<|Xp<|Mv O<|Mv O<|Bnr (v:=U64 (KC (b.getD i 0) a (RT a b i) 4)) O O (λw=>(a8 _ _ _).trans (congrArg (λz=>Result.ok (U64 z) w) (k2s (b.getD i 0) a (RT a b i) 3)))<|Asg O<|aa<|Xp<|Ia (4) O O underlying37 sizeOf24<|Lm 2 U64 0 O O isAgg24 (by rw[ha];omega)<|Mv O<|Ca O (cO _ _)<|Mv O<|Ext O O<|Ext O O<|Asg O<|Asg O<|aa<|Xp<|Mv O<|Mv O<|bX O O (λw=>eI _ _ 0 dc w) O O<|Mv O<|Ext O O<|Ext O O<|Asg O<|Asg O<|aa<|Xp<|Mv O<|Mv O<|Bnr O O (λ_=>a8 _ _ _)<|Asg O<|aa<|Xp<|Mv O<|?_
  refine Mv O<|bX O O (λw=>iL _ _ 0 _ dc (k1s (b.getD i 0) a (RT a b i) 4) w) O O<|Mv O<|Ext O O<|Ext O O<|Asg O<|Asg O<|aa<|Xp<|Mv O<|Mv O<|Bnr (v:=U64 (KC (b.getD i 0) a (RT a b i) 5)) O O (λw=>(a8 _ _ _).trans (congrArg (λz=>Result.ok (U64 z) w) (k2s (b.getD i 0) a (RT a b i) 4)))<|Asg O<|aa<|Xp<|Ia (5) O O underlying37 sizeOf24<|Lm 2 U64 0 O O isAgg24 (by rw[ha];omega)<|Mv O<|Ca O (cO _ _)<|Mv O<|Ext O O<|Ext O O<|Asg O<|Asg O<|aa<|Xp<|Mv O<|Mv O<|bX O O (λw=>eI _ _ 0 dc w) O O<|Mv O<|Ext O O<|Ext O O<|Asg O<|Asg O<|aa<|Xp<|Mv O<|Mv O<|Bnr O O (λ_=>a8 _ _ _)<|Asg O<|?_
  refine aa<|Xp<|Mv O<|Mv O<|bX O O (λw=>iL _ _ 0 _ dc (k1s (b.getD i 0) a (RT a b i) 5) w) O O<|Mv O<|Ext O O<|Ext O O<|Asg O<|Asg O<|aa<|Xp<|Mv O<|Mv O<|Bnr (v:=U64 (KC (b.getD i 0) a (RT a b i) 6)) O O (λw=>(a8 _ _ _).trans (congrArg (λz=>Result.ok (U64 z) w) (k2s (b.getD i 0) a (RT a b i) 5)))<|Asg O<|aa<|Xp<|Mv O<|Asg O<|aa<|Xp<|Mv O<|Bnr (v:=U64 (KT (b.getD i 0) a (RT a b i) 0*INV)) O O (λw=>cv _ _ INV)<|Asg O<|aa<|Xp<|Mv O<|Ca O (cO _ (PL.getD 0 0))<|Mv O<|Ext O O<|Ext O O<|Asg O<|Asg O<|aa<|Xp<|Mv O<|Mv O<|bX O O (λw=>eI _ _ 0 dc w) O O<|Mv O<|?_;refine Ext O O<|Ext O O<|Asg O<|aa<|Xp<|Mv O<|Mv O<|Bnr (v:=U64 (KD (KT (b.getD i 0) a (RT a b i) 0*INV) PL (T1 (b.getD i 0) a (RT a b i)) 0)) O O (λw=>(a8 _ _ _).trans (congrArg (λz=>Result.ok (U64 z) w) (d2z (b.getD i 0) (KT (b.getD i 0) a (RT a b i) 0*INV) a (RT a b i))))<|Asg O<|aa<|Xp<|Mv O<|Ca O (cO _ (PL.getD 1 0))<|Mv O<|Ext O O<|Ext O O<|Asg O<|Asg O<|aa<|Xp<|Mv O<|Mv O<|bX O O (λw=>eI _ _ 0 dc w) O O<|Mv O<|Ext O O<|Ext O O<|Asg O<|Asg O<|aa<|Xp<|Mv O<|Mv O<|Bnr O O (λ_=>a8 _ _ _)<|Asg O<|aa<|Xp<|Mv O<|Mv O<|bX O O (λw=>iL _ _ 0 _ dc (d1s (b.getD i 0) (KT (b.getD i 0) a (RT a b i) 0*INV) a (RT a b i) 0 dc) w) O O<|Mv O<|?_;refine Ext O O<|Ext O O<|Asg O<|Asg O<|aa<|Xp<|Mv O<|Mv O<|Bnr (v:=U64 (KD (KT (b.getD i 0) a (RT a b i) 0*INV) PL (T1 (b.getD i 0) a (RT a b i)) 1)) O O (λw=>(a8 _ _ _).trans (congrArg (λz=>Result.ok (U64 z) w) (d2s (b.getD i 0) (KT (b.getD i 0) a (RT a b i) 0*INV) a (RT a b i) 0 dc)))<|Asg O<|aa<|Xp<|Mv O<|Ca O (cO _ (PL.getD 2 0))<|Mv O<|Ext O O<|Ext O O<|Asg O<|Asg O<|aa<|Xp<|Mv O<|Mv O<|bX O O (λw=>eI _ _ 0 dc w) O O<|Mv O<|Ext O O<|Ext O O<|Asg O<|Asg O<|aa<|Xp<|Mv O<|Mv O<|Bnr O O (λ_=>a8 _ _ _)<|Asg O<|aa<|Xp<|Mv O<|Mv O<|bX O O (λw=>iL _ _ 0 _ dc (d1s (b.getD i 0) (KT (b.getD i 0) a (RT a b i) 0*INV) a (RT a b i) 1 dc) w) O O<|?_;refine Mv O<|Ext O O<|Ext O O<|Asg O<|Asg O<|aa<|Xp<|Mv O<|Mv O<|Bnr (v:=U64 (KD (KT (b.getD i 0) a (RT a b i) 0*INV) PL (T1 (b.getD i 0) a (RT a b i)) 2)) O O (λw=>(a8 _ _ _).trans (congrArg (λz=>Result.ok (U64 z) w) (d2s (b.getD i 0) (KT (b.getD i 0) a (RT a b i) 0*INV) a (RT a b i) 1 dc)))<|Asg O<|aa<|Xp<|Mv O<|Ca O (cO _ (PL.getD 3 0))<|Mv O<|Ext O O<|Ext O O<|Asg O<|Asg O<|aa<|Xp<|Mv O<|Mv O<|bX O O (λw=>eI _ _ 0 dc w) O O<|Mv O<|Ext O O<|Ext O O<|Asg O<|Asg O<|aa<|Xp<|Mv O<|Mv O<|Bnr O O (λ_=>a8 _ _ _)<|Asg O<|aa<|Xp<|Mv O<|Mv O<|?_;refine bX O O (λw=>iL _ _ 0 _ dc (d1s (b.getD i 0) (KT (b.getD i 0) a (RT a b i) 0*INV) a (RT a b i) 2 dc) w) O O<|Mv O<|Ext O O<|Ext O O<|Asg O<|Asg O<|aa<|Xp<|Mv O<|Mv O<|Bnr (v:=U64 (KD (KT (b.getD i 0) a (RT a b i) 0*INV) PL (T1 (b.getD i 0) a (RT a b i)) 3)) O O (λw=>(a8 _ _ _).trans (congrArg (λz=>Result.ok (U64 z) w) (d2s (b.getD i 0) (KT (b.getD i 0) a (RT a b i) 0*INV) a (RT a b i) 2 dc)))<|Asg O<|aa<|Xp<|Mv O<|Ca O (cO _ (PL.getD 4 0))<|Mv O<|Ext O O<|Ext O O<|Asg O<|Asg O<|aa<|Xp<|Mv O<|Mv O<|bX O O (λw=>eI _ _ 0 dc w) O O<|Mv O<|Ext O O<|Ext O O<|Asg O<|Asg O<|aa<|Xp<|Mv O<|Mv O<|Bnr O O (λ_=>a8 _ _ _)<|Asg O<|aa<|Xp<|Mv O<|?_;refine Mv O<|bX O O (λw=>iL _ _ 0 _ dc (d1s (b.getD i 0) (KT (b.getD i 0) a (RT a b i) 0*INV) a (RT a b i) 3 dc) w) O O<|Mv O<|Ext O O<|Ext O O<|Asg O<|Asg O<|aa<|Xp<|Mv O<|Mv O<|Bnr (v:=U64 (KD (KT (b.getD i 0) a (RT a b i) 0*INV) PL (T1 (b.getD i 0) a (RT a b i)) 4)) O O (λw=>(a8 _ _ _).trans (congrArg (λz=>Result.ok (U64 z) w) (d2s (b.getD i 0) (KT (b.getD i 0) a (RT a b i) 0*INV) a (RT a b i) 3 dc)))<|Asg O<|aa<|Xp<|Mv O<|Ca O (cO _ (PL.getD 5 0))<|Mv O<|Ext O O<|Ext O O<|Asg O<|Asg O<|aa<|Xp<|Mv O<|Mv O<|bX O O (λw=>eI _ _ 0 dc w) O O<|Mv O<|Ext O O<|Ext O O<|Asg O<|Asg O<|aa<|Xp<|Mv O<|Mv O<|Bnr O O (λ_=>a8 _ _ _)<|Asg O<|aa<|Xp<|?_;refine Mv O<|Mv O<|bX O O (λw=>iL _ _ 0 _ dc (d1s (b.getD i 0) (KT (b.getD i 0) a (RT a b i) 0*INV) a (RT a b i) 4 dc) w) O O<|Mv O<|Ext O O<|Ext O O<|Asg O<|Asg O<|aa<|Xp<|Mv O<|Mv O<|Bnr (v:=U64 (KD (KT (b.getD i 0) a (RT a b i) 0*INV) PL (T1 (b.getD i 0) a (RT a b i)) 5)) O O (λw=>(a8 _ _ _).trans (congrArg (λz=>Result.ok (U64 z) w) (d2s (b.getD i 0) (KT (b.getD i 0) a (RT a b i) 0*INV) a (RT a b i) 4 dc)))<|Asg O<|aa<|Xq<|Mv O<|Mv O<|Bnr O O (λ_=>a8 _ _ _)<|Asg O<|aa<|Xq<|Mv O<|Bnr O O (λ_=>aq _ _ _ oi)<|Asg O<|aa<|?_
  repeat (refine aL ?_)
  exact aB<|⟨rfl,⟨i+1,om⟩,_,by show 6-(i+1)<6-i;omega,rfl,⟨rfl,rfl,rfl,congrArg (λz=>some (U64 z)) (Ho a b i 0 dc).symm,congrArg (λz=>some (U64 z)) (Ho a b i 1 dc).symm,congrArg (λz=>some (U64 z)) (Ho a b i 2 dc).symm,congrArg (λz=>some (U64 z)) (Ho a b i 3 dc).symm,congrArg (λz=>some (U64 z)) (Ho a b i 4 dc).symm,congrArg (λz=>some (U64 z)) (PI a b i).symm,rfl,trivial⟩,trv⟩
 ·obtain rfl:i=6:=by simp at hc;omega
  refine aU<|Xp<|Mv O<|Mv O<|Mv O<|Mv O<|Mv O<|Mv O<|bR (n:=6) (vs:=(RT a b 6).map U64) (congrArg some (IX (RT a b 6) (i9 _ _ _))) O underlying37 sizeOf24 zeroValue37 (by rw[List.length_map,i9];rfl) (ba _) O O<|Al 19 hGF zv37<|λb19=>Sw 19 hGF O O O ce (i9 _ _ _)<|aa<|ae<|Xa [0,1,2,3,4,5] ⟨6,20,37,(List.replicate 6 0#64).map U64⟩ [7,8] (bD O zv37 O)<|Lw 19 O O ce (i9 _ _ _)<|Ca O (gJ)<|Ca O (fq _ _ (i9 _ _ _) O)<|Mv O<|Ext O O<|Ext O O<|aa<|?_
  refine ⟨_,_,rfl,hGF,by intro x hx;simp only[List.mem_cons,List.not_mem_nil,or_false]at hx;subst hx;rfl,by intro x hx;simp only[List.mem_cons,List.not_mem_nil,or_false]at hx;subst hx;rfl,λadr=> ?_⟩
  refine Sw 20 hGF O O O ce (aA _ _ _)<|Asg O<|aa<|Xp<|Mv O<|?_;by_cases h0:(SS (RT a b 6) PL 6).2=0
  ·refine Bnr (v:=.bool true) O O (λw=>(bj _ _ _).trans (congrArg (λb=>Result.ok (Value.bool b) w) (beq_iff_eq.2 h0)))<|aa<|aP O<|Xq<|Lw 20 O O ce (aA _ _ _)<|az 19 hGF O O O sizeOf37 (by rw[List.length_map,aA _ _ _]) (by rw[List.length_map,i9 _ _ _]) (ba _) O<|aa<|Xp<|Lw 19 O O ce (aA _ _ _)<|Sw 4 hGF O O O ce (aA _ _ _)<|aa<|ak<|Rr<|?_
   exact au 4 O O O isAgg37 sizeOf37 (by rw[List.length_map,aA]) (λw hw=>⟨by rw[RM,if_pos h0],ab hw⟩)
  ·refine Bnr (v:=.bool false) O O (λw=>(bj _ _ _).trans (congrArg (λb=>Result.ok (Value.bool b) w) (beq_eq_false_iff_ne.2 h0)))<|aa<|aC O<|ap<|Xp<|Lw 19 O O ce (i9 _ _ _)<|Sw 4 hGF O O O ce (i9 _ _ _)<|aa<|ak<|Rr<|?_
   exact au 4 O O O isAgg37 sizeOf37 (by rw[List.length_map,i9]) (λw hw=>⟨by rw[RM,if_neg h0],ab hw⟩)
end
section
open Go.RowKit
theorem ent100:ai prog 100:=λ_ _=>kr
theorem ent98:ai prog 98:=λ_ _=>kr
theorem ent149:ai prog 149:=λ_ _=>kr
theorem ent148:ai prog 148:=λ_ _=>kr
theorem ent141:ai prog 141:=λ_ _=>kr
theorem ent147:ai prog 147:=λ_ _=>kr
theorem ent185:ai prog 185:=λ_ _=>kr
theorem zv39(w:World):(zeroValue 39).run prog w=.ok (aJ (List.replicate 6 (0#64))) w:=(zeroValue39 w).trans rr
def Cv(a b:L6):L6:=if 1873798617647539866#64<=(AS a b 6).1.getD 5 0/\(SS (AS a b 6).1 PL 6).2=0 then (SS (AS a b 6).1 PL 6).1 else (AS a b 6).1
def DV(a b:L6):L6:=if (SS a b 6).2=1 then (AS (SS a b 6).1 PL 6).1 else (SS a b 6).1
def EH(a:L6):L6:=if a=List.replicate 6 0 then a else (SS PL a 6).1
theorem pJ(a:L6)(ha:a.length=6):PUR 134 [aJ (a)] (aJ (RM a TWO)):=by
 intro w hw;refine Hf func134 O hw<|λhGF=>Xp<|Bx 1 hGF O<|λb1=>Al 2 hGF zv39<|λb2=>aa<|Xd []<|Lw 1 O O ce ha<|Ca O (B6)<|Ca O (lU _ _ ha tF)<|ch O (aY _ _) underlying39 O sizeOf37 zv39 O O<|Sw 2 hGF O O O dp (aY _ _)<|aa<|ak<|Rr<|?_;exact au 2 O O O isAgg39 sizeOf39 (by rw[List.length_map,aY]) (λw hw=>⟨rfl,ab hw⟩)
theorem jH(a:L6)(ha:a.length=6):PUR 48 [aJ (a)] (aJ (RM a N1)):=by
 intro w hw;refine Hf func48 O hw<|λhGF=>Xp<|Bx 1 hGF O<|λb1=>Al 2 hGF zv37<|λb2=>aa<|Xp<|Fa 0 O underlying39 O sizeOf37<|Lw 1 O O ce ha<|eu 1 O underlying37 sizeOf24 zv37 O O<|Ca O (lU _ _ ha PU)<|Sw 2 hGF O O O ce (aY _ _)<|aa<|ak<|Rr<|?_;exact au 2 O O O isAgg37 sizeOf37 (by rw[List.length_map,aY]) (λw hw=>⟨rfl,ab hw⟩)
theorem m3(a b:L6)(ha:a.length=6)(hb:b.length=6):PUR 147 [aJ (a),aJ (b)] (aJ (RM a b)):=by
 intro w hw;refine Hf func147 O hw<|λhGF=>Xp<|Bx 2 hGF O<|λb2=>Bx 3 hGF O<|λb3=>Al 4 hGF zv39<|λb4=>aa<|Xp<|Fa 0 O underlying39 O sizeOf37<|Lw 2 O O ce ha<|Fa 0 O underlying39 O sizeOf37<|Lw 3 O O ce hb<|Ca O (lU _ _ ha hb)<|ch O (aY _ _) underlying39 O sizeOf37 zv39 O O<|Sw 4 hGF O O O dp (aY _ _)<|aa<|ak<|Rr<|?_;exact au 4 O O O isAgg39 sizeOf39 (by rw[List.length_map,aY]) (λw hw=>⟨rfl,ab hw⟩)
theorem we(n:BitVec 64):PUR 100 [U64 n] (aJ (RM (n::List.replicate 5 0) TWO)):=by
 intro w hw;refine Hf func100 O hw<|λhGF=>Xp<|Al 2 hGF zv39<|λb2=>aa<|Xp<|Mv O<|eu n O underlying37 sizeOf24 zv37 O O<|Ca O (pJ (n::List.replicate 5 0) O)<|Sw 2 hGF O O O dp (aY _ _)<|aa<|ak<|Rr<|?_;exact au 2 O O O isAgg39 sizeOf39 (by rw[List.length_map,aY]) (λw hw=>⟨rfl,ab hw⟩)
theorem jA(a:L6)(ha:a.length=6):PUR 98 [aJ (a)] (.bool (decide (a=List.replicate 6 0))):=by
 intro w hw;refine Hf func98 O hw<|λhGF=>Xp<|Bx 1 hGF O<|λb1=>Asg O<|aa<|Xp<|Fa 0 O underlying39 O sizeOf37<|Lw 1 O O ce ha<|dX zv37 underlying37 sizeOf24 O O<|cr (v:=.bool (decide (a=List.replicate 6 0#64))) O O (λ_=>K9 _ _ _ _ _ _) (λw=>U1 a (List.replicate 6 0#64) ha O w) O O<|Asg O<|aa<|ak<|Rr<|?_;exact aE O O (λw hw=>⟨rfl,ab hw⟩)
theorem yv(a b:L6)(ha:a.length=6)(hb:b.length=6):PUR 54 [aJ (a),aJ (b)] (.bool (decide ((SS a b 6).2=1))):=by
 intro w hw;refine Hf func54 O hw<|λhGF=>Xp<|Bx 2 hGF O<|λb2=>Bx 3 hGF O<|λb3=>Asg O<|aa<|Xp<|Lw 2 O O ce ha<|Lw 3 O O ce hb<|Ca O (fq _ _ ha hb)<|Mv O<|Ext O O<|Ext O O<|Al 5 hGF zv37<|λb5=>Sw 5 hGF O O O ce (aA _ _ _)<|Asg O<|aa<|Xp<|Mv O<|Bnr (v:=.bool (decide ((SS a b 6).2=1))) O O (λw=>(bj _ _ _).trans O)<|Asg O<|aa<|ak<|Rr<|?_;exact aE O O (λw hw=>⟨rfl,ab hw⟩)
theorem xh(a b:L6)(ha:a.length=6)(hb:b.length=6):PUR 148 [aJ (a),aJ (b)] (aJ (DV a b)):=by
 intro w hw;refine Hf func148 O hw<|λhGF=>Xp<|Bx 2 hGF O<|λb2=>Bx 3 hGF O<|λb3=>Al 4 hGF zv39<|λb4=>aa<|Xp<|Fa 0 O underlying39 O sizeOf37<|Lw 2 O O ce ha<|Fa 0 O underlying39 O sizeOf37<|Lw 3 O O ce hb<|Ca O (fq _ _ ha hb)<|Mv O<|Ext O O<|Ext O O<|Al 5 hGF zv37<|λb5=>Sw 5 hGF O O O ce (aA _ _ _)<|Asg O<|aa<|ae<|Xp<|Mv O<|?_;by_cases h0:(SS a b 6).2=1
 ·refine Bnr (v:=.bool true) O O (λw=>(bj _ _ _).trans (congrArg (λb=>Result.ok (Value.bool b) w) (beq_iff_eq.2 h0)))<|aa<|aP O<|Xe []<|Lw 5 O O ce (aA _ _ _)<|Ca O (gJ)<|Ca O (jj _ _ (aA _ _ _) eP)<|Mv O<|Ext O O<|Ext O O<|az 5 hGF O O O sizeOf37 (by rw[List.length_map,aH _ _ _]) (by rw[List.length_map,aA _ _ _]) (ba _) O<|aa<|Xp<|Lw 5 O O ce (aH _ _ _)<|ch O (aH _ _ _) underlying39 O sizeOf37 zv39 O O<|Sw 4 hGF O O O dp (aH _ _ _)<|aa<|ak<|Rr<|?_
  exact au 4 O O O isAgg39 sizeOf39 (by rw[List.length_map];exact aH _ _ _) (λw hw=>⟨by rw[DV,if_pos h0],ab hw⟩)
 ·refine Bnr (v:=.bool false) O O (λw=>(bj _ _ _).trans (congrArg (λb=>Result.ok (Value.bool b) w) (beq_eq_false_iff_ne.2 h0)))<|aa<|aC O<|ap<|Xp<|Lw 5 O O ce (aA _ _ _)<|ch O (aA _ _ _) underlying39 O sizeOf37 zv39 O O<|Sw 4 hGF O O O dp (aA _ _ _)<|aa<|ak<|Rr<|?_
  exact au 4 O O O isAgg39 sizeOf39 (by rw[List.length_map];exact aA _ _ _) (λw hw=>⟨by rw[DV,if_neg h0],ab hw⟩)
theorem CE(a:L6)(ha:a.length=6):PUR 141 [aJ (a)] (aJ (EH a)):=by
 intro w hw;refine Hf func141 O hw ?_;intro hGF;by_cases h0:a=List.replicate 6 0
 ·refine Xp<|Bx 1 hGF O<|λb1=>Al 2 hGF zv39<|λb2=>aa<|ae<|Xp<|Lw 1 O O dp ha<|mK (v:=.bool true) O O ent98 (decide_eq_true h0▸jA a ha) O O<|aa<|aP O<|Xp<|Lw 1 O O dp ha<|Sw 2 hGF O O O dp ha<|aa<|ak<|Rr<|?_
  exact au 2 O O O isAgg39 sizeOf39 (by rw[List.length_map];exact ha) (λw hw=>⟨by rw[EH,if_pos h0],ab hw⟩)
 ·refine Xp<|Bx 1 hGF O<|λb1=>Al 2 hGF zv39<|λb2=>aa<|ae<|Xp<|Lw 1 O O dp ha<|mK (v:=.bool false) O O ent98 (decide_eq_false h0▸jA a ha) O O<|aa<|aC O<|ap<|Xa [0,1,2,3,4,5,6] ⟨7,3,37,(List.replicate 6 0#64).map U64⟩ [8,9] (bD O zv37 O)<|Ca O (gJ)<|Fa 0 O underlying39 O sizeOf37<|Lw 1 O O ce ha<|Ca O (fq _ _ eP ha)<|Mv O<|Ext O O<|Ext O O<|aa<|?_
  refine ⟨_,_,rfl,hGF,by intro x hx;simp only[List.mem_cons,List.not_mem_nil,or_false]at hx;subst hx;rfl,by intro x hx;simp only[List.mem_cons,List.not_mem_nil,or_false]at hx;subst hx;rfl,λadr=> ?_⟩
  refine Sw 3 hGF O O O ce (aA _ _ _)<|Asg O<|aa<|Xp<|Lw 3 O O ce (aA _ _ _)<|ch O (aA _ _ _) underlying39 O sizeOf37 zv39 O O<|Sw 2 hGF O O O dp (aA _ _ _)<|aa<|ak<|Rr<|?_;exact au 2 O O O isAgg39 sizeOf39 (by rw[List.length_map];exact aA _ _ _) (λw hw=>⟨by rw[EH,if_neg h0],ab hw⟩)
theorem ya(a b:L6)(ha:a.length=6)(hb:b.length=6):PUR 149 [aJ (a),aJ (b)] (aJ (Cv a b)):=by
 intro w hw;refine Hf func149 O hw ?_;intro hGF;by_cases h1:1873798617647539866#64<=(AS a b 6).1.getD 5 0
 ·by_cases h0:(SS (AS a b 6).1 PL 6).2=0
  ·refine Xp<|Bx 2 hGF O<|λb2=>Bx 3 hGF O<|λb3=>Al 4 hGF zv39<|λb4=>aa<|Xp<|Fa 0 O underlying39 O sizeOf37<|Lw 2 O O ce ha<|Fa 0 O underlying39 O sizeOf37<|Lw 3 O O ce hb<|Ca O (jj _ _ ha hb)<|Mv O<|Ext O O<|Ext O O<|Al 5 hGF zv37<|λb5=>Sw 5 hGF O O O ce (aH _ _ _)<|Asg O<|aa<|ae<|Xp<|Ia (5) O O underlying37 sizeOf24<|Lm 5 U64 0 O O isAgg24 (by rw[aH _ _ _];omega)<|Bnr (v:=.bool true) O O (λw=>(fR _ _ 1873798617647539866#64).trans (congrArg (λb=>Result.ok (Value.bool b) w) (decide_eq_true h1)))<|aa<|aP O<|Xa [0,1,2,3,4,5] ⟨6,7,37,(List.replicate 6 0#64).map U64⟩ [7,8] (bD O zv37 O)<|Lw 5 O O ce (aH _ _ _)<|Ca O (gJ)<|Ca O (fq _ _ (aH _ _ _) eP)<|Mv O<|Ext O O<|Ext O O<|aa<|?_
   refine ⟨_,_,rfl,hGF,by intro x hx;simp only[List.mem_cons,List.not_mem_nil,or_false]at hx;subst hx;rfl,by intro x hx;simp only[List.mem_cons,List.not_mem_nil,or_false]at hx;subst hx;rfl,λadr=> ?_⟩
   refine Sw 7 hGF O O O ce (aA _ _ _)<|Asg O<|aa<|Xp<|Mv O<|Bnr (v:=.bool true) O O (λw=>(bj _ _ _).trans (congrArg (λb=>Result.ok (Value.bool b) w) (beq_iff_eq.2 h0)))<|aa<|aP O<|Xq<|Lw 7 O O ce (aA _ _ _)<|az 5 hGF O O O sizeOf37 (by rw[List.length_map,aA _ _ _]) (by rw[List.length_map,aH _ _ _]) (ba _) O<|aa<|Xp<|Lw 5 O O ce (aA _ _ _)<|ch O (aA _ _ _) underlying39 O sizeOf37 zv39 O O<|Sw 4 hGF O O O dp (aA _ _ _)<|aa<|ak<|Rr<|?_
   exact au 4 O O O isAgg39 sizeOf39 (by rw[List.length_map];exact aA _ _ _) (λw hw=>⟨by rw[Cv,if_pos ⟨h1,h0⟩],ab hw⟩)
  ·refine Xp<|Bx 2 hGF O<|λb2=>Bx 3 hGF O<|λb3=>Al 4 hGF zv39<|λb4=>aa<|Xp<|Fa 0 O underlying39 O sizeOf37<|Lw 2 O O ce ha<|Fa 0 O underlying39 O sizeOf37<|Lw 3 O O ce hb<|Ca O (jj _ _ ha hb)<|Mv O<|Ext O O<|Ext O O<|Al 5 hGF zv37<|λb5=>Sw 5 hGF O O O ce (aH _ _ _)<|Asg O<|aa<|ae<|Xp<|Ia (5) O O underlying37 sizeOf24<|Lm 5 U64 0 O O isAgg24 (by rw[aH _ _ _];omega)<|Bnr (v:=.bool true) O O (λw=>(fR _ _ 1873798617647539866#64).trans (congrArg (λb=>Result.ok (Value.bool b) w) (decide_eq_true h1)))<|aa<|aP O<|Xa [0,1,2,3,4,5] ⟨6,7,37,(List.replicate 6 0#64).map U64⟩ [7,8] (bD O zv37 O)<|Lw 5 O O ce (aH _ _ _)<|Ca O (gJ)<|Ca O (fq _ _ (aH _ _ _) eP)<|Mv O<|Ext O O<|Ext O O<|aa<|?_
   refine ⟨_,_,rfl,hGF,by intro x hx;simp only[List.mem_cons,List.not_mem_nil,or_false]at hx;subst hx;rfl,by intro x hx;simp only[List.mem_cons,List.not_mem_nil,or_false]at hx;subst hx;rfl,λadr=> ?_⟩
   refine Sw 7 hGF O O O ce (aA _ _ _)<|Asg O<|aa<|Xp<|Mv O<|Bnr (v:=.bool false) O O (λw=>(bj _ _ _).trans (congrArg (λb=>Result.ok (Value.bool b) w) (beq_eq_false_iff_ne.2 h0)))<|aa<|aC O<|ap<|Xp<|Lw 5 O O ce (aH _ _ _)<|ch O (aH _ _ _) underlying39 O sizeOf37 zv39 O O<|Sw 4 hGF O O O dp (aH _ _ _)<|aa<|ak<|Rr<|?_;exact au 4 O O O isAgg39 sizeOf39 (by rw[List.length_map];exact aH _ _ _) (λw hw=>⟨by rw[Cv,if_neg (λh=>h0 h.2)],ab hw⟩)
 ·refine Xp<|Bx 2 hGF O<|λb2=>Bx 3 hGF O<|λb3=>Al 4 hGF zv39<|λb4=>aa<|Xp<|Fa 0 O underlying39 O sizeOf37<|Lw 2 O O ce ha<|Fa 0 O underlying39 O sizeOf37<|Lw 3 O O ce hb<|Ca O (jj _ _ ha hb)<|Mv O<|Ext O O<|Ext O O<|Al 5 hGF zv37<|λb5=>Sw 5 hGF O O O ce (aH _ _ _)<|Asg O<|aa<|ae<|Xp<|Ia (5) O O underlying37 sizeOf24<|Lm 5 U64 0 O O isAgg24 (by rw[aH _ _ _];omega)<|Bnr (v:=.bool false) O O (λw=>(fR _ _ 1873798617647539866#64).trans (congrArg (λb=>Result.ok (Value.bool b) w) (decide_eq_false h1)))<|aa<|aC O<|ap<|Xp<|Lw 5 O O ce (aH _ _ _)<|ch O (aH _ _ _) underlying39 O sizeOf37 zv39 O O<|Sw 4 hGF O O O dp (aH _ _ _)<|aa<|ak<|Rr<|?_
  exact au 4 O O O isAgg39 sizeOf39 (by rw[List.length_map];exact aH _ _ _) (λw hw=>⟨by rw[Cv,if_neg (λh=>h1 h.1)],ab hw⟩)
theorem BJ(a:L6)(ha:a.length=6):PUR 185 [aJ (a)] (.bool (decide ((RM a N1).getD 0 0 &&& 1#64=1#64))):=by
 intro w hw;refine Hf func185 O hw<|λhGF=>Xp<|Bx 1 hGF O<|λb1=>Asg O<|aa<|Xp<|Lw 1 O O dp ha<|Ca O (jH a ha)<|i1 U64 0 (0) O O underlying37 sizeOf24 isAgg24 om om (aY _ _) O O<|Bnr O O (λw=>d9 _ _ 1#64)<|Bnr (v:=.bool (decide ((RM a N1).getD 0 0 &&& 1#64=1#64))) O O (λw=>(bj _ _ 1#64).trans O)<|Asg O<|aa<|ak<|Rr<|?_;exact aE O O (λw hw=>⟨rfl,ab hw⟩)
end
section
open Go.RowKit
theorem ent85:ai prog 85:=λ_ _=>kr
theorem DA(x y c:BitVec 64)(hc:c.toNat<=1):(ADC x y c).2.toNat<=1:=zS x y c hc
def AB(t:L6)(c:BitVec 64):Nat->L6×BitVec 64
 |0=>(t.set 0 (ADC (t.getD 0 0) c 0).1,(ADC (t.getD 0 0) c 0).2)
 |j+1=>((AB t c j).1.set (j+1) (ADC ((AB t c j).1.getD (j+1) 0) 0 (AB t c j).2).1,(ADC ((AB t c j).1.getD (j+1) 0) 0 (AB t c j).2).2)
theorem nt(t:L6)(c:BitVec 64): ∀j,(AB t c j).1.length=t.length
 |0=>by rw[AB,List.length_set]
 |j+1=>by rw[AB,List.length_set,nt t c j]
theorem Ux(t:L6)(c:BitVec 64): ∀j,(AB t c j).2.toNat<=1
 |0=>DA _ _ _ dc
 |j+1=>DA _ _ _ (Ux t c j)
def WDs(bs:L8)(m:L6):Nat->L6
 |0=>List.replicate 6 0
 |i+1=>MOD (AB (MU (WDs bs m i) (256#64::List.replicate 5 0) 6) ((bs.getD i 0).setWidth 64) 11).1 m
theorem fY(bs:L8)(m:L6): ∀i,(WDs bs m i).length=6
 |0=>rfl
 |_+1=>mu _ _
theorem uL(bs:L8)(m:L6)(i:Nat):WDs bs m (i+1)=MOD (AB (MU (WDs bs m i) (256#64::List.replicate 5 0) 6) ((bs.getD i 0).setWidth 64) 11).1 m:=by rw[WDs]
theorem vB(e:Option Addr)(cap:Nat)(bs:L8)(m:L6)(hm:m.length=6)(hlen:bs.length<=1000000)(w:World)(hw:Gt w)(hby:BytesAt w e bs):
 CLS 85 [.slice e bs.length cap,aJ (m)].toArray w (λr w'=>r=.returned (aJ (WDs bs m bs.length))/\Grow w w'):=by
 refine Hf func85 O hw<|λhGF=>Xp<|Bx 3 hGF O<|λb3=>Al 4 hGF zv37<|λb4=>aa<|Xp<|Al 5 hGF zv37<|λb5=>aa<|ae<|Xp<|Asg O<|aa<|ah<|bG (ι:={i:Nat // i<=bs.length}) (λx=>[(0,.slice e bs.length cap),(3,pnt b3),(4,pnt b4),(5,pnt b5),(6,I (x.1:Int))]) (λx=>[(3,b3,m.map U64,37),(4,b4,(List.replicate 6 0#64).map U64,37),(5,b5,(WDs bs m x.1).map U64,37)]) (λx=>bs.length-x.1) ⟨0,om⟩ hGF trv trv<|?_;rintro ⟨i,hi⟩;dsimp only;refine ae<|Xp<|Mv O<|Mv O<|bc O (λ_=>aF underlying22 _ _ _ _) O O<|Bnr O O (λ_=>av _ _ _)<|aa<|?_;refine bC O (λhc=> ?_) (λhc=> ?_)
 ·simp only[decide_eq_true_eq]at hc
  refine ap<|ae<|ah<|Xp<|Lw 5 O O ce (fY _ _ _)<|eu 256#64 O underlying37 sizeOf24 zv37 O O<|Ca O (wM (WDs bs m i) (256#64::List.replicate 5 0) (fY _ _ _) O)<|Al 7 hGF zv117<|λb7=>Sw 7 hGF O O O C9 (ib _ _ _)<|aa<|Xp<|Asg O<|?_;generalize hM:(MU (WDs bs m i) (256#64::List.replicate 5 0) 6)=M0;have hM0:M0.length=12:=by rw[<-hM,ib]
  refine aa<|Xd []<|Ia (0) O O underlying117 sizeOf24<|Lm 7 U64 0 O O isAgg24 (by rw[hM0];omega)<|Mv O<|Mv O<|?_
  obtain ⟨ad,rfl,_⟩:=hby i _ (gm U8 bs 0 i om);refine gA i O O underlying22 sizeOf5 O om O O<|bN O isAgg5 (λw' h=>by obtain ⟨ad',e,hc⟩:=(hby.grow (ab h)) i _ (gm U8 bs 0 i om);cases e;exact hc) O O<|bV O O (λ_=>kW underlying5 underlying24 _) O O<|bX O O (λw=>eI _ _ 0 dc w) O O<|Mv O<|Ext O O<|Ext O O<|Ia (0) O O underlying117 sizeOf24<|aX 7 U64 hGF O O O sizeOf24 O (by rw[hM0];omega) O<|Asg O<|aa<|ae<|Xp<|Asg O<|aa<|ah<|bG (ι:={i:Nat // i<=11}) (λx=>[(0,.slice (some ad) bs.length cap),(3,pnt b3),(4,pnt b4),(5,pnt b5),(6,I (i:Int)),(7,pnt b7),(8,U64 (AB M0 ((bs.getD i 0).setWidth 64) x.1).2),(9,I ((x.1+1:Nat):Int))]) (λx=>[(3,b3,m.map U64,37),(4,b4,(List.replicate 6 0#64).map U64,37),(5,b5,(WDs bs m i).map U64,37),(7,b7,(AB M0 ((bs.getD i 0).setWidth 64) x.1).1.map U64,117)]) (λx=>11-x.1) ⟨0,om⟩ hGF trv trv<|?_
  rintro ⟨j,hj⟩;dsimp only;refine ae<|Xp<|Mv O<|Bnr O O (λ_=>av _ _ _)<|aa<|?_;refine bC O (λhc=> ?_) (λhc=> ?_)
  ·simp only[decide_eq_true_eq]at hc
   refine ap<|ae<|ah<|Xq<|Mv O<|Mv O<|Ia ((j+1)) O O underlying117 sizeOf24<|Lm 7 U64 0 O O isAgg24 (by rw[nt,hM0];omega)<|Mv O<|bX O O (λw=>eI _ 0 _ (Ux _ _ _) w) O O<|Mv O<|Ext O O<|Ext O O<|Ia ((j+1)) O O underlying117 sizeOf24<|aX 7 U64 hGF O O O sizeOf24 O (by rw[nt,hM0];omega) O<|Asg O<|aa<|Xq<|Mv O<|Bnr O O (λ_=>aq _ _ _ oi)<|Asg O<|aa<|?_
   repeat (refine aL ?_)
   exact aB<|⟨rfl,⟨j+1,om⟩,_,by show 11-(j+1)<11-j;omega,rfl,trv,trv⟩
  ·obtain rfl:j=11:=by simp at hc;omega
   refine aU<|Xq<|bS 7 O O isAgg117 sizeOf117 (by rw[List.length_map,nt,hM0]) O O<|Lw 3 O O ce hm<|Ca O (Cp _ _ (by rw[nt,hM0]) hm)<|az 5 hGF O O O sizeOf37 (by rw[List.length_map,mu _ _]) (by rw[List.length_map,fY]) (ba _) O<|aa<|Xq<|Mv O<|Bnr O O (λ_=>aq _ _ _ oi)<|Asg O<|aa<|?_
   repeat (refine aL ?_)
   exact aB<|⟨rfl,⟨i+1,om⟩,_,by show bs.length-(i+1)<bs.length-i;omega,rfl,trv,⟨rfl,rfl,by rw[uL,hM];rfl,trivial⟩⟩
 ·obtain rfl:i=bs.length:=by simp at hc;omega
  refine aU<|Xp<|Lw 5 O O ce (fY _ _ _)<|Sw 4 hGF O O O ce (fY _ _ _)<|aa<|ak<|Rr<|?_;exact au 4 O O O isAgg37 sizeOf37 (by rw[List.length_map,fY]) (λw hw=>⟨rfl,ab hw⟩)
end
section
open Go.RowKit
theorem ent189:ai prog 189:=λ_ _=>kr
def dH(bs:L8)(i:Nat):BitVec 8:=(bs.getD (i / 8) 0>>>(7-i % 8)) &&& 1#8
def RP(a:L6)(bs:L8):Nat->L6
 |0=>ONE
 |i+1=>if dH bs i=1#8 then RM (RM (RP a bs i) (RP a bs i)) a else RM (RP a bs i) (RP a bs i)
theorem i4(a:L6)(bs:L8): ∀i,(RP a bs i).length=6
 |0=>rfl
 |i+1=>by
  unfold RP;split
  ·exact aY _ _
  ·exact aY _ _
theorem N0(a:L6)(bs:L8)(i:Nat)(h:dH bs i=1#8):RP a bs (i+1)=RM (RM (RP a bs i) (RP a bs i)) a:=by rw[RP,if_pos h]
theorem Oh(a:L6)(bs:L8)(i:Nat)(h: ¬dH bs i=1#8):RP a bs (i+1)=RM (RP a bs i) (RP a bs i):=by rw[RP,if_neg h]
theorem pI(a:L6)(ha:a.length=6)(e:Option Addr)(cap:Nat)(bs:L8)(hlen:bs.length<=4096)(w:World)(hw:Gt w)(hby:BytesAt w e bs):
 CLS 189 [aJ (a),.slice e bs.length cap].toArray w (λr w'=>r=.returned (aJ (RP a bs (8*bs.length)))/\Grow w w'):=by
 refine Hf func189 O hw<|λhGF=>Xp<|Bx 2 hGF O<|λb2=>Al 4 hGF zv39<|λb4=>aa<|Xp<|Ca O (CO)<|ch O (uB) underlying39 O sizeOf37 zv39 O O<|Al 5 hGF zv39<|λb5=>Sw 5 hGF O O O dp uB<|aa<|ae<|Xp<|Asg O<|aa<|ah<|bG (ι:={i:Nat // i<=8*bs.length}) (λx=>[(1,.slice e bs.length cap),(2,pnt b2),(4,pnt b4),(5,pnt b5),(6,I (x.1:Int))]) (λx=>[(2,b2,a.map U64,39),(4,b4,(List.replicate 6 0#64).map U64,39),(5,b5,(RP a bs x.1).map U64,39)]) (λx=>8*bs.length-x.1) ⟨0,om⟩ hGF trv trv<|?_;rintro ⟨i,hi⟩;dsimp only;refine ae<|Xp<|Mv O<|Mv O<|bc O (λ_=>aF underlying22 _ _ _ _) O O<|Bnr (v:=I ((8*bs.length:Nat):Int)) O O (λ_=>(bp _ _ _ oi).trans (by rw[show (8:Int)*(bs.length:Int)=((8*bs.length:Nat):Int) by omega]))<|Bnr O O (λ_=>av _ _ _)<|aa<|?_
 refine bC O (λhc=> ?_) (λhc=> ?_)
 ·simp only[decide_eq_true_eq]at hc
  refine ap<|ae<|ah<|Xp<|Lw 5 O O dp (i4 _ _ _)<|Lw 5 O O dp (i4 _ _ _)<|Ca O (m3 _ _ (i4 _ _ _) (i4 _ _ _))<|az 5 hGF O O O sizeOf39 (by rw[List.length_map,aY _ _]) (by rw[List.length_map,i4]) (ba _) O<|aa<|Xp<|Mv O<|Mv O<|Bnr (v:=I ((i / 8:Nat):Int)) O O (λ_=>fh _ _ _ dc (show inI ((i / 8:Nat):Int) by unfold inI;omega))<|?_
  obtain ⟨ad,rfl,_⟩:=hby (i / 8) _ (gm U8 bs 0 (i / 8) om);refine gA (i / 8) O O underlying22 sizeOf5 O om O O<|bN O isAgg5 (λw' h=>by obtain ⟨ad',e,hc⟩:=(hby.grow (ab h)) (i / 8) _ (gm U8 bs 0 (i / 8) om);cases e;exact hc) O O<|Mv O<|Bnr (v:=I ((i % 8:Nat):Int)) O O (λ_=>cX _ _ _ dc)<|Bnr (v:=I ((7-i % 8:Nat):Int)) O O (λ_=>(aV _ _ _ oi).trans (by rw[show ((7:Int)-((i % 8:Nat):Int))=((7-i % 8:Nat):Int) by omega]))<|Bnr (v:=U8 (bs.getD (i / 8) 0>>>(7-i % 8))) O O (λ_=>fk _ _ _ om)<|Bnr (v:=U8 (dH bs i)) O O (λ_=>cy _ _ 1#8)<|Bnr (v:=.bool (decide (dH bs i=1#8))) O O (λ_=>(cR _ _ 1#8).trans O)<|aa<|?_
  refine bC O (λhc=> ?_) (λhc=> ?_)
  ·simp only[decide_eq_true_eq]at hc
   have hq:=hc;refine Xq<|Lw 5 O O dp (aY _ _)<|Lw 2 O O dp ha<|Ca O (m3 _ _ (aY _ _) ha)<|az 5 hGF O O O sizeOf39 (by rw[List.length_map,aY _ _]) (by rw[List.length_map,aY _ _]) (ba _) O<|aa<|Xq<|Mv O<|Bnr O O (λ_=>aq _ _ _ oi)<|Asg O<|aa<|?_
   repeat (refine aL ?_)
   exact aB<|⟨rfl,⟨i+1,om⟩,_,by show 8*bs.length-(i+1)<8*bs.length-i;omega,rfl,trv,⟨rfl,rfl,by first|(rw[N0 a bs i hq];rfl)|(rw[Oh a bs i hq];rfl),trivial⟩⟩
  ·simp only[decide_eq_false_iff_not]at hc
   have hq:=hc;refine ap<|Xq<|Mv O<|Bnr O O (λ_=>aq _ _ _ oi)<|Asg O<|aa<|?_
   repeat (refine aL ?_)
   exact aB<|⟨rfl,⟨i+1,om⟩,_,by show 8*bs.length-(i+1)<8*bs.length-i;omega,rfl,trv,⟨rfl,rfl,by first|(rw[N0 a bs i hq];rfl)|(rw[Oh a bs i hq];rfl),trivial⟩⟩
 ·obtain rfl:i=8*bs.length:=by simp at hc;omega
  refine aU<|Xp<|Lw 5 O O dp (i4 _ _ _)<|Sw 4 hGF O O O dp (i4 _ _ _)<|aa<|ak<|Rr<|?_;exact au 4 O O O isAgg39 sizeOf39 (by rw[List.length_map,i4]) (λw hw=>⟨rfl,ab hw⟩)
end
section
open Go.RowKit
theorem ent156:ai prog 156:=λ_ _=>kr
theorem xk(n i:Nat)(hn:n<=64):decide (0#64<BitVec.ofNat 64 (n-i))=decide (i<n):=by
 refine decide_eq_decide.2 ?_;rw[BitVec.lt_def];simp only[BitVec.toNat_ofNat];omega
theorem wP(n i:Nat)(_hn:n<=64)(hi:i<n):BitVec.ofNat 64 (n-i)-1#64=BitVec.ofNat 64 (n-(i+1)):=by
 apply BitVec.eq_of_toNat_eq;simp only[BitVec.toNat_sub,BitVec.toNat_ofNat];omega
def HLs(l:L6):Nat->L6
 |0=>l
 |k+1=>if k<5 then ((HLs l k).set k ((HLs l k).getD k 0>>>1)).set k (((HLs l k).set k ((HLs l k).getD k 0>>>1)).getD k 0|||((HLs l k).set k ((HLs l k).getD k 0>>>1)).getD (k+1) 0<<<63)else (HLs l k).set k ((HLs l k).getD k 0>>>1)
theorem su(l:L6)(k:Nat)(h:k<5):HLs l (k+1)=((HLs l k).set k ((HLs l k).getD k 0>>>1)).set k (((HLs l k).set k ((HLs l k).getD k 0>>>1)).getD k 0|||((HLs l k).set k ((HLs l k).getD k 0>>>1)).getD (k+1) 0<<<63):=by rw[HLs,if_pos h]
theorem sB(l:L6)(k:Nat)(h: ¬k<5):HLs l (k+1)=(HLs l k).set k ((HLs l k).getD k 0>>>1):=by rw[HLs,if_neg h]
theorem dA(l:L6): ∀k,(HLs l k).length=l.length
 |0=>rfl
 |k+1=>by
  unfold HLs;split
  ·rw[List.length_set,List.length_set,dA l k]
  ·rw[List.length_set,dA l k]
def HN(l:L6):Nat->L6
 |0=>l
 |i+1=>HLs (HN l i) 6
theorem dj(l:L6): ∀i,(HN l i).length=l.length
 |0=>rfl
 |i+1=>by rw[HN,dA,dj l i]
theorem y1(w:World)(hw:Gt w):CLS 156 [I (-2),U64 0#64].toArray w (λe w'=> ∃b,e=.returned (.slice (spt b) 48 48)/\Grow w w'/\w.heap.size<=b/\OwnB w' b ((BYs (HN (SS PL (2#64::List.replicate 5 0) 6).1 0) 48).map U8) 29):=by
 refine Hf func156 O hw<|λhGF=>Xp<|Asg O<|aa<|Xp<|Ca O (gJ)<|Al 5 hGF zv37<|λb5=>Sw 5 hGF O O O ce eP<|aa<|ae<|Xp<|Mv O<|Bnr (v:=.bool true) O O (λw=>av _ (-2) 0)<|aa<|aP O<|Xq<|Lw 5 O O ce eP<|Mv O<|bi (v:=I 2) O (λ_=>uN (-2) oi) O O<|bV (v:=U64 2#64) O O (λ_=>(fO underlying2 underlying24 2).trans O) O O<|eu 2#64 O underlying37 sizeOf24 zv37 O O<|Ca O (fq PL (2#64::List.replicate 5 0) eP O)<|Mv O<|Ext O O<|Ext O O<|az 5 hGF O O O sizeOf37 (by rw[List.length_map,aA _ _ _]) (by rw[List.length_map,eP]) (ba _) O<|aa<|ae<|ah<|bG (ι:={i:Nat // i<=0}) (λx=>[(4,.slice none 0 0),(5,pnt b5),(1,U64 (BitVec.ofNat 64 (0-x.1)))]) (λx=>[(5,b5,(HN (SS PL (2#64::List.replicate 5 0) 6).1 x.1).map U64,37)]) (λx=>0-x.1) ⟨0,om⟩ hGF trv trv<|?_
 rintro ⟨i,hi⟩;dsimp only;refine ae<|Xp<|Mv O<|Bnr (v:=.bool (decide (i<0))) O O (λw=>(iW _ _ 0#64).trans (congrArg (λb=>Result.ok (Value.bool b) w) (xk 0 i dc)))<|aa<|?_;refine bC O (λhc=> ?_) (λhc=> ?_)
 ·simp only[decide_eq_true_eq]at hc
  refine ap<|ae<|ah<|Xp<|Asg O<|aa<|ah<|bG (ι:={i:Nat // i<=6}) (λx=>[(4,.slice none 0 0),(5,pnt b5),(1,U64 (BitVec.ofNat 64 (0-i))),(6,I (x.1:Int))]) (λx=>[(5,b5,(HLs (HN (SS PL (2#64::List.replicate 5 0) 6).1 i) x.1).map U64,37)]) (λx=>6-x.1) ⟨0,om⟩ hGF trv trv<|?_;rintro ⟨k,hk⟩;dsimp only;refine ae<|Xp<|Mv O<|Bnr O O (λ_=>av _ _ _)<|aa<|?_;refine bC O (λhc=> ?_) (λhc=> ?_)
  ·simp only[decide_eq_true_eq]at hc
   refine ap<|ae<|ah<|Xp<|Mv O<|Mv O<|Ia (k) O O underlying37 sizeOf24<|Lm 5 U64 0 O O isAgg24 (by rw[dA,dj,aA];omega)<|Bnr O O (λ_=>cC _ _ 1#64)<|Ia (k) O O underlying37 sizeOf24<|aX 5 U64 hGF O O O sizeOf24 O (by rw[dA,dj,aA];omega) O<|aa<|Xp<|Mv O<|Bnr O O (λ_=>av _ _ _)<|aa<|?_
   refine bC O (λhc=> ?_) (λhc=> ?_)
   ·simp only[decide_eq_true_eq]at hc
    have hq:k<5:=om;refine Xe []<|Mv O<|Ia (k) O O underlying37 sizeOf24<|Lm 5 U64 0 O O isAgg24 (by rw[List.length_set,dA,dj,aA];omega)<|Mv O<|Bnr O O (λ_=>aq _ _ _ oi)<|Ia ((k+1)) O O underlying37 sizeOf24<|Lm 5 U64 0 O O isAgg24 (by rw[List.length_set,dA,dj,aA];omega)<|Bnr O O (λ_=>gZ _ _ 63#64)<|Bnr O O (λ_=>eK _ _ _)<|Ia (k) O O underlying37 sizeOf24<|aX 5 U64 hGF O O O sizeOf24 O (by rw[List.length_set,dA,dj,aA];omega) O<|aa<|Xq<|Mv O<|Bnr O O (λ_=>aq _ _ _ oi)<|Asg O<|aa<|?_
    repeat (refine aL ?_)
    exact aB<|⟨rfl,⟨k+1,om⟩,_,by show 6-(k+1)<6-k;omega,rfl,trv,⟨by first|(rw[su _ k hq];rfl)|(rw[sB _ k hq];rfl),trivial⟩⟩
   ·simp only[decide_eq_false_iff_not]at hc
    have hq: ¬k<5:=om;refine ap<|Xq<|Mv O<|Bnr O O (λ_=>aq _ _ _ oi)<|Asg O<|aa<|?_
    repeat (refine aL ?_)
    exact aB<|⟨rfl,⟨k+1,om⟩,_,by show 6-(k+1)<6-k;omega,rfl,trv,⟨by first|(rw[su _ k hq];rfl)|(rw[sB _ k hq];rfl),trivial⟩⟩
  ·obtain rfl:k=6:=by simp at hc;omega
   refine aU<|Xq<|Mv O<|Bnr (v:=U64 (BitVec.ofNat 64 (0-(i+1)))) O O (λw=>(gR _ _ 1#64).trans (congrArg (λz=>Result.ok (U64 z) w) (wP 0 i dc om)))<|Asg O<|aa<|?_
   repeat (refine aL ?_)
   exact aB<|⟨rfl,⟨i+1,om⟩,_,by show 0-(i+1)<0-i;omega,rfl,trv,trv⟩
 ·obtain rfl:i=0:=by simp at hc;omega
  refine aU<|Xp<|bS 5 O O isAgg37 sizeOf37 (by rw[List.length_map,dj,aA]) O O<|Ca O (fF _ (by rw[dj,aA]))<|Al 7 hGF zv29<|λb7=>Sx 7 hGF O O O vh (aK _ _) (bY _)<|aa<|Xp<|bP (l:=0) (h':=48) O underlying29 sizeOf5 O O om om O O<|Asg O<|aa<|ak<|Rr<|?_
  exact aE O O (λw hw=>⟨b7,rfl,ab hw,(hw.own 7 b7 _ _ O).2.elim id False.elim,(hw.own 7 b7 _ _ O).1⟩)
theorem xo(w:World)(hw:Gt w):CLS 156 [I (-1),U64 1#64].toArray w (λe w'=> ∃b,e=.returned (.slice (spt b) 48 48)/\Grow w w'/\w.heap.size<=b/\OwnB w' b ((BYs (HN (SS PL (1#64::List.replicate 5 0) 6).1 1) 48).map U8) 29):=by
 refine Hf func156 O hw<|λhGF=>Xp<|Asg O<|aa<|Xp<|Ca O (gJ)<|Al 5 hGF zv37<|λb5=>Sw 5 hGF O O O ce eP<|aa<|ae<|Xp<|Mv O<|Bnr (v:=.bool true) O O (λw=>av _ (-1) 0)<|aa<|aP O<|Xq<|Lw 5 O O ce eP<|Mv O<|bi (v:=I 1) O (λ_=>uN (-1) oi) O O<|bV (v:=U64 1#64) O O (λ_=>(fO underlying2 underlying24 1).trans O) O O<|eu 1#64 O underlying37 sizeOf24 zv37 O O<|Ca O (fq PL (1#64::List.replicate 5 0) eP O)<|Mv O<|Ext O O<|Ext O O<|az 5 hGF O O O sizeOf37 (by rw[List.length_map,aA _ _ _]) (by rw[List.length_map,eP]) (ba _) O<|aa<|ae<|ah<|bG (ι:={i:Nat // i<=1}) (λx=>[(4,.slice none 0 0),(5,pnt b5),(1,U64 (BitVec.ofNat 64 (1-x.1)))]) (λx=>[(5,b5,(HN (SS PL (1#64::List.replicate 5 0) 6).1 x.1).map U64,37)]) (λx=>1-x.1) ⟨0,om⟩ hGF trv trv<|?_
 rintro ⟨i,hi⟩;dsimp only;refine ae<|Xp<|Mv O<|Bnr (v:=.bool (decide (i<1))) O O (λw=>(iW _ _ 0#64).trans (congrArg (λb=>Result.ok (Value.bool b) w) (xk 1 i dc)))<|aa<|?_;refine bC O (λhc=> ?_) (λhc=> ?_)
 ·simp only[decide_eq_true_eq]at hc
  refine ap<|ae<|ah<|Xp<|Asg O<|aa<|ah<|bG (ι:={i:Nat // i<=6}) (λx=>[(4,.slice none 0 0),(5,pnt b5),(1,U64 (BitVec.ofNat 64 (1-i))),(6,I (x.1:Int))]) (λx=>[(5,b5,(HLs (HN (SS PL (1#64::List.replicate 5 0) 6).1 i) x.1).map U64,37)]) (λx=>6-x.1) ⟨0,om⟩ hGF trv trv<|?_;rintro ⟨k,hk⟩;dsimp only;refine ae<|Xp<|Mv O<|Bnr O O (λ_=>av _ _ _)<|aa<|?_;refine bC O (λhc=> ?_) (λhc=> ?_)
  ·simp only[decide_eq_true_eq]at hc
   refine ap<|ae<|ah<|Xp<|Mv O<|Mv O<|Ia (k) O O underlying37 sizeOf24<|Lm 5 U64 0 O O isAgg24 (by rw[dA,dj,aA];omega)<|Bnr O O (λ_=>cC _ _ 1#64)<|Ia (k) O O underlying37 sizeOf24<|aX 5 U64 hGF O O O sizeOf24 O (by rw[dA,dj,aA];omega) O<|aa<|Xp<|Mv O<|Bnr O O (λ_=>av _ _ _)<|aa<|?_
   refine bC O (λhc=> ?_) (λhc=> ?_)
   ·simp only[decide_eq_true_eq]at hc
    have hq:k<5:=om;refine Xe []<|Mv O<|Ia (k) O O underlying37 sizeOf24<|Lm 5 U64 0 O O isAgg24 (by rw[List.length_set,dA,dj,aA];omega)<|Mv O<|Bnr O O (λ_=>aq _ _ _ oi)<|Ia ((k+1)) O O underlying37 sizeOf24<|Lm 5 U64 0 O O isAgg24 (by rw[List.length_set,dA,dj,aA];omega)<|Bnr O O (λ_=>gZ _ _ 63#64)<|Bnr O O (λ_=>eK _ _ _)<|Ia (k) O O underlying37 sizeOf24<|aX 5 U64 hGF O O O sizeOf24 O (by rw[List.length_set,dA,dj,aA];omega) O<|aa<|Xq<|Mv O<|Bnr O O (λ_=>aq _ _ _ oi)<|Asg O<|aa<|?_
    repeat (refine aL ?_)
    exact aB<|⟨rfl,⟨k+1,om⟩,_,by show 6-(k+1)<6-k;omega,rfl,trv,⟨by first|(rw[su _ k hq];rfl)|(rw[sB _ k hq];rfl),trivial⟩⟩
   ·simp only[decide_eq_false_iff_not]at hc
    have hq: ¬k<5:=om;refine ap<|Xq<|Mv O<|Bnr O O (λ_=>aq _ _ _ oi)<|Asg O<|aa<|?_
    repeat (refine aL ?_)
    exact aB<|⟨rfl,⟨k+1,om⟩,_,by show 6-(k+1)<6-k;omega,rfl,trv,⟨by first|(rw[su _ k hq];rfl)|(rw[sB _ k hq];rfl),trivial⟩⟩
  ·obtain rfl:k=6:=by simp at hc;omega
   refine aU<|Xq<|Mv O<|Bnr (v:=U64 (BitVec.ofNat 64 (1-(i+1)))) O O (λw=>(gR _ _ 1#64).trans (congrArg (λz=>Result.ok (U64 z) w) (wP 1 i dc om)))<|Asg O<|aa<|?_
   repeat (refine aL ?_)
   exact aB<|⟨rfl,⟨i+1,om⟩,_,by show 1-(i+1)<1-i;omega,rfl,trv,trv⟩
 ·obtain rfl:i=1:=by simp at hc;omega
  refine aU<|Xp<|bS 5 O O isAgg37 sizeOf37 (by rw[List.length_map,dj,aA]) O O<|Ca O (fF _ (by rw[dj,aA]))<|Al 7 hGF zv29<|λb7=>Sx 7 hGF O O O vh (aK _ _) (bY _)<|aa<|Xp<|bP (l:=0) (h':=48) O underlying29 sizeOf5 O O om om O O<|Asg O<|aa<|ak<|Rr<|?_
  exact aE O O (λw hw=>⟨b7,rfl,ab hw,(hw.own 7 b7 _ _ O).2.elim id False.elim,(hw.own 7 b7 _ _ O).1⟩)
theorem qB(w:World)(hw:Gt w):CLS 156 [I (1),U64 2#64].toArray w (λe w'=> ∃b,e=.returned (.slice (spt b) 48 48)/\Grow w w'/\w.heap.size<=b/\OwnB w' b ((BYs (HN (AS PL (1#64::List.replicate 5 0) 6).1 2) 48).map U8) 29):=by
 refine Hf func156 O hw<|λhGF=>Xp<|Asg O<|aa<|Xp<|Ca O (gJ)<|Al 5 hGF zv37<|λb5=>Sw 5 hGF O O O ce eP<|aa<|ae<|Xp<|Mv O<|Bnr (v:=.bool false) O O (λw=>av _ (1) 0)<|aa<|aC O<|Xq<|Lw 5 O O ce eP<|Mv O<|bV (v:=U64 1#64) O O (λ_=>(fO underlying2 underlying24 1).trans O) O O<|eu 1#64 O underlying37 sizeOf24 zv37 O O<|Ca O (jj PL (1#64::List.replicate 5 0) eP O)<|Mv O<|Ext O O<|Ext O O<|az 5 hGF O O O sizeOf37 (by rw[List.length_map,aH _ _ _]) (by rw[List.length_map,eP]) (ba _) O<|aa<|ae<|ah<|bG (ι:={i:Nat // i<=2}) (λx=>[(4,.slice none 0 0),(5,pnt b5),(1,U64 (BitVec.ofNat 64 (2-x.1)))]) (λx=>[(5,b5,(HN (AS PL (1#64::List.replicate 5 0) 6).1 x.1).map U64,37)]) (λx=>2-x.1) ⟨0,om⟩ hGF trv trv<|?_
 rintro ⟨i,hi⟩;dsimp only;refine ae<|Xp<|Mv O<|Bnr (v:=.bool (decide (i<2))) O O (λw=>(iW _ _ 0#64).trans (congrArg (λb=>Result.ok (Value.bool b) w) (xk 2 i dc)))<|aa<|?_;refine bC O (λhc=> ?_) (λhc=> ?_)
 ·simp only[decide_eq_true_eq]at hc
  refine ap<|ae<|ah<|Xp<|Asg O<|aa<|ah<|bG (ι:={i:Nat // i<=6}) (λx=>[(4,.slice none 0 0),(5,pnt b5),(1,U64 (BitVec.ofNat 64 (2-i))),(6,I (x.1:Int))]) (λx=>[(5,b5,(HLs (HN (AS PL (1#64::List.replicate 5 0) 6).1 i) x.1).map U64,37)]) (λx=>6-x.1) ⟨0,om⟩ hGF trv trv<|?_;rintro ⟨k,hk⟩;dsimp only;refine ae<|Xp<|Mv O<|Bnr O O (λ_=>av _ _ _)<|aa<|?_;refine bC O (λhc=> ?_) (λhc=> ?_)
  ·simp only[decide_eq_true_eq]at hc
   refine ap<|ae<|ah<|Xp<|Mv O<|Mv O<|Ia (k) O O underlying37 sizeOf24<|Lm 5 U64 0 O O isAgg24 (by rw[dA,dj,aH];omega)<|Bnr O O (λ_=>cC _ _ 1#64)<|Ia (k) O O underlying37 sizeOf24<|aX 5 U64 hGF O O O sizeOf24 O (by rw[dA,dj,aH];omega) O<|aa<|Xp<|Mv O<|Bnr O O (λ_=>av _ _ _)<|aa<|?_
   refine bC O (λhc=> ?_) (λhc=> ?_)
   ·simp only[decide_eq_true_eq]at hc
    have hq:k<5:=om;refine Xe []<|Mv O<|Ia (k) O O underlying37 sizeOf24<|Lm 5 U64 0 O O isAgg24 (by rw[List.length_set,dA,dj,aH];omega)<|Mv O<|Bnr O O (λ_=>aq _ _ _ oi)<|Ia ((k+1)) O O underlying37 sizeOf24<|Lm 5 U64 0 O O isAgg24 (by rw[List.length_set,dA,dj,aH];omega)<|Bnr O O (λ_=>gZ _ _ 63#64)<|Bnr O O (λ_=>eK _ _ _)<|Ia (k) O O underlying37 sizeOf24<|aX 5 U64 hGF O O O sizeOf24 O (by rw[List.length_set,dA,dj,aH];omega) O<|aa<|Xq<|Mv O<|Bnr O O (λ_=>aq _ _ _ oi)<|Asg O<|aa<|?_
    repeat (refine aL ?_)
    exact aB<|⟨rfl,⟨k+1,om⟩,_,by show 6-(k+1)<6-k;omega,rfl,trv,⟨by first|(rw[su _ k hq];rfl)|(rw[sB _ k hq];rfl),trivial⟩⟩
   ·simp only[decide_eq_false_iff_not]at hc
    have hq: ¬k<5:=om;refine ap<|Xq<|Mv O<|Bnr O O (λ_=>aq _ _ _ oi)<|Asg O<|aa<|?_
    repeat (refine aL ?_)
    exact aB<|⟨rfl,⟨k+1,om⟩,_,by show 6-(k+1)<6-k;omega,rfl,trv,⟨by first|(rw[su _ k hq];rfl)|(rw[sB _ k hq];rfl),trivial⟩⟩
  ·obtain rfl:k=6:=by simp at hc;omega
   refine aU<|Xq<|Mv O<|Bnr (v:=U64 (BitVec.ofNat 64 (2-(i+1)))) O O (λw=>(gR _ _ 1#64).trans (congrArg (λz=>Result.ok (U64 z) w) (wP 2 i dc om)))<|Asg O<|aa<|?_
   repeat (refine aL ?_)
   exact aB<|⟨rfl,⟨i+1,om⟩,_,by show 2-(i+1)<2-i;omega,rfl,trv,trv⟩
 ·obtain rfl:i=2:=by simp at hc;omega
  refine aU<|Xp<|bS 5 O O isAgg37 sizeOf37 (by rw[List.length_map,dj,aH]) O O<|Ca O (fF _ (by rw[dj,aH]))<|Al 7 hGF zv29<|λb7=>Sx 7 hGF O O O vh (aK _ _) (bY _)<|aa<|Xp<|bP (l:=0) (h':=48) O underlying29 sizeOf5 O O om om O O<|Asg O<|aa<|ak<|Rr<|?_
  exact aE O O (λw hw=>⟨b7,rfl,ab hw,(hw.own 7 b7 _ _ O).2.elim id False.elim,(hw.own 7 b7 _ _ O).1⟩)
end
section
open Go.RowKit
theorem ent155:ai prog 155:=λ_ _=>kr
theorem ent99:ai prog 99:=λ_ _=>kr
def EX2:L8:=BYs (HN (SS PL (2#64::List.replicate 5 0) 6).1 0) 48
def EX1:L8:=BYs (HN (SS PL (1#64::List.replicate 5 0) 6).1 1) 48
def EX4:L8:=BYs (HN (AS PL (1#64::List.replicate 5 0) 6).1 2) 48
theorem KE:EX2.length=48:=aK _ _
theorem uv:EX1.length=48:=aK _ _
theorem J0:EX4.length=48:=aK _ _
theorem Sd(a:L6)(ha:a.length=6)(b:Nat)(t:TypeId)(bs:L8)(h48:bs.length=48)(w:World)(hw:Gt w)(ho:OwnB w b (bs.map U8) t):
 CLS 189 [aJ (a),.slice (spt b) 48 48].toArray w (λr w'=>r=.returned (aJ (RP a bs 384))/\Grow w w'):=by
 have h:=pI a ha (spt b) 48 bs om w hw (BytesAt.range ho.range);rw[h48]at h;exact h
theorem Ko(b:Nat)(t:TypeId)(bs:L8)(h48:bs.length=48)(w:World)(hw:Gt w)(ho:OwnB w b (bs.map U8) t):
 CLS 44 [.slice (spt b) 48 48].toArray w (λr w'=>r=.returned (.tuple #[aJ (FRs bs 48),.bool true])/\Grow w w'):=by
 have h:=nK (spt b) 48 bs w hw (BytesAt.range ho.range);rw[h48,if_neg dc]at h;exact h
theorem BG(a:L6)(ha:a.length=6):PUR 155 [aJ (a)] (aJ (RP a EX2 384)):=by
 intro w hw;refine Hf func155 O hw<|λhGF=>ac (E:=EE [156,2000156])<|Bx 1 hGF O<|λb1=>Al 2 hGF zv39<|λb2=>aa<|Xd [156,2000156]<|Lw 1 O O dp ha<|?_;refine bK O O ent156 O O (λw' hw'=>(y1 w' (hGF.g _ _ _ hw')).mono λe w'' h=> ?_);obtain ⟨bm,rfl,hg,hb,hob⟩:=h;refine ⟨_,_,rfl,ay hGF,hw'.news am hg [(4,bm,EX2.map U8,29)] ?_ bQ,bO am O, ?_⟩
 ·intro n' b' c' t' hl
  rcases aI hl with ⟨_,e⟩|⟨_,hl⟩
  ·cases e;exact ⟨hb,hob⟩
  ·cases hl
 clear hw' hg hb hob;refine Cc O ent189 (λw' hw' hG=>Sd a ha bm _ EX2 KE w' hG (hw'.own 4 _ _ _ O).1)<|Sw 2 hGF O O O dp (i4 _ _ _)<|aa<|ak<|Rr<|?_;exact au 2 O O O isAgg39 sizeOf39 (by rw[List.length_map,i4]) (λw hw=>⟨rfl,ab hw⟩)
theorem eqgF(op:BinOp)(x y:Operand)(xs ys:Array Value)(w:World):(eqGuard op 39 x y (.agg xs) (.agg ys)).run prog w=.ok () w:=run_eqGuard_agg w op 39 x y xs ys kr
theorem uH(a:L6)(ha:a.length=6):PUR 99 [aJ (a)] (.bool (decide ((SS (FRs EX1 48) (RM a N1) 6).2=1))):=by
 intro w hw;refine Hf func99 O hw<|λhGF=>ac (E:=EE [156,2000156])<|Bx 1 hGF O<|λb1=>Asg O<|aa<|ac (E:=EE [156,2000156])<|?_;refine bK O O ent156 O O (λw' hw'=>(xo w' (hGF.g _ _ _ hw')).mono λe w'' h=> ?_);obtain ⟨bm,rfl,hg,hb,hob⟩:=h;refine ⟨_,_,rfl,ay hGF,hw'.news am hg [(6,bm,EX1.map U8,29)] ?_ bQ,bO am O, ?_⟩
 ·intro n' b' c' t' hl
  rcases aI hl with ⟨_,e⟩|⟨_,hl⟩
  ·cases e;exact ⟨hb,hob⟩
  ·cases hl
 clear hw' hg hb hob;refine Cc O ent44 (λw' hw' hG=>Ko bm _ EX1 uv w' hG (hw'.own 6 _ _ _ O).1)<|Mv O<|Ext O O<|Ext O O<|Al 3 hGF zv37<|λb3=>Sw 3 hGF O O O ce (aR _ _)<|Asg O<|aa<|Xd [156,2000156]<|Lw 3 O O ce (aR _ _)<|Lw 1 O O dp ha<|Ca O (jH a ha)<|Ca O (yv _ _ (aR _ _) (aY _ _))<|Asg O<|aa<|ak<|Rr<|?_;exact aE O O (λw hw=>⟨rfl,ab hw⟩)
end
section
open Go.RowKit
theorem qq(a:BitVec 64){P:Program}{w:World}:(Op.unary .neg (U64 a)).run P w=.ok (U64 (-a)) w:=by
 show (Op.intArith .sub .u64 0 (a.toNat:Int)).run P w=_;simp only[Op.intArith,Sem.run_pure];have h:=a.isLt;congr 2;simp only[BitVec.toNat_neg];congr 1;simp only[IntKind.wrap,IntKind.signed,IntKind.bits,Bool.false_and];simp;omega
theorem mg(n:BitVec 64):PUR 65 [U64 n] (U64 (IV n 5)):=by
 intro w hw;refine Hf func65 O hw<|λhGF=>Xp<|Asg O<|aa<|Xp<|Mv O<|Asg O<|aa<|ae<|Xp<|Mv O<|aa<|ah<|bG (ι:={i:Nat // i<=5}) (λx=>[(0,U64 n),(2,U64 0),(3,U64 (IV n x.1)),(5,I (x.1:Int))]) (λx=>[]) (λx=>5-x.1) ⟨0,om⟩ hGF trv trivial<|?_;rintro ⟨i,hi⟩;dsimp only;refine Xp<|Bnr O O (λ_=>av _ _ _)<|aa<|ae<|?_;refine bC O (λhc=> ?_) (λhc=> ?_)
 ·simp only[decide_eq_true_eq]at hc
  refine ap<|ae<|ah<|Xq<|Mv O<|Mv O<|Mv O<|Bnr O O (λ_=>cv _ _ _)<|Bnr O O (λ_=>gR _ _ _)<|Bnr O O (λ_=>cv _ _ _)<|Asg O<|aa<|Xq<|Bnr O O (λ_=>aq _ _ _ oi)<|Mv O<|aa<|?_
  repeat (refine aL ?_)
  exact aB<|⟨rfl,⟨i+1,om⟩,_,by show 5-(i+1)<5-i;omega,rfl,trv,trivial⟩
 ·obtain rfl:i=5:=by simp at hc;omega
  refine aU<|Xp<|Mv O<|Asg O<|aa<|ak<|Rr<|?_;exact aE O O (λw hw=>⟨rfl,ab hw⟩)
theorem OK:(prog.info? 24).map (·.size)=some 1:=kr
theorem Cw(a:L6)(h:a.length=6):lay 0 (a.map U64) ((List.replicate 12 0#64).map U64)=(a++List.replicate 6 0).map U64:=by
 rw[jc _ _ _ (by simp[h])]
 simp[h]
theorem iD(a b m:L6)(ha:a.length=6)(hb:b.length=6)(hm:m.length=6):PUR 29 [aJ (a),aJ (b),aJ (m)] (aJ (il a b m)):=by
 intro w hw;refine Hf func29 O hw ?_;intro hGF;by_cases h0:m.getD 0 0 % 2=0
 ·refine Xp<|Bx 3 hGF O<|λb3=>Bx 4 hGF O<|λb4=>Bx 5 hGF O<|λb5=>Al 6 hGF zv25<|λb6=>aa<|ae<|Xp<|Ia (0) O O underlying25 sizeOf24<|Lm 5 U64 0 O O isAgg24 (by rw[hm];omega)<|Bnr O O (λ_=>eU _ _ _ dc)<|Bnr (v:=.bool true) O O (λw=>(bj _ _ _).trans (congrArg (λb=>Result.ok (Value.bool b) w) (beq_iff_eq.2 h0)))<|aa<|aP O<|Xp<|dX zv25 underlying25 sizeOf24 O O<|Sw 6 hGF O O O cf List.length_replicate<|aa<|ak<|Rr<|?_
  exact au 6 O O O isAgg25 sizeOf25 (by rw[List.length_map,List.length_replicate]) (λw hw=>⟨by rw[il,if_pos h0];rfl,ab hw⟩)
 cases h1:LT a m 6 with
 |true=>
  refine Xp<|Bx 3 hGF O<|λb3=>Bx 4 hGF O<|λb4=>Bx 5 hGF O<|λb5=>Al 6 hGF zv25<|λb6=>aa<|ae<|Xp<|Ia (0) O O underlying25 sizeOf24<|Lm 5 U64 0 O O isAgg24 (by rw[hm];omega)<|Bnr O O (λ_=>eU _ _ _ dc)<|Bnr (v:=.bool false) O O (λw=>(bj _ _ _).trans (congrArg (λb=>Result.ok (Value.bool b) w) (beq_eq_false_iff_ne.2 h0)))<|aa<|aC O<|ap<|ae<|Xp<|Lw 3 O O cf ha<|Lw 5 O O cf hm<|Ca O (k4 a m ha hm)<|bi (v:=.bool false) O (λ_=>(a5 _).trans (by rw[h1];rfl)) O O<|aa<|aC O<|ap<|Xp<|Ia (0) O O underlying25 sizeOf24<|Lm 5 U64 0 O O isAgg24 (by rw[hm];omega)<|Ca O (mg _)<|bi O (λ_=>qq _) O O<|Asg O<|?_
  generalize hcl: -(IV (m.getD 0 0) 5)=cl;refine aa<|Xp<|Al 9 hGF zv25<|λb9=>aa<|Xp<|Asg O<|aa<|ae<|Xp<|Lw 3 O O cf ha<|Mv O<|aa<|ah<|bG (ι:={i:Nat // i<=6}) (λx=>[(4,pnt b4),(5,pnt b5),(6,pnt b6),(8,U64 cl),(9,pnt b9),(10,U64 (MO a b m cl x.1).2),(38,aJ (a)),(39,I (x.1:Int))]) (λx=>[(4,b4,b.map U64,25),(5,b5,m.map U64,25),(6,b6,(List.replicate 6 0#64).map U64,25),(9,b9,(MO a b m cl x.1).1.map U64,25)]) (λx=>6-x.1) ⟨0,om⟩ hGF trv trv<|?_;rintro ⟨i,hi⟩;dsimp only;refine Xp<|Bnr O O (λ_=>av _ _ _)<|aa<|ae<|?_;refine bC O (λhc=> ?_) (λhc=> ?_)
  ·simp only[decide_eq_true_eq]at hc
   refine ap<|ae<|ah<|Xp<|i1 U64 0 (i) O O underlying25 sizeOf24 isAgg24 om om (ha) O O<|Asg O<|aa<|Xp<|Asg O<|Asg O<|aa<|ae<|Xp<|Lw 4 O O cf hb<|Mv O<|aa<|ah<|bG (ι:={i:Nat // i<=6}) (λx=>[(4,pnt b4),(5,pnt b5),(6,pnt b6),(8,U64 cl),(9,pnt b9),(10,U64 (MO a b m cl i).2),(38,aJ (a)),(39,I (i:Int)),(12,U64 (a.getD i 0)),(13,U64 (MJ (a.getD i 0) b (MO a b m cl i).1 x.1).2),(14,U64 0),(42,aJ (b)),(43,I (x.1:Int))]) (λx=>[(4,b4,b.map U64,25),(5,b5,m.map U64,25),(6,b6,(List.replicate 6 0#64).map U64,25),(9,b9,(MJ (a.getD i 0) b (MO a b m cl i).1 x.1).1.map U64,25)]) (λx=>6-x.1) ⟨0,om⟩ hGF trv trv<|?_;rintro ⟨j,hj⟩;dsimp only;refine Xp<|Bnr O O (λ_=>av _ _ _)<|aa<|ae<|?_;refine bC O (λhc=> ?_) (λhc=> ?_)
   ·simp only[decide_eq_true_eq]at hc
    refine ap<|ae<|ah<|Xp<|Mv O<|i1 U64 0 (j) O O underlying25 sizeOf24 isAgg24 om om (hb) O O<|Asg O<|Asg O<|aa<|Xq<|Mv O<|Mv O<|Mv O<|Mv O<|Ia (j) O O underlying25 sizeOf24<|Lm 9 U64 0 O O isAgg24 (by rw[kA,ez];omega)<|Mv O<|Ca O (fU _ _ _ _)<|Mv O<|Ext O O<|Ext O O<|Ia (j) O O underlying25 sizeOf24<|aX 9 U64 hGF O O O sizeOf24 O (by rw[kA,ez];omega) O<|Asg O<|aa<|Xq<|Bnr O O (λ_=>aq _ _ _ oi)<|Mv O<|aa<|?_
    repeat (refine aL ?_)
    exact aB<|⟨rfl,⟨j+1,om⟩,_,by show 6-(j+1)<6-j;omega,rfl,trv,trv⟩
   ·obtain rfl:j=6:=by simp at hc;omega
    generalize hS:MJ (a.getD i 0) b (MO a b m cl i).1 6=S1;have hSl:S1.1.length=6:=by rw[<-hS,kA,ez]
    refine aU<|Xp<|Mv O<|Mv O<|bX O O (λw=>eI _ _ _ dc w) O O<|Mv O<|Ext O O<|Ext O O<|Asg O<|Asg O<|aa<|Xp<|Ia (0) O O underlying25 sizeOf24<|Lm 9 U64 0 O O isAgg24 (by rw[hSl];omega)<|Mv O<|Bnr O O (λ_=>cv _ _ _)<|Asg O<|aa<|Xp<|Mv O<|Ia (0) O O underlying25 sizeOf24<|Lm 5 U64 0 O O isAgg24 (by rw[hm];omega)<|Ia (0) O O underlying25 sizeOf24<|Lm 9 U64 0 O O isAgg24 (by rw[hSl];omega)<|Ca O (fU _ _ _ _)<|Mv O<|Ext O O<|Ext O O<|Asg O<|aa<|ae<|Xp<|Asg O<|aa<|ah<|bG (ι:={i:Nat // i<=5}) (λx=>[(4,pnt b4),(5,pnt b5),(6,pnt b6),(8,U64 cl),(9,pnt b9),(10,U64 (ADC (MO a b m cl i).2 S1.2 0).1),(38,aJ (a)),(39,I (i:Int)),(14,U64 (ADC (MO a b m cl i).2 S1.2 0).2),(17,U64 (S1.1.getD 0 0*cl)),(13,U64 (MR (S1.1.getD 0 0*cl) m S1.1 x.1).2),(18,I ((x.1+1:Nat):Int))]) (λx=>[(4,b4,b.map U64,25),(5,b5,m.map U64,25),(6,b6,(List.replicate 6 0#64).map U64,25),(9,b9,(MR (S1.1.getD 0 0*cl) m S1.1 x.1).1.map U64,25)]) (λx=>5-x.1) ⟨0,om⟩ hGF trv trv<|?_
    rintro ⟨r,hr⟩;dsimp only;refine ae<|Xp<|Mv O<|Bnr O O (λ_=>av _ _ _)<|aa<|?_;refine bC O (λhc=> ?_) (λhc=> ?_)
    ·simp only[decide_eq_true_eq]at hc
     refine ap<|ae<|ah<|Xe []<|Mv O<|Bnr (v:=I (r:Int)) O O (λ_=>(aV _ _ _ oi).trans (by rw[show (((r+1:Nat):Int)-1)=(r:Int) by omega]))<|Mv O<|Mv O<|Ia ((r+1)) O O underlying25 sizeOf24<|Lm 5 U64 0 O O isAgg24 (by rw[hm];omega)<|Mv O<|Ia ((r+1)) O O underlying25 sizeOf24<|Lm 9 U64 0 O O isAgg24 (by rw[i8,hSl];omega)<|Mv O<|Ca O (fU _ _ _ _)<|Mv O<|Ext O O<|Ext O O<|Ia (r) O O underlying25 sizeOf24<|aX 9 U64 hGF O O O sizeOf24 O (by rw[i8,hSl];omega) O<|Asg O<|aa<|Xq<|Mv O<|Bnr O O (λ_=>aq _ _ _ oi)<|Asg O<|aa<|?_
     repeat (refine aL ?_)
     exact aB<|⟨rfl,⟨r+1,om⟩,_,by show 5-(r+1)<5-r;omega,rfl,trv,trv⟩
    ·obtain rfl:r=5:=by simp at hc;omega
     generalize hM:MR (S1.1.getD 0 0*cl) m S1.1 5=R1;have hRl:R1.1.length=6:=by rw[<-hM,i8,hSl]
     refine aU<|Xp<|Mv O<|Mv O<|bX O O (λw=>eI _ _ _ dc w) O O<|Mv O<|Ext O O<|Ext O O<|Ia (5) O O underlying25 sizeOf24<|aX 9 U64 hGF O O O sizeOf24 O (by rw[hRl];omega) O<|Asg O<|aa<|Xq<|Mv O<|Mv O<|Bnr O O (λ_=>a8 _ _ _)<|Asg O<|aa<|Xq<|Bnr O O (λ_=>aq _ _ _ oi)<|Mv O<|aa<|?_
     repeat (refine aL ?_)
     exact aB<|⟨rfl,⟨i+1,om⟩,_,by show 6-(i+1)<6-i;omega,rfl,⟨rfl,rfl,rfl,rfl,rfl,by rw[oF a b m cl i hS hM];rfl,rfl,rfl,trivial⟩,⟨rfl,rfl,rfl,by rw[oF a b m cl i hS hM];rfl,trivial⟩⟩
  ·obtain rfl:i=6:=by simp at hc;omega
   refine aU<|Xp<|Lw 9 O O cf (ez _ _ _ _ _)<|Mv O<|Lw 5 O O cf hm<|Ca O (pX _ _ _ (ez _ _ _ _ _) hm)<|Sw 6 hGF O O O cf (jE _ _ _ (ez _ _ _ _ _))<|aa<|ak<|Rr<|?_;exact au 6 O O O isAgg25 sizeOf25 (by rw[List.length_map];exact jE _ _ _ (ez _ _ _ _ _)) (λw hw=>⟨by rw[il,if_neg h0,if_pos h1,MN,hcl],ab hw⟩)
 |false=>
  refine Xp<|Bx 3 hGF O<|λb3=>Bx 4 hGF O<|λb4=>Bx 5 hGF O<|λb5=>Al 6 hGF zv25<|λb6=>aa<|ae<|Xp<|Ia (0) O O underlying25 sizeOf24<|Lm 5 U64 0 O O isAgg24 (by rw[hm];omega)<|Bnr O O (λ_=>eU _ _ _ dc)<|Bnr (v:=.bool false) O O (λw=>(bj _ _ _).trans (congrArg (λb=>Result.ok (Value.bool b) w) (beq_eq_false_iff_ne.2 h0)))<|aa<|aC O<|ap<|ae<|Xp<|Lw 3 O O cf ha<|Lw 5 O O cf hm<|Ca O (k4 a m ha hm)<|bi (v:=.bool true) O (λ_=>(a5 _).trans (by rw[h1];rfl)) O O<|aa<|aP O<|Xp<|Al 7 hGF zv117<|λb7=>aa<|Xd []<|bP (l:=0) (h':=12) O underlying117 sizeOf24 O O om om O O<|bP (l:=0) (h':=6) O underlying25 sizeOf24 O O om om O O<|A0 (cs:=a.map U64) 7 hGF O O O underlying118 OK (by rw[List.length_map,ha];rfl) (λw' h j v hv=>by rw[Addr.add_mid];exact aG (n:=3) O w' h j v hv) (ba _) (by rw[List.length_map,List.length_map,ha];decide) O O<|?_
  rw[Cw a ha];refine aa<|Xq<|bS 7 O O isAgg117 sizeOf117 (by rw[List.length_map,List.length_append,ha,List.length_replicate]) O O<|Lw 5 O O cf hm<|Ca O (G1 (a++List.replicate 6 0) m (by rw[List.length_append,ha];rfl) hm)<|az 3 hGF O O O sizeOf25 (by rw[List.length_map,mu _ _]) (by rw[List.length_map,ha]) (ba _) O<|aa<|Xp<|Ia (0) O O underlying25 sizeOf24<|Lm 5 U64 0 O O isAgg24 (by rw[hm];omega)<|Ca O (mg _)<|bi O (λ_=>qq _) O O<|Asg O<|?_
  generalize hcl: -(IV (m.getD 0 0) 5)=cl;refine aa<|Xp<|Al 9 hGF zv25<|λb9=>aa<|Xp<|Asg O<|aa<|ae<|Xp<|Lw 3 O O cf (mu _ _)<|Mv O<|aa<|ah<|bG (ι:={i:Nat // i<=6}) (λx=>[(4,pnt b4),(5,pnt b5),(6,pnt b6),(8,U64 cl),(9,pnt b9),(10,U64 (MO (MOD (a++List.replicate 6 0) m) b m cl x.1).2),(38,aJ ((MOD (a++List.replicate 6 0) m))),(39,I (x.1:Int))]) (λx=>[(4,b4,b.map U64,25),(5,b5,m.map U64,25),(6,b6,(List.replicate 6 0#64).map U64,25),(9,b9,(MO (MOD (a++List.replicate 6 0) m) b m cl x.1).1.map U64,25)]) (λx=>6-x.1) ⟨0,om⟩ hGF trv trv<|?_;rintro ⟨i,hi⟩;dsimp only;refine Xp<|Bnr O O (λ_=>av _ _ _)<|aa<|ae<|?_;refine bC O (λhc=> ?_) (λhc=> ?_)
  ·simp only[decide_eq_true_eq]at hc
   refine ap<|ae<|ah<|Xp<|i1 U64 0 (i) O O underlying25 sizeOf24 isAgg24 om om (mu _ _) O O<|Asg O<|aa<|Xp<|Asg O<|Asg O<|aa<|ae<|Xp<|Lw 4 O O cf hb<|Mv O<|aa<|ah<|bG (ι:={i:Nat // i<=6}) (λx=>[(4,pnt b4),(5,pnt b5),(6,pnt b6),(8,U64 cl),(9,pnt b9),(10,U64 (MO (MOD (a++List.replicate 6 0) m) b m cl i).2),(38,aJ ((MOD (a++List.replicate 6 0) m))),(39,I (i:Int)),(12,U64 ((MOD (a++List.replicate 6 0) m).getD i 0)),(13,U64 (MJ ((MOD (a++List.replicate 6 0) m).getD i 0) b (MO (MOD (a++List.replicate 6 0) m) b m cl i).1 x.1).2),(14,U64 0),(42,aJ (b)),(43,I (x.1:Int))]) (λx=>[(4,b4,b.map U64,25),(5,b5,m.map U64,25),(6,b6,(List.replicate 6 0#64).map U64,25),(9,b9,(MJ ((MOD (a++List.replicate 6 0) m).getD i 0) b (MO (MOD (a++List.replicate 6 0) m) b m cl i).1 x.1).1.map U64,25)]) (λx=>6-x.1) ⟨0,om⟩ hGF trv trv<|?_;rintro ⟨j,hj⟩;dsimp only;refine Xp<|Bnr O O (λ_=>av _ _ _)<|aa<|ae<|?_;refine bC O (λhc=> ?_) (λhc=> ?_)
   ·simp only[decide_eq_true_eq]at hc
    refine ap<|ae<|ah<|Xp<|Mv O<|i1 U64 0 (j) O O underlying25 sizeOf24 isAgg24 om om (hb) O O<|Asg O<|Asg O<|aa<|Xq<|Mv O<|Mv O<|Mv O<|Mv O<|Ia (j) O O underlying25 sizeOf24<|Lm 9 U64 0 O O isAgg24 (by rw[kA,ez];omega)<|Mv O<|Ca O (fU _ _ _ _)<|Mv O<|Ext O O<|Ext O O<|Ia (j) O O underlying25 sizeOf24<|aX 9 U64 hGF O O O sizeOf24 O (by rw[kA,ez];omega) O<|Asg O<|aa<|Xq<|Bnr O O (λ_=>aq _ _ _ oi)<|Mv O<|aa<|?_
    repeat (refine aL ?_)
    exact aB<|⟨rfl,⟨j+1,om⟩,_,by show 6-(j+1)<6-j;omega,rfl,trv,trv⟩
   ·obtain rfl:j=6:=by simp at hc;omega
    generalize hS:MJ ((MOD (a++List.replicate 6 0) m).getD i 0) b (MO (MOD (a++List.replicate 6 0) m) b m cl i).1 6=S1;have hSl:S1.1.length=6:=by rw[<-hS,kA,ez]
    refine aU<|Xp<|Mv O<|Mv O<|bX O O (λw=>eI _ _ _ dc w) O O<|Mv O<|Ext O O<|Ext O O<|Asg O<|Asg O<|aa<|Xp<|Ia (0) O O underlying25 sizeOf24<|Lm 9 U64 0 O O isAgg24 (by rw[hSl];omega)<|Mv O<|Bnr O O (λ_=>cv _ _ _)<|Asg O<|aa<|Xp<|Mv O<|Ia (0) O O underlying25 sizeOf24<|Lm 5 U64 0 O O isAgg24 (by rw[hm];omega)<|Ia (0) O O underlying25 sizeOf24<|Lm 9 U64 0 O O isAgg24 (by rw[hSl];omega)<|Ca O (fU _ _ _ _)<|Mv O<|Ext O O<|Ext O O<|Asg O<|aa<|ae<|Xp<|Asg O<|aa<|ah<|bG (ι:={i:Nat // i<=5}) (λx=>[(4,pnt b4),(5,pnt b5),(6,pnt b6),(8,U64 cl),(9,pnt b9),(10,U64 (ADC (MO (MOD (a++List.replicate 6 0) m) b m cl i).2 S1.2 0).1),(38,aJ ((MOD (a++List.replicate 6 0) m))),(39,I (i:Int)),(14,U64 (ADC (MO (MOD (a++List.replicate 6 0) m) b m cl i).2 S1.2 0).2),(17,U64 (S1.1.getD 0 0*cl)),(13,U64 (MR (S1.1.getD 0 0*cl) m S1.1 x.1).2),(18,I ((x.1+1:Nat):Int))]) (λx=>[(4,b4,b.map U64,25),(5,b5,m.map U64,25),(6,b6,(List.replicate 6 0#64).map U64,25),(9,b9,(MR (S1.1.getD 0 0*cl) m S1.1 x.1).1.map U64,25)]) (λx=>5-x.1) ⟨0,om⟩ hGF trv trv<|?_
    rintro ⟨r,hr⟩;dsimp only;refine ae<|Xp<|Mv O<|Bnr O O (λ_=>av _ _ _)<|aa<|?_;refine bC O (λhc=> ?_) (λhc=> ?_)
    ·simp only[decide_eq_true_eq]at hc
     refine ap<|ae<|ah<|Xe []<|Mv O<|Bnr (v:=I (r:Int)) O O (λ_=>(aV _ _ _ oi).trans (by rw[show (((r+1:Nat):Int)-1)=(r:Int) by omega]))<|Mv O<|Mv O<|Ia ((r+1)) O O underlying25 sizeOf24<|Lm 5 U64 0 O O isAgg24 (by rw[hm];omega)<|Mv O<|Ia ((r+1)) O O underlying25 sizeOf24<|Lm 9 U64 0 O O isAgg24 (by rw[i8,hSl];omega)<|Mv O<|Ca O (fU _ _ _ _)<|Mv O<|Ext O O<|Ext O O<|Ia (r) O O underlying25 sizeOf24<|aX 9 U64 hGF O O O sizeOf24 O (by rw[i8,hSl];omega) O<|Asg O<|aa<|Xq<|Mv O<|Bnr O O (λ_=>aq _ _ _ oi)<|Asg O<|aa<|?_
     repeat (refine aL ?_)
     exact aB<|⟨rfl,⟨r+1,om⟩,_,by show 5-(r+1)<5-r;omega,rfl,trv,trv⟩
    ·obtain rfl:r=5:=by simp at hc;omega
     generalize hM:MR (S1.1.getD 0 0*cl) m S1.1 5=R1;have hRl:R1.1.length=6:=by rw[<-hM,i8,hSl]
     refine aU<|Xp<|Mv O<|Mv O<|bX O O (λw=>eI _ _ _ dc w) O O<|Mv O<|Ext O O<|Ext O O<|Ia (5) O O underlying25 sizeOf24<|aX 9 U64 hGF O O O sizeOf24 O (by rw[hRl];omega) O<|Asg O<|aa<|Xq<|Mv O<|Mv O<|Bnr O O (λ_=>a8 _ _ _)<|Asg O<|aa<|Xq<|Bnr O O (λ_=>aq _ _ _ oi)<|Mv O<|aa<|?_
     repeat (refine aL ?_)
     exact aB<|⟨rfl,⟨i+1,om⟩,_,by show 6-(i+1)<6-i;omega,rfl,⟨rfl,rfl,rfl,rfl,rfl,by rw[oF (MOD (a++List.replicate 6 0) m) b m cl i hS hM];rfl,rfl,rfl,trivial⟩,⟨rfl,rfl,rfl,by rw[oF (MOD (a++List.replicate 6 0) m) b m cl i hS hM];rfl,trivial⟩⟩
  ·obtain rfl:i=6:=by simp at hc;omega
   refine aU<|Xp<|Lw 9 O O cf (ez _ _ _ _ _)<|Mv O<|Lw 5 O O cf hm<|Ca O (pX _ _ _ (ez _ _ _ _ _) hm)<|Sw 6 hGF O O O cf (jE _ _ _ (ez _ _ _ _ _))<|aa<|ak<|Rr<|?_;exact au 6 O O O isAgg25 sizeOf25 (by rw[List.length_map];exact jE _ _ _ (ez _ _ _ _ _)) (λw hw=>⟨by rw[il,if_neg h0,if_neg (by rw[h1];decide),MN,hcl],ab hw⟩)
end
section
open Go.RowKit
theorem PLl:PL.length=6:=rfl
theorem cJ:TWO.length=6:=rfl
theorem cH:ONE.length=6:=rfl
theorem N1l:N1.length=6:=rfl
theorem cI:IVP.length=6:=rfl
theorem cL:HFP.length=6:=rfl
theorem cK:RTP.length=6:=rfl
attribute [local simp] a6 bv aH aA aQ aY aR aK aM PLl cJ cH N1l cI cL cK
abbrev EV(x:Zp):Value:=aJ (fe x)
abbrev NV(n:L6):Value:=aJ n
theorem zv52(w:World):(zeroValue 52).run prog w=.ok (aJ (List.replicate 6 (0#64))) w:=(zeroValue52 w).trans rr
theorem Gq(op:BinOp)(x y:Operand)(xs ys:Array Value)(w:World):(eqGuard op 25 x y (.agg xs) (.agg ys)).run prog w=.ok () w:=run_eqGuard_agg w op 25 x y xs ys kr
theorem DK(xs ys:L6)(h:xs.length=6)(h':ys.length=6)(w:World):(binOp .eql 25 (aJ xs) (aJ ys)).run prog w=.ok (.bool (decide (xs=ys))) w:=qZ underlying25 underlying24 sizeOf24 isAgg24 xs ys h h' w
theorem gx(x y:Zp):decide (fe x=fe y)=decide (x=y):=decide_eq_decide.2 pi
theorem MC{x y:BitVec 64}(h:(x==y)=true):x=y:=beq_iff_eq.1 h
theorem Lh{x y:BitVec 64}(h:(x==y)=false): ¬x=y:=beq_eq_false_iff_ne.1 h
theorem ent120:ai prog 120:=λ_ _=>kr
theorem ent74:ai prog 74:=λ_ _=>kr
theorem ent241:ai prog 241:=λ_ _=>kr
theorem ent188:ai prog 188:=λ_ _=>kr
theorem ent53:ai prog 53:=λ_ _=>kr
theorem ent179:ai prog 179:=λ_ _=>kr
theorem ent169:ai prog 169:=λ_ _=>kr
theorem ent153:ai prog 153:=λ_ _=>kr
theorem ent117:ai prog 117:=λ_ _=>kr
theorem ent116:ai prog 116:=λ_ _=>kr
theorem ent115:ai prog 115:=λ_ _=>kr
theorem ent204:ai prog 204:=λ_ _=>kr
theorem ent237:ai prog 237:=λ_ _=>kr
theorem ent152:ai prog 152:=λ_ _=>kr
theorem ent271:ai prog 271:=λ_ _=>kr
theorem ent73:ai prog 73:=λ_ _=>kr
theorem iz(x y:Zp):PUR 117 [EV x,EV y] (EV (x*y)):=by
 intro w hw;refine Hf func117 O hw<|λhGF=>Xp<|Bx 2 hGF O<|λb2=>Bx 3 hGF O<|λb3=>Al 4 hGF zv52<|λb4=>aa<|Xp<|Fa 0 O underlying52 O sizeOf25<|La 2 O O cf<|Fa 0 O underlying52 O sizeOf25<|La 3 O O cf<|gV hGF isAgg25 sizeOf25 sm (λ_ h=>h.g3) O O<|Ca O (iD _ _ _ sm sm sm)<|ch O sm underlying52 O sizeOf25 zv52 O O<|Sa 4 hGF O O O bM<|aa<|ak<|Rr<|?_;exact au 4 O O O isAgg52 sizeOf52 sm (λw hw=>⟨by rw[Jk],ab hw⟩)
theorem lO(n:L6)(hn:n.length=6):PUR 119 [NV n] (EV (zp (V n 6))):=by
 intro w hw;refine Hf func119 O hw<|λhGF=>Xp<|Bx 1 hGF O<|λb1=>Al 2 hGF zv52<|λb2=>aa<|Xp<|gV hGF isAgg25 sizeOf25 (by first|(simp;done)|simp[hn]) (λ_ h=>h.g5) O O<|bS 1 O O isAgg25 sizeOf25 (by first|(simp;done)|simp[hn]) O O<|gV hGF isAgg25 sizeOf25 (by first|(simp;done)|simp[hn]) (λ_ h=>h.g3) O O<|Ca O (iD _ _ _ (by first|(simp;done)|simp[hn]) (by first|(simp;done)|simp[hn]) (by first|(simp;done)|simp[hn]))<|ch O (by first|(simp;done)|simp[hn]) underlying52 O sizeOf25 zv52 O O<|az 2 hGF O O O sizeOf52 (by first|(simp;done)|simp[hn]) (by first|(simp;done)|simp[hn]) (ba _) O<|aa<|ak<|Rr<|?_
 exact au 2 O O O isAgg52 sizeOf52 (by first|(simp;done)|simp[hn]) (λw hw=>⟨by rw[Dk],ab hw⟩)
theorem jY(x:Zp):PUR 118 [EV x] (NV (nm x)):=by
 intro w hw;refine Hf func118 O hw<|λhGF=>Xp<|Bx 1 hGF O<|λb1=>Al 2 hGF zv25<|λb2=>aa<|Xp<|Fa 0 O underlying52 O sizeOf25<|La 1 O O cf<|eu 1 O underlying25 sizeOf24 zv25 O O<|gV hGF isAgg25 sizeOf25 sm (λ_ h=>h.g3) O O<|Ca O (iD _ _ _ sm sm sm)<|Sa 2 hGF O O O cf<|aa<|ak<|Rr<|?_;exact au 2 O O O isAgg25 sizeOf25 sm (λw hw=>⟨by rw[<-Eh];rfl,ab hw⟩)
theorem A1(n:BitVec 64): ∀k,V (n::List.replicate 5 0) (k+1)=n.toNat
 |0=>by rw[pR,V,Nat.mul_zero,Nat.pow_zero,Nat.mul_one,Nat.zero_add];rfl
 |k+1=>by
  have h0:(n::List.replicate 5 (0:BitVec 64)).getD (k+1) 0=0:=by
   rw[List.getD_eq_getElem?_getD,List.getElem?_cons_succ,List.getElem?_replicate];split<;>rfl
  rw[pR,A1 n k,h0,show (0:BitVec 64).toNat=0 from O,Nat.zero_mul,Nat.add_zero]
theorem oD(n:BitVec 64):V (n::List.replicate 5 0) 6=n.toNat:=A1 n 5
theorem eS(n:BitVec 64):PUR 120 [U64 n] (EV (zp n.toNat)):=by
 intro w hw;refine Hf func120 O hw<|λhGF=>Xp<|Al 2 hGF zv52<|λb2=>aa<|Xp<|Mv O<|eu n O underlying25 sizeOf24 zv25 O O<|Ca O (lO _ sm)<|Sa 2 hGF O O O bM<|aa<|ak<|Rr<|?_;exact au 2 O O O isAgg52 sizeOf52 sm (λw hw=>⟨by rw[oD],ab hw⟩)
theorem nM(x y:Zp):PUR 188 [EV x,EV y] (.bool (decide (x=y))):=by
 intro w hw;refine Hf func188 O hw<|λhGF=>Xp<|Bx 2 hGF O<|λb2=>Bx 3 hGF O<|λb3=>Asg O<|aa<|Xp<|Fa 0 O underlying52 O sizeOf25<|La 2 O O cf<|Fa 0 O underlying52 O sizeOf25<|La 3 O O cf<|cr O O (λ_=>Gq _ _ _ _ _ _) (λw=>DK _ _ sm sm w) O O<|Asg O<|aa<|ak<|Rr<|?_;exact aE O O (λw hw=>⟨by rw[gx],ab hw⟩)
theorem s8(x:Zp):PUR 53 [EV x] (.bool (decide (x=0))):=by
 intro w hw;refine Hf func53 O hw<|λhGF=>Xp<|Bx 1 hGF O<|λb1=>Asg O<|aa<|Xp<|Fa 0 O underlying52 O sizeOf25<|La 1 O O cf<|dX zv25 underlying25 sizeOf24 O O<|cr O O (λ_=>Gq _ _ _ _ _ _) (λw=>DK _ _ sm sm w) O O<|Asg O<|aa<|ak<|Rr<|?_;exact aE O O (λw hw=>⟨by rw[<-i2,gx],ab hw⟩)
theorem rB(x y:Zp):PUR 179 [EV x,EV y] (EV (x+y)):=by
 intro w hw;refine Hf func179 O hw<|λhGF=>Xp<|Bx 2 hGF O<|λb2=>Bx 3 hGF O<|λb3=>Al 4 hGF zv52<|λb4=>aa<|Xp<|Fa 0 O underlying52 O sizeOf25<|La 2 O O cf<|Fa 0 O underlying52 O sizeOf25<|La 3 O O cf<|Ca O (mC _ _ sm sm)<|Mv O<|Ext O O<|Ext O O<|Al 5 hGF zv25<|λb5=>Sa 5 hGF O O O cf<|Asg O<|aa<|Xp<|La 5 O O cf<|gV hGF isAgg25 sizeOf25 sm (λ_ h=>h.g3) O O<|Ca O (jv _ _ sm sm)<|Mv O<|Ext O O<|Ext O O<|Al 7 hGF zv25<|λb7=>Sa 7 hGF O O O cf<|Asg O<|aa<|ae<|Xp<|Mv O<|Bnr O O (λ_=>bj _ _ _)<|aa<|?_;refine bC O (λhc=> ?_) (λhc=> ?_)
 ·refine Xp<|La 5 O O cf<|ch O sm underlying52 O sizeOf25 zv52 O O<|Sa 4 hGF O O O bM<|aa<|ak<|Rr<|?_
  exact au 4 O O O isAgg52 sizeOf52 sm (λw hw=>⟨by rw[zh (HW (MC hc))],ab hw⟩)
 ·refine ap<|Xp<|La 7 O O cf<|ch O sm underlying52 O sizeOf25 zv52 O O<|Sa 4 hGF O O O bM<|aa<|ak<|Rr<|?_
  exact au 4 O O O isAgg52 sizeOf52 sm (λw hw=>⟨by rw[vu (tI (n8 _ _ _) (Lh hc))],ab hw⟩)
theorem nq(x y:Zp):PUR 169 [EV x,EV y] (EV (x-y)):=by
 intro w hw;refine Hf func169 O hw<|λhGF=>Xp<|Bx 2 hGF O<|λb2=>Bx 3 hGF O<|λb3=>Al 4 hGF zv52<|λb4=>aa<|Xp<|Fa 0 O underlying52 O sizeOf25<|La 2 O O cf<|Fa 0 O underlying52 O sizeOf25<|La 3 O O cf<|Ca O (jv _ _ sm sm)<|Mv O<|Ext O O<|Ext O O<|Al 5 hGF zv25<|λb5=>Sa 5 hGF O O O cf<|Asg O<|aa<|ae<|Xp<|Mv O<|Bnr O O (λ_=>bj _ _ _)<|aa<|?_;refine bC O (λhc=> ?_) (λhc=> ?_)
 ·refine Xq<|La 5 O O cf<|gV hGF isAgg25 sizeOf25 sm (λ_ h=>h.g3) O O<|Ca O (mC _ _ sm sm)<|Mv O<|Ext O O<|Ext O O<|Sa 5 hGF O O O cf<|aa<|Xp<|La 5 O O cf<|ch O sm underlying52 O sizeOf25 zv52 O O<|Sa 4 hGF O O O bM<|aa<|ak<|Rr<|?_
  exact au 4 O O O isAgg52 sizeOf52 sm (λw hw=>⟨by rw[Ba (MC hc)],ab hw⟩)
 ·refine ap<|Xp<|La 5 O O cf<|ch O sm underlying52 O sizeOf25 zv52 O O<|Sa 4 hGF O O O bM<|aa<|ak<|Rr<|?_
  exact au 4 O O O isAgg52 sizeOf52 sm (λw hw=>⟨by rw[vH (tI (n8 _ _ _) (Lh hc))],ab hw⟩)
theorem dY(x:Zp):PUR 153 [EV x] (EV (-x)):=by
 intro w hw;refine Hf func153 O hw<|λhGF=>Xp<|Bx 1 hGF O<|λb1=>Al 2 hGF zv52<|λb2=>aa<|Xp<|el zv52 underlying52 (lL sizeOf25) O O<|La 1 O O bM<|Ca O ((show PUR 169 [NV (List.replicate 6 0#64),EV x] (EV (0-x)) by rw[<-i2];exact nq 0 x))<|Sa 2 hGF O O O bM<|aa<|ak<|Rr<|?_
 exact au 2 O O O isAgg52 sizeOf52 sm (λw hw=>⟨by rw[show (0:Zp)-x= -x by grind],ab hw⟩)
theorem jM(x:Zp):PUR 116 [EV x] (EV (x*x)):=by
 intro w hw;refine Hf func116 O hw<|λhGF=>Xp<|Bx 1 hGF O<|λb1=>Al 2 hGF zv52<|λb2=>aa<|Xp<|La 1 O O bM<|La 1 O O bM<|Ca O (iz _ _)<|Sa 2 hGF O O O bM<|aa<|ak<|Rr<|?_;exact au 2 O O O isAgg52 sizeOf52 sm (λw hw=>⟨rfl,ab hw⟩)
theorem kV(x:Zp):PUR 71 [EV x] (.agg ((cG x).map U8).toArray):=by
 intro w hw;refine Hf func71 O hw<|λhGF=>Xp<|Bx 1 hGF O<|λb1=>Al 2 hGF zv29<|λb2=>aa<|Xp<|La 1 O O bM<|Ca O (jY _)<|Ca O (jU _ sm)<|az 2 hGF O O O sizeOf29 sm sm (bY _) O<|aa<|ak<|Rr<|?_;exact au 2 O O O isAgg29 sizeOf29 sm (λw hw=>⟨rfl,ab hw⟩)
end
section
open Go.RowKit
theorem ent263:ai prog 263:=λ_ _=>kr
attribute [local simp] a6 bv aH aA aQ aY aR aK aM PLl cJ cH N1l cI cL cK bf bB
theorem zv269(w:World):(zeroValue 269).run prog w=.ok (aJ (FL (λ_=>List.replicate 6 0#64) 16)) w:=(zeroValue269 w).trans rr
theorem rN:PUR 120 [U64 1#64] (EV 1):=eS 1#64
theorem wh(x:Zp):PUR 236 [EV x] (aJ (SP x 16)):=by
 intro w hw;refine Hf func236 O hw<|λhGF=>Xp<|Bx 1 hGF O<|λb1=>Al 2 hGF zv269<|λb2=>aa<|Xp<|Ca O (rN)<|Cg O sm dc underlying269 sizeOf52 zv269 O O<|Al 3 hGF zv269<|λb3=>Sa 3 hGF O O O z7<|aa<|ae<|Xp<|Asg O<|aa<|ah<|bG (ι:={i:Nat // 1<=i/\i<=16}) (λy=>[(1,pnt b1),(2,pnt b2),(3,pnt b3),(4,I (y.1:Int))]) (λy=>[(1,b1,(fe x).map U64,52),(2,b2,(FL (λ_=>List.replicate 6 0#64) 16).map U64,269),(3,b3,(SP x y.1).map U64,269)]) (λy=>16-y.1) ⟨1,om⟩ hGF trv ⟨rfl,rfl,by rw[<-Ru];rfl,trivial⟩<|?_
 rintro ⟨i,hi⟩;dsimp only;refine ae<|Xp<|Mv O<|Bnr O O (λ_=>av _ _ _)<|aa<|?_;refine bC O (λhc=> ?_) (λhc=> ?_)
 ·simp only[decide_eq_true_eq]at hc
  refine ap<|ae<|ah<|Xe []<|Mv O<|Mv O<|Bnr O O (λ_=>aV _ _ _ oi)<|fx (i-1) (6*(i-1)) O O underlying269 sizeOf52 om om om O O<|aw 3 ((fe (x^(i-1))).map U64) O O isAgg52 sizeOf52 sm (ua x i (i-1) om om _ O) O O<|La 1 O O bM<|Ca O (iz _ _)<|fx (i) (6*(i)) O O underlying269 sizeOf52 om om om O O<|lh 3 ((SP x (i+1)).map U64) hGF O O O sizeOf52 sm (ba _) (by rw[List.length_map,List.length_map,a6,bB];omega) (IY x i om om _ O) O<|aa<|Xq<|Mv O<|Bnr O O (λ_=>aq _ _ _ oi)<|Asg O<|aa<|?_
  repeat (refine aL ?_)
  exact aB<|⟨rfl,⟨i+1,om⟩,_,by show 16-(i+1)<16-i;omega,rfl,trv,trv⟩
 ·obtain rfl:i=16:=by simp at hc;omega
  refine aU<|Xp<|La 3 O O z7<|Sa 2 hGF O O O z7<|aa<|ak<|Rr<|?_;exact au 2 O O O isAgg269 sizeOf269 sm (λw hw=>⟨rfl,ab hw⟩)
def RdD(bb:Nat)(e:Option Addr)(cap:Nat)(bs:L8):Cls:=λW=>W.cell? ⟨bb,0,none⟩=some (.slice e bs.length cap)/\BytesAt W e bs
def NB(bs:L8):List (List Value):=(List.range (2*bs.length)).map λm=>[U8 (NBv bs m)]
theorem xe(bs:L8):(NB bs).length=2*bs.length:=by simp[NB]
theorem y8(bs:L8)(m:Nat)(h:m<2*bs.length):(NB bs)[m]? =some [U8 (NBv bs m)]:=by
 rw[NB,List.getElem?_map,List.getElem?_range h];rfl
theorem Ts(bs:L8)(m:Nat)(x:List Value)(h:(NB bs)[m]? =some x):m<2*bs.length/\x=[U8 (NBv bs m)]:=by
 have hm:m<2*bs.length:=by
  rcases Nat.lt_or_ge m (2*bs.length)with h'|h'
  ·exact h'
  ·rw[List.getElem?_eq_none (by rw[xe];exact h')]at h;cases h
 rw[y8 bs m hm]at h;exact ⟨hm,(Option.some.inj h).symm⟩
theorem Xv(bs:L8)(i:Nat)(h:i<bs.length):(NB bs)[2*i]? =some [U8 (bs.getD i 0>>>4)]:=by
 rw[y8 bs _ om,NBv,if_pos om,show 2*i / 2=i by omega]
theorem WU(bs:L8)(i:Nat)(h:i<bs.length):(NB bs)[2*i+1]? =some [U8 (bs.getD i 0 % 16#8)]:=by
 rw[y8 bs _ om,NBv,if_neg om,show (2*i+1) / 2=i by omega]
theorem q9(sv:Value)(hs:sv.cells= #[sv])(w:World)(hw:Gt w):CLS 237 [sv].toArray w (λe w'=> ∃b1,e=.returned (.func (.func 263) #[] #[pnt b1])/\Grow w w'/\w.heap.size<=b1/\OwnB w' b1 [sv] 22):=by
 refine Hf func237 O hw<|λhGF=>Xp<|iN 1 hGF O O O<|λb1=>Asg O<|aa<|Xp<|gj O O O O<|Asg O<|aa<|ak<|Rr<|?_;exact aE O O (λw hw=>⟨b1,rfl,ab hw,(hw.own 1 b1 _ _ O).2.elim id False.elim,(by have:=(hw.own 1 b1 _ _ O).1;rw[hs]at this;exact this)⟩)
theorem vr(bb:Nat)(e:Option Addr)(cap:Nat)(bs:L8)(hlen:bs.length<=1000000):fD prog Gt 263 [pnt bb] (NB bs) (RdD bb e cap bs):=by
 intro l J Jx hJ hJx hRd hGx hY w hj;have okJ: ∀k,BOk Gt (Bi w (λY=>J Y k)):=λk=>⟨λ_ _ _ h=>(hRd _ _ _ h.rid).1,hJ k⟩;have okX: ∀k,BOk Gt (Bi w (λY=>Jx Y k)):=λk=>⟨λ_ _ _ h=>hGx _ _ _ h.rid,hJx k⟩;have c1: ∀k L w',Hp (Bi w (λY=>J Y k)) L w'->RdD bb e cap bs w':=λk L w' h=>(hRd _ _ _ h.rid).2;have hby:=(hRd _ _ _ hj).2.2;refine cu (G:=Gt) func263 O O (Hp (Bi w (λY=>J Y 0)) []) (ci (Bi w _) hj (hJ 0)) (ay (okJ 0))<|Xp<|bN O isAgg22 (λw h=>(c1 _ _ w h).1) O O<|bc O (λ_=>aF underlying22 _ _ _ _) O O<|Mv O<|aa<|ah<|gy (ι:={i:Nat // i<=bs.length}) (λx=>[(0,.func (.yield l) #[] #[]),(1,pnt bb),(5,.slice e bs.length cap),(6,I (bs.length:Int)),(7,I (x.1:Int))]) (λx=>Bi w (λY=>J Y (2*x.1))) (λx=>[]) (λx=>bs.length-x.1) ⟨0,Nat.zero_le _⟩ (λ_=>okJ _) O trv trivial<|?_;rintro ⟨i,hi⟩;dsimp only;refine Xp<|Bnr O O (λ_=>av _ _ _)<|aa<|ae<|?_;refine bC O (λhc=> ?_) (λhc=> ?_)
 ·simp only[decide_eq_true_eq]at hc
  have hi2:i<bs.length:=om;refine ap<|ae<|ah<|Xp<|?_;obtain ⟨ad,rfl,_⟩:=hby i _ (gm U8 bs 0 i om);refine gA i O O underlying22 sizeOf5 O om O O<|bN O isAgg5 (λw' h=>by obtain ⟨ad',e',hc'⟩:=(c1 _ _ w' h).2 i _ (gm U8 bs 0 i om);cases e';exact hc') O O<|Asg O<|aa<|B3 (E:=EE []) 4<|Mv O<|Mv O<|Bnr (v:=U8 (bs.getD i 0>>>4)) O O (λ_=>wW _ _ 4#64)<|?_
  refine dw (hY.b (k:=2*i) (Xv bs i om) w) (okJ _) (okX _) O O O O O ?_ ?_
  ·refine aa ?_
   refine ⟨EE [], ?_⟩;refine bi O (λ_=>a5 _) O O<|Mv O<|Mv O<|Mv O<|Bnr (v:=U8 (bs.getD i 0 % 16#8)) O O (λ_=>yW _ _ 16#8 dc)<|?_;refine dw (hY.b (k:=2*i+1) (WU bs i om) w) (okJ _) (okX _) O O O O O ?_ ?_
   ·refine bi O (λ_=>a5 _) O O<|Pk O O O<|aa<|aC O<|ap<|Xq<|Bnr O O (λ_=>aq _ _ _ oi)<|Mv O<|aa<|?_
    rw[show 2*i+1+1=2*(i+1) by omega]
    repeat (refine aL ?_)
    exact aB<|⟨rfl,⟨i+1,om⟩,_,by show bs.length-(i+1)<bs.length-i;omega,rfl,trv,trivial⟩
   ·refine bi O (λ_=>a5 _) O O<|Pk O O O<|aa<|aP O<|ak<|Rr<|?_
    repeat (first|refine du ?_|refine ck ?_|refine dK O ?_|refine bJ ?_|refine bI ?_)
    exact dr O (λw hw=>⟨⟨_,rfl⟩,.inr ⟨_,bZ (hJx _) hw.rid⟩⟩)
  ·refine aa ?_
   refine ⟨EE [3000000], ?_⟩;refine bi O (λ_=>a5 _) O O<|Mv O<|Sk<|Sk<|Sk<|Sk<|Sk<|Pk O O O<|aa<|aP O<|ak<|Rr<|?_
   repeat (first|refine du ?_|refine ck ?_|refine dK O ?_|refine bJ ?_|refine bI ?_)
   exact dr O (λw hw=>⟨⟨_,rfl⟩,.inr ⟨_,bZ (hJx _) hw.rid⟩⟩)
 ·simp only[decide_eq_false_iff_not]at hc
  obtain rfl:i=bs.length:=om;refine aU ?_
  repeat (first|refine du ?_|refine ck ?_|refine dK O ?_|refine bJ ?_|refine bI ?_)
  refine cS O (λw hw=>⟨⟨_,rfl⟩,.inl ?_⟩);have:=bZ (hJ _) hw.rid;rw[xe];exact this
end
section
open Go.RowKit
attribute [local simp] a6 bv aH aA aQ aY aR aK aM PLl cJ cH N1l cI cL cK bf bB
theorem xK(x:Zp)(e:Option Addr)(cap:Nat)(bs:L8)(hlen:bs.length<=1000000)(w:World)(hw:Gt w)(hby:BytesAt w e bs):
 CLS 204 [EV x,.slice e bs.length cap].toArray w (λr w'=>r=.returned (EV (x^BN bs bs.length))/\Grow w w'):=by
 have hGF:BOk Gt (pl w):=gt_low.plain hw;refine cw (G:=Gt) func204 O O (Hp (pl w) []) (ci (pl w) trivial am) (ay hGF)<|ac (E:=EE [237])<|Bx 2 hGF O<|λb2=>Al 4 hGF zv52<|λb4=>aa<|ac (E:=EE [237])<|La 2 O O bM<|Ca O (wh _)<|Al 5 hGF zv269<|λb5=>Sa 5 hGF O O O z7<|aa<|ac (E:=EE [237])<|fx 0 0 O O underlying269 sizeOf52 O dc O O O<|aw 5 ((fe (x^0)).map U64) O O isAgg52 sizeOf52 sm (ua x 16 0 dc dc 0 O) O O<|Al 6 hGF zv52<|λb6=>Sa 6 hGF O O O bM<|aa<|ae<|ac (E:=EE [237])<|Mv O<|?_;refine dy O O ent237 O O (λw' hw'=>(q9 _ O w' (hGF.g _ _ _ hw')).mono λe' w'' h=> ?_);obtain ⟨c1,rfl,hg,h1,ho⟩:=h;refine ⟨_,_,rfl,ay hGF,hw'.news am hg [(33,c1,[.slice e bs.length cap],22)] ?_ bQ, ?_⟩
 ·intro n' b' c' t' hl
  rcases aI hl with ⟨_,e⟩|⟨_,hl⟩
  ·cases e;exact ⟨h1,ho⟩
  ·cases hl
 clear hw' hg h1 ho;refine aa<|ah<|?_;refine fc (λ_=>pl w) (λ_ _=>pl w) (λ_=>hGF) (λ_ _=>hGF) (λ_=>rfl) (λ_ _=>rfl) O O ent263 (vr c1 e cap bs hlen) (λx hx=>by obtain ⟨k,hk,rfl⟩:=List.mem_map.1 hx;rfl) O (λk=>[(2,b2,(fe x).map U64,52),(4,b4,(List.replicate 6 0#64).map U64,52),(5,b5,(SP x 16).map U64,269),(6,b6,(fe (x^DN bs k)).map U64,52),(33,c1,[.slice e bs.length cap],22)]) (λ_ _ _=>False) ⟨rfl,rfl,rfl,by rw[DN];rfl,rfl,trivial⟩ (λk _ w' h=>⟨cM (n:=33) O O w' h,hby.grow (h.below (λ_ h=>h))⟩) ?_ ?_ (λ_ _ _ _ _ h=>h.elim)
 ·intro k v hx R hR
  obtain ⟨hk,rfl⟩:=Ts bs k v hx;have hlt:=Rh bs k;refine bF (E:=EE [237])<|Asg O<|aa<|?_;refine ⟨rfl,_,rfl, ?_⟩;refine ah<|ae<|ac (E:=EE [237])<|Mv O<|aa<|ah<|bG (ι:={i:Nat // i<=4}) (λj=>[(5,pnt b5),(6,pnt b6),(7,U8 (NBv bs k)),(15,I (j.1:Int))]) (λj=>[(2,b2,(fe x).map U64,52),(4,b4,(List.replicate 6 0#64).map U64,52),(5,b5,(SP x 16).map U64,269),(6,b6,(fe (x^(2^j.1*DN bs k))).map U64,52),(33,c1,[.slice e bs.length cap],22)]) (λj=>4-j.1) ⟨0,om⟩ (hR (pl w) O hGF).2.1 trv ⟨rfl,rfl,rfl,by rw[Nat.pow_zero,Nat.one_mul];rfl,rfl,trivial⟩<|?_
  rintro ⟨j,hj⟩;dsimp only;refine ac (E:=EE [237])<|Bnr O O (λ_=>av _ _ _)<|aa<|ae<|?_;refine bC O (λhc=> ?_) (λhc=> ?_)
  ·simp only[decide_eq_true_eq]at hc
   refine ap<|ae<|ah<|bF (E:=EE [237])<|La 6 O O bM<|Ca O (jM _)<|az 6 (hR (pl w) O hGF).2.1 O O O sizeOf52 sm sm (ba _) O<|aa<|bF (E:=EE [237])<|Bnr O O (λ_=>aq _ _ _ oi)<|Mv O<|aa<|?_
   repeat (refine aL ?_)
   exact aB<|⟨rfl,⟨j+1,om⟩,_,by show 4-(j+1)<4-j;omega,rfl,trv,⟨rfl,rfl,rfl,by rw[<-I0];rfl,rfl,trivial⟩⟩
  ·obtain rfl:j=4:=by simp at hc;omega
   refine aU<|Xe [237]<|La 6 O O bM<|Mv O<|IS (6*(NBv bs k).toNat) O O underlying269 sizeOf52 hlt om O O<|aw 5 ((fe (x^(NBv bs k).toNat)).map U64) O O isAgg52 sizeOf52 sm (ua x 16 _ hlt (Nat.le_refl _) _ O) O O<|Ca O (CT x bs k▸iz (x^(2^4*DN bs k)) (x^(NBv bs k).toNat))<|az 6 (hR (pl w) O hGF).2.1 O O O sizeOf52 sm sm (ba _) O<|aa<|?_
   repeat (refine aL ?_)
   exact ⟨_,rfl,trv⟩
 ·intro D hD
  rw[xe,Ef];refine ac (E:=EE [237])<|La 6 O O bM<|Sa 4 hD O O O bM<|aa<|ak<|Rr<|?_;exact dR (.inl O) am (au 4 O O O isAgg52 sizeOf52 sm (λw hw=>⟨rfl,ab hw⟩))
end
theorem A4(l:L6):(l.getD 0 0).toNat % 2=V l 6 % 2:=by
 have h:=Mw l 6 0 dc;rw[Nat.testBit_zero,Nat.zero_div,Nat.zero_mod,BitVec.getLsbD,Nat.testBit_zero]at h;have h':=decide_eq_decide.1 h;omega
theorem Nx(x:Zp):((nm x).getD 0 0 % 2#64==1#64)=decide (x.val % 2=1):=by
 have h:=A4 (nm x);rw[sZ]at h;rw[<-h];by_cases e:(nm x).getD 0 0 % 2#64=1#64
 ·have:=congrArg BitVec.toNat e
  rw[BitVec.toNat_umod]at this;rw[beq_iff_eq.2 e,decide_eq_true];exact this
 ·rw[beq_eq_false_iff_ne.2 e,decide_eq_false]
  intro h';apply e;apply BitVec.eq_of_toNat_eq;rw[BitVec.toNat_umod];exact h'
theorem J5(x:Zp):decide ((nm x).getD 0 0 &&& 1#64=1#64)=decide (x.val % 2=1):=by
 have h:=A4 (nm x);rw[sZ]at h;rw[<-h];apply decide_eq_decide.2;constructor
 ·intro e
  have:=congrArg BitVec.toNat e;rw[BitVec.toNat_and,show (1#64).toNat=1 from O,Nat.and_one_is_mod]at this;exact this
 ·intro e
  apply BitVec.eq_of_toNat_eq;rw[BitVec.toNat_and,show (1#64).toNat=1 from O,Nat.and_one_is_mod];exact e
def hf:Nat:=(PP-1) / 2
def rg:Nat:=(PP+1) / 4
theorem uk:PP % 4=3:=by decide+kernel
theorem nj:1000<PP:=by decide+kernel
theorem lP:2*hf+1=PP:=by have:=uk;unfold hf;omega
theorem OU:4*rg=PP+1:=by have:=uk;unfold rg;omega
theorem Qe:hf % 2=1:=by have:=uk;have:=lP;omega
theorem Tl:2*rg=hf+1:=by have:=OU;have:=lP;omega
theorem F5(x:Zp):LT HFP (nm x) 6=decide (hf<x.val):=by rw[qa,sZ,KI];rfl
theorem PB: ∃n,hf=n+1:=⟨hf-1,by have:=lP;have:=nj;omega⟩
def SQr(x:Zp):Zp:=x^rg
def SQn(x:Zp):Zp:=if hf<(SQr x).val then-(SQr x)else SQr x
def SQ(x:Zp):Zp:=if SQr x*SQr x=x then SQn x else 0
def FO(bs:L8):Bool:=decide (bs.length=48/\BN bs 48<PP)
def FV(bs:L8):Zp:=if bs.length=48/\BN bs 48<PP then zp (BN bs 48)else 0
def ZB(bs:L8):Zp:=zp (BN bs bs.length)
theorem KL{k:Nat}(h:R6=2^k)(hk:k=8*48):R6=256^48:=by rw[xr,h,hk]
theorem Pg:R6=256^48:=KL eB O
theorem CS(bs:L8)(k cut:Nat)(h:k=0\/cut=48):zp (BN bs k)*RZ+zp (BN (bs.drop k) cut)=zp (BN bs (k+cut)):=by
 rw[ql bs k cut,ga,i5];rcases h with rfl|rfl
 ·rw[BN,Jl];grind
 ·rw[<-Pg];rfl
theorem Qd{n:Nat}(h0:0<n)(h:n % 48=0):(n-1) % 48+1=48:=om
theorem ED{n:Nat}(h0:0<n):(n-((n-1) % 48+1)) % 48=0/\(n-1) % 48+1<=n/\(n-1) % 48+1<=48:=om
theorem Jn(bs:L8)(n:Nat):BN (bs.take n) n=BN bs n:=qc n λi hi=>by
 rw[List.getD_eq_getElem?_getD,List.getD_eq_getElem?_getD,List.getElem?_take,if_pos hi]
section
open Go.RowKit
attribute [local simp] a6 bv aH aA aQ aY aR aK aM PLl cJ cH N1l cI cL cK bf bB
theorem QT(x:Zp)(b:Nat)(t:TypeId)(bs:L8)(h48:bs.length=48)(w:World)(hw:Gt w)(ho:OwnB w b (bs.map U8) t):
 CLS 204 [EV x,.slice (spt b) 48 48].toArray w (λr w'=>r=.returned (EV (x^BN bs 48))/\Grow w w'):=by
 have h:=xK x (spt b) 48 bs om w hw (BytesAt.range ho.range);rw[h48]at h;exact h
theorem nX(a:Option Addr)(len cap:Nat)(bs:L8)(hl:bs.length=len)(h:len<=48)(w:World)(hw:Gt w)(hby:BytesAt w a bs):
 CLS 28 [.slice a len cap].toArray w (λe w'=>e=.returned (.tuple #[NV (FRs bs bs.length),.bool true])/\Grow w w'):=by
 subst hl;exact (o4 a cap bs w hw hby).mono λe w' ⟨he,hg⟩=>⟨by rw[he,if_neg om],hg⟩
theorem nQ(x:Zp)(n:L6)(hn:n.length=6):PUR 167 [EV x,NV n] (EV (x^V n 6)):=by
 intro w hw;refine Hf func167 O hw<|λhGF=>Xp<|Bx 2 hGF O<|λb2=>Bx 3 hGF O<|λb3=>Al 4 hGF zv52<|λb4=>aa<|Xp<|bS 3 O O isAgg25 sizeOf25 (by first|(simp;done)|simp[hn]) O O<|Ca O (jU _ (by first|(simp;done)|simp[hn]))<|Al 5 hGF zv29<|λb5=>az 5 hGF O O O sizeOf29 (by first|(simp;done)|simp[hn]) (by first|(simp;done)|simp[hn]) (bY _) O<|aa<|Xd []<|bS 2 O O isAgg52 sizeOf52 (by first|(simp;done)|simp[hn]) O O<|bP (l:=0) (h':=48) O underlying29 sizeOf5 O O om om O O<|Cc O ent204 (λw hC hG=>QT x _ _ (BYs n 48) (by first|(simp;done)|simp[hn]) w hG (hC.own 5 _ _ _ O).1)<|az 4 hGF O O O sizeOf52 (by first|(simp;done)|simp[hn]) (by first|(simp;done)|simp[hn]) (ba _) O<|aa<|ak<|Rr<|?_
 exact au 4 O O O isAgg52 sizeOf52 (by first|(simp;done)|simp[hn]) (λw hw=>⟨by rw[lX n hn 48 O],ab hw⟩)
theorem BV(x:Zp):PUR 115 [EV x] (EV (x^(PP-2))):=by
 intro w hw;refine Hf func115 O hw<|λhGF=>Xp<|Bx 1 hGF O<|λb1=>Al 2 hGF zv52<|λb2=>aa<|Xp<|La 1 O O bM<|gV hGF isAgg25 sizeOf25 sm (λ_ h=>h.g4) O O<|Ca O (nQ _ _ sm)<|Sa 2 hGF O O O bM<|aa<|ak<|Rr<|?_;exact au 2 O O O isAgg52 sizeOf52 sm (λw hw=>⟨by rw[<-I1],ab hw⟩)
theorem BI(x:Zp):PUR 271 [EV x] (.bool (decide (x.val % 2=1))):=by
 intro w hw;refine Hf func271 O hw<|λhGF=>Xp<|Bx 1 hGF O<|λb1=>Asg O<|aa<|Xp<|La 1 O O bM<|Ca O (jY _)<|i1 U64 0 (0) O O underlying25 sizeOf24 isAgg24 om om sm O O<|Bnr O O (λ_=>eU _ _ _ dc)<|Bnr O O (λ_=>bj _ _ _)<|Asg O<|aa<|ak<|Rr<|?_;exact aE O O (λw hw=>⟨by rw[<-Nx]<;>rfl,ab hw⟩)
theorem kG(x:Zp):PUR 73 [EV x] (.bool (decide (hf<x.val))):=by
 intro w hw;refine Hf func73 O hw<|λhGF=>Xp<|Bx 1 hGF O<|λb1=>Asg O<|aa<|Xd []<|gV hGF isAgg25 sizeOf25 sm (λ_ h=>h.g2) O O<|La 1 O O bM<|Ca O (jY _)<|Ca O (k4 _ _ sm sm)<|Asg O<|aa<|ak<|Rr<|?_;exact aE O O (λw hw=>⟨by rw[<-F5],ab hw⟩)
theorem JO(x:Zp):PUR 167 [EV x,NV RTP] (EV (SQr x)):=by
 have h:=nQ x RTP O;rw[J8]at h;exact h
theorem lY(x:Zp):PUR 152 [EV x] (.tuple #[EV (SQ x),.bool (decide (SQr x*SQr x=x))]):=by
 intro w hw;refine Hf func152 O hw<|λhGF=>Xp<|Bx 1 hGF O<|λb1=>Al 2 hGF zv52<|λb2=>Asg O<|aa<|Xp<|La 1 O O bM<|gV hGF isAgg25 sizeOf25 sm (λ_ h=>h.g6) O O<|Ca O (JO x)<|Al 4 hGF zv52<|λb4=>Sa 4 hGF O O O bM<|aa<|ae<|Xd []<|La 4 O O bM<|Ca O (jM _)<|La 1 O O bM<|Ca O (nM _ _)<|bi O (λ_=>a5 _) O O<|aa<|?_;refine bC O (λhc=> ?_) (λhc=> ?_)
 ·have hs: ¬SQr x*SQr x=x:=by simpa using hc
  refine Xp<|el zv52 underlying52 (lL sizeOf25) O O<|Sa 2 hGF O O O bM<|Asg O<|aa<|ak<|Rr<|?_;exact aZ 2 O O O O isAgg52 sizeOf52 sm (λw hw=>⟨by rw[SQ,if_neg hs,decide_eq_false hs,<-i2]<;>rfl,ab hw⟩)
 ·have hs:SQr x*SQr x=x:=by simpa using hc
  clear hc;refine ap<|ae<|Xp<|La 4 O O bM<|Ca O (kG _)<|aa<|?_;refine bC O (λhc=> ?_) (λhc=> ?_)
  ·simp only[decide_eq_true_eq]at hc
   refine Xq<|La 4 O O bM<|Ca O (dY _)<|Sa 4 hGF O O O bM<|aa<|Xp<|La 4 O O bM<|Sa 2 hGF O O O bM<|Asg O<|aa<|ak<|Rr<|?_;exact aZ 2 O O O O isAgg52 sizeOf52 sm (λw hw=>⟨by rw[SQ,if_pos hs,SQn,if_pos hc,decide_eq_true hs]<;>rfl,ab hw⟩)
  ·simp only[decide_eq_false_iff_not]at hc
   refine ap<|Xp<|La 4 O O bM<|Sa 2 hGF O O O bM<|Asg O<|aa<|ak<|Rr<|?_;exact aZ 2 O O O O isAgg52 sizeOf52 sm (λw hw=>⟨by rw[SQ,if_pos hs,SQn,if_neg hc,decide_eq_true hs]<;>rfl,ab hw⟩)
theorem ec(e:Option Addr)(cap:Nat)(bs:L8)(w:World)(hw:Gt w)(hby:BytesAt w e bs):
 CLS 74 [.slice e bs.length cap].toArray w (λr w'=>r=.returned (.tuple #[EV (FV bs),.bool (FO bs)])/\Grow w w'):=by
 refine Hf func74 O hw<|λhGF=>Xp<|Al 2 hGF zv52<|λb2=>Asg O<|aa<|ae<|Xp<|Mv O<|bc O (λ_=>aF underlying22 _ _ _ _) O O<|Bnr O O (λ_=>bz _ _ _)<|aa<|?_;refine bC O (λhc=> ?_) (λhc=> ?_)
 ·have hc: ¬bs.length=48:=by simp at hc;omega
  refine Xp<|el zv52 underlying52 (lL sizeOf25) O O<|Sa 2 hGF O O O bM<|Asg O<|aa<|ak<|Rr<|?_;exact aZ 2 O O O O isAgg52 sizeOf52 sm (λw hw=>⟨by rw[FV,FO,if_neg (λh=>hc h.1),decide_eq_false (λh=>hc h.1),<-i2]<;>rfl,ab hw⟩)
 ·have h48:bs.length=48:=by simp at hc;omega
  clear hc;refine ap<|Xp<|Mv O<|Cc O ent28 (λw' hC hG=>nX e bs.length cap bs O om w' hG (hby.grow (ab hC)))<|Mv O<|Ext O O<|Ext O O<|Al 4 hGF zv25<|λb4=>Sa 4 hGF O O O cf<|Asg O<|aa<|ae<|Xp<|Mv O<|bi O (λ_=>a5 _) O O<|Mv O<|La 4 O O cf<|gV hGF isAgg25 sizeOf25 sm (λ_ h=>h.g3) O O<|Ca O (k4 _ _ sm sm)<|bi O (λ_=>a5 _) O O<|Pk O O O<|aa<|?_;refine bC O (λhc=> ?_) (λhc=> ?_)
  ·have e0:V (FRs bs bs.length) 6=BN bs 48:=by rw[nC bs om,h48]
   have hl: ¬BN bs 48<PP:=by rw[qa,ic,e0]at hc;simpa using hc
   clear hc;refine Xp<|el zv52 underlying52 (lL sizeOf25) O O<|Sa 2 hGF O O O bM<|Asg O<|aa<|ak<|Rr<|?_;exact aZ 2 O O O O isAgg52 sizeOf52 sm (λw hw=>⟨by rw[FV,FO,if_neg (λh=>hl h.2),decide_eq_false (λh=>hl h.2),<-i2]<;>rfl,ab hw⟩)
  ·have e0:V (FRs bs bs.length) 6=BN bs 48:=by rw[nC bs om,h48]
   have hl:BN bs 48<PP:=by rw[qa,ic,e0]at hc;simpa using hc
   clear hc;refine ap<|Xp<|La 4 O O cf<|Ca O (lO _ sm)<|Sa 2 hGF O O O bM<|Asg O<|aa<|ak<|Rr<|?_;exact aZ 2 O O O O isAgg52 sizeOf52 sm (λw hw=>⟨by rw[FV,FO,if_pos ⟨h48,hl⟩,decide_eq_true ⟨h48,hl⟩,nC bs om,h48]<;>rfl,ab hw⟩)
structure WSt(w:World)(bs:L8) where
 (k:Nat) (a:Option Addr) (c:Nat)
 hk:k<=bs.length
 hc:bs.length-k<=c
 hb:BytesAt w a (bs.drop k)
 hm:k=0\/(bs.length-k) % 48=0
theorem m9(bs:L8)(k cut:Nat)(h:cut<=bs.length-k):((bs.drop k).take cut).length=cut:=by
 rw[List.length_take,List.length_drop];omega
theorem wX(y:Zp):PUR 117 [EV y,NV TWO] (EV (y*RZ)):=QN▸iz y RZ
theorem wC(bs:L8)(h:bs.length<=48):PUR 119 [NV (FRs bs bs.length)] (EV (zp (BN bs bs.length))):=nC bs h▸lO (FRs bs bs.length) (aR _ _)
theorem wq(e:Option Addr)(cap:Nat)(bs:L8)(hlen:bs.length<=1000000)(hcap:bs.length<=cap)(w:World)(hw:Gt w)(hby:BytesAt w e bs):
 CLS 241 [.slice e bs.length cap].toArray w (λr w'=>r=.returned (EV (ZB bs))/\Grow w w'):=by
 refine Hf func241 O hw<|λhGF=>Xp<|Al 2 hGF zv52<|λb2=>aa<|Xp<|Al 3 hGF zv52<|λb3=>aa<|ae<|ah<|bG (ι:=WSt w bs) (λx=>[(0,.slice x.a (bs.length-x.k) x.c),(2,pnt b2),(3,pnt b3)]) (λx=>[(2,b2,(List.replicate 6 0#64).map U64,52),(3,b3,(fe (zp (BN bs x.k))).map U64,52)]) (λx=>(bs.length-x.k)) ⟨0,e,cap,Nat.zero_le _,hcap,hby,.inl O⟩ hGF trv ⟨rfl,by rw[BN,Jl,i2];rfl,trivial⟩<|λx=>ae<|Xp<|Mv O<|bc O (λ_=>aF underlying22 _ _ _ _) O O<|Bnr O O (λ_=>a9 _ _ _)<|aa<|?_
 refine bC O (λhc=> ?_) (λhc=> ?_)
 ·have hn:0<(bs.length-x.k):=by simp at hc;omega
  clear hc;have hlenx:=x.hk;have hcut:=ED hn;have hnext:BytesAt w (if x.c=(((bs.length-x.k)-1) % 48+1)then x.a else x.a.map (·.add ((((bs.length-x.k)-1) % 48+1)*1))) (bs.drop (x.k+(((bs.length-x.k)-1) % 48+1))):=by
   have:=x.hb.drop (cap:=x.c) (l:=(((bs.length-x.k)-1) % 48+1)) (by rw[List.length_drop];exact x.hc) om
   rw[List.drop_drop]at this;exact this
  have hstep:zp (BN bs x.k)*RZ+zp (BN ((bs.drop x.k).take (((bs.length-x.k)-1) % 48+1)) ((bs.drop x.k).take (((bs.length-x.k)-1) % 48+1)).length)=zp (BN bs (x.k+(((bs.length-x.k)-1) % 48+1))):=by
   rw[m9 bs x.k _ hcut.2.1,Jn];exact CS bs x.k _ (jJ id (Qd hn) x.hm)
  refine ap<|ah<|Xp<|Mv O<|bc O (λ_=>aF underlying22 _ _ _ _) O O<|Bnr (v:=I (((bs.length-x.k)-1:Nat):Int)) O O (λ_=>(aV _ _ _ oi).trans (by rw[show ((bs.length-x.k:Nat):Int)-1=((bs.length-x.k-1:Nat):Int) by omega]))<|cr (v:=I ((((bs.length-x.k)-1) % 48:Nat):Int)) O O (λ_=>rfl) (λ_=>cX _ _ _ dc) O O<|cr (v:=I (((((bs.length-x.k)-1) % 48+1):Nat):Int)) O O (λ_=>rfl) (λ_=>aq _ _ _ oi) O O<|Asg O<|aa<|Xp<|Mv O<|Mv O<|f9 (l:=0) (h':=(((bs.length-x.k)-1) % 48+1)) O underlying22 sizeOf5 O O ⟨Nat.zero_le _,Nat.le_trans hcut.2.1 x.hc⟩ O O<|kR O O ent28 (λw' hC hG=>nX _ (((bs.length-x.k)-1) % 48+1) _ ((bs.drop x.k).take (((bs.length-x.k)-1) % 48+1)) (m9 bs x.k _ hcut.2.1) hcut.2.2 w' hG ((x.hb.cut 0 (((bs.length-x.k)-1) % 48+1) (by rw[List.length_drop];exact x.hc)).grow (ab hC))) O O<|Mv O<|Ext O O<|Ext O O<|Al 5 hGF zv25<|λb5=>Sa 5 hGF O O O cf<|Asg O<|aa<|Xd []<|La 3 O O bM<|gV hGF isAgg25 sizeOf25 sm (λ_ h=>h.g5) O O<|ch O sm underlying52 O sizeOf25 zv52 O O<|Ca O (wX _)<|La 5 O O cf<|Ca O (wC ((bs.drop x.k).take (((bs.length-x.k)-1) % 48+1)) (by rw[m9 bs x.k _ hcut.2.1];exact hcut.2.2))<|Ca O (rB _ _)<|Sa 3 hGF O O O bM<|aa<|Xq<|Mv O<|Mv O<|f9 (l:=(((bs.length-x.k)-1) % 48+1)) (h':=(bs.length-x.k)) O underlying22 sizeOf5 O O ⟨hcut.2.1,x.hc⟩ O O<|Asg O<|aa<|?_
  repeat (refine aL ?_)
  exact aB<|⟨rfl,⟨x.k+(((bs.length-x.k)-1) % 48+1),_,x.c-(((bs.length-x.k)-1) % 48+1),by have:=x.hk;omega,by have:=x.hc;omega,hnext,.inr (by rw[Nat.sub_add_eq];exact hcut.1)⟩,_,by show bs.length-(x.k+(((bs.length-x.k)-1) % 48+1))<bs.length-x.k;omega,rfl,⟨congrArg (λn=>some (Value.slice _ n _)) (Nat.sub_sub bs.length x.k (((bs.length-x.k)-1) % 48+1)),rfl,rfl,trivial⟩,⟨rfl,by rw[<-hstep];rfl,trivial⟩⟩
 ·have hn:x.k=bs.length:=by simp at hc;have:=x.hk;omega
  clear hc;refine aU<|Xp<|La 3 O O bM<|Sa 2 hGF O O O bM<|aa<|ak<|Rr<|?_;exact au 2 O O O isAgg52 sizeOf52 sm (λw hw=>⟨by rw[hn];rfl,ab hw⟩)
end
end Go.Proofs.YtjookodjbjabbaaGreatDoor
