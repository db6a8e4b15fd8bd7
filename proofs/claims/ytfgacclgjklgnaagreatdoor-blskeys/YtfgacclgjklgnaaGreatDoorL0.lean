/- L0 -/
import Derived.Test.YtfgacclgjklgnaaGreatDoorXW
set_option maxRecDepth 100000
set_option maxHeartbeats 1000000
namespace Go.Proofs.YtfgacclgjklgnaaGreatDoor
open Go.Proofs.Tryz
open Go.RowKit
attribute [local simp] a5 be aE aB aP aY aM aJ aH
def EL:Array Value->Sem Value:=λargs=>do
 let (x,y,b)<-Extern.MathBitsCarry.three "Sub64" args
 pure (Extern.MathBitsCarry.pair ((x+Extern.MathBitsCarry.m64-y-b) % Extern.MathBitsCarry.m64) (if x<y+b then 1 else 0))
theorem fy(x y c:BitVec 64)(hc:c.toNat<=1)(w:World):(callFunc 83 [U64 x,U64 y,U64 c].toArray).run prog w=.ok (.value (.tuple #[U64 (ADC x y c).1,U64 (ADC x y c).2])) w:=by
 show (callFunc 83 #[U64 x,U64 y,U64 c]).run prog w=_;rw[run_callFunc_extern func83 kr kr kr (e:=add64Entry) kr];simp only[U64];rw[run_add64 _ _ _ om om om om];have h1:=x.isLt;have h2:=y.isLt;have e1:((x.toNat:Int)+(y.toNat:Int)+(c.toNat:Int)) % 18446744073709551616=((ADC x y c).1.toNat:Int):=by simp only[ADC,BitVec.toNat_ofNat];omega
 have e2:((x.toNat:Int)+(y.toNat:Int)+(c.toNat:Int)) / 18446744073709551616=((ADC x y c).2.toNat:Int):=by simp only[ADC,BitVec.toNat_ofNat];omega
 rw[e1,e2];rfl
theorem Ny(x y c:BitVec 64)(hc:c.toNat<=1)(w:World):(callFunc 132 [U64 x,U64 y,U64 c].toArray).run prog w=.ok (.value (.tuple #[U64 (SBB x y c).1,U64 (SBB x y c).2])) w:=by
 show (callFunc 132 #[U64 x,U64 y,U64 c]).run prog w=_;rw[run_callFunc_extern func132 kr kr kr (e:=EL) kr];have key: ∀b:Nat,b<=1->(EL #[.int .u64 (x.toNat:Int),.int .u64 (y.toNat:Int),.int .u64 (b:Int)]).run prog w=
  .ok (.tuple #[.int .u64 (((x.toNat+18446744073709551616-y.toNat-b) % 18446744073709551616:Nat):Int),.int .u64 ((if x.toNat<y.toNat+b then 1 else 0:Nat):Int)]) w:=λb hb=>by
  have:b=0\/b=1:=om;rcases this with rfl|rfl<;>rfl
 simp only[U64];rw[key _ hc];simp only[Result.andThen,SBB,BitVec.toNat_ofNat];congr 5;split<;>rfl
theorem ent38:ai prog 38:=λ_ _=>kr
theorem ent54:ai prog 54:=λ_ _=>kr
theorem ent133:ai prog 133:=λ_ _=>kr
theorem ent188:ai prog 188:=λ_ _=>kr
theorem zv25(w:World):(zeroValue 25).run prog w=.ok (aI (List.replicate 6 (0#64))) w:=(zeroValue25 w).trans rr
theorem zv37(w:World):(zeroValue 37).run prog w=.ok (aI (List.replicate 6 (0#64))) w:=(zeroValue37 w).trans rr
theorem zv142(w:World):(zeroValue 142).run prog w=.ok (aI (List.replicate 12 (0#64))) w:=(zeroValue142 w).trans rr
theorem zv29(w:World):(zeroValue 29).run prog w=.ok (.agg ((List.replicate 48 (0#8)).map U8).toArray) w:=(zeroValue29 w).trans rr
theorem mO(a b:L6)(ha:a.length=6)(hb:b.length=6):PUR 77 [aI (a),aI (b)] (.tuple #[aI ((AS a b 6).1),U64 (AS a b 6).2]):=by
 intro w hw;refine Hf func77 O hw<|λhGF=>Xp<|Bx 2 hGF O<|λb2=>Bx 3 hGF O<|λb3=>Al 4 hGF zv25<|λb4=>Asg O<|aa<|Xp<|Al 6 hGF zv25<|λb6=>aa<|Xp<|Asg O<|aa<|ah<|Xp<|Mv O<|aa<|am<|cb (ι:={i:Nat // i<=6}) (λx=>[(2,pnt b2),(3,pnt b3),(4,pnt b4),(6,pnt b6),(7,U64 (AS a b x.1).2),(9,I (x.1:Int))]) (λx=>[(2,b2,a.map U64,25),(3,b3,b.map U64,25),(4,b4,(List.replicate 6 0#64).map U64,25),(6,b6,(AS a b x.1).1.map U64,25)]) (λx=>6-x.1) ⟨0,om⟩ hGF trv trv<|?_;rintro ⟨i,hi⟩;dsimp only;refine Xp<|Bnr O O (λ_=>aC _ _ _)<|aa<|ah<|?_;refine bE O (λhc=> ?_) (λhc=> ?_)
 ·simp only[decide_eq_true_eq]at hc
  refine aq<|ah<|am<|Xp<|Mv O<|Asg O<|aa<|Xe []<|Mv O<|Mv O<|Ia (i) O O underlying25 sizeOf24<|Lm 2 U64 0 O O isAgg24 (by rw[ha];omega)<|Mv O<|Ia (i) O O underlying25 sizeOf24<|Lm 3 U64 0 O O isAgg24 (by rw[hb];omega)<|Mv O<|bS O O (λw=>fy _ _ _ (EM a b i) w) O O<|Mv O<|Ext O O<|Ext O O<|Ia (i) O O underlying25 sizeOf24<|bc 6 U64 hGF O O O sizeOf24 O (by rw[aE];omega) O<|Asg O<|aa<|Xq<|Bnr O O (λ_=>az _ _ _ oi)<|Mv O<|aa<|?_
  repeat (refine aW ?_)
  exact aQ<|⟨rfl,⟨i+1,om⟩,_,by show 6-(i+1)<6-i;omega,rfl,trv,trv⟩
 ·obtain rfl:i=6:=by simp at hc;omega
  refine a6<|Xp<|Lw 6 O O bT (aE _ _ _)<|Mv O<|Sw 4 hGF O O O bT (aE _ _ _)<|Asg O<|aa<|ak<|Rr<|?_;exact aG 4 O O O O isAgg25 sizeOf25 (by rw[List.length_map,aE]) (λw hw=>⟨rfl,ac hw⟩)
theorem jw(a b:L6)(ha:a.length=6)(hb:b.length=6):PUR 78 [aI (a),aI (b)] (.tuple #[aI ((SS a b 6).1),U64 (SS a b 6).2]):=by
 intro w hw;refine Hf func78 O hw<|λhGF=>Xp<|Bx 2 hGF O<|λb2=>Bx 3 hGF O<|λb3=>Al 4 hGF zv25<|λb4=>Asg O<|aa<|Xp<|Al 6 hGF zv25<|λb6=>aa<|Xp<|Asg O<|aa<|ah<|Xp<|Mv O<|aa<|am<|cb (ι:={i:Nat // i<=6}) (λx=>[(2,pnt b2),(3,pnt b3),(4,pnt b4),(6,pnt b6),(7,U64 (SS a b x.1).2),(9,I (x.1:Int))]) (λx=>[(2,b2,a.map U64,25),(3,b3,b.map U64,25),(4,b4,(List.replicate 6 0#64).map U64,25),(6,b6,(SS a b x.1).1.map U64,25)]) (λx=>6-x.1) ⟨0,om⟩ hGF trv trv<|?_;rintro ⟨i,hi⟩;dsimp only;refine Xp<|Bnr O O (λ_=>aC _ _ _)<|aa<|ah<|?_;refine bE O (λhc=> ?_) (λhc=> ?_)
 ·simp only[decide_eq_true_eq]at hc
  refine aq<|ah<|am<|Xp<|Mv O<|Asg O<|aa<|Xe []<|Mv O<|Mv O<|Ia (i) O O underlying25 sizeOf24<|Lm 2 U64 0 O O isAgg24 (by rw[ha];omega)<|Mv O<|Ia (i) O O underlying25 sizeOf24<|Lm 3 U64 0 O O isAgg24 (by rw[hb];omega)<|Mv O<|bS O O (λw=>Ny _ _ _ (qA a b i) w) O O<|Mv O<|Ext O O<|Ext O O<|Ia (i) O O underlying25 sizeOf24<|bc 6 U64 hGF O O O sizeOf24 O (by rw[aB];omega) O<|Asg O<|aa<|Xq<|Bnr O O (λ_=>az _ _ _ oi)<|Mv O<|aa<|?_
  repeat (refine aW ?_)
  exact aQ<|⟨rfl,⟨i+1,om⟩,_,by show 6-(i+1)<6-i;omega,rfl,trv,trv⟩
 ·obtain rfl:i=6:=by simp at hc;omega
  refine a6<|Xp<|Lw 6 O O bT (aB _ _ _)<|Mv O<|Sw 4 hGF O O O bT (aB _ _ _)<|Asg O<|aa<|ak<|Rr<|?_;exact aG 4 O O O O isAgg25 sizeOf25 (by rw[List.length_map,aB]) (λw hw=>⟨rfl,ac hw⟩)
theorem jo(a b:L6)(ha:a.length=6)(hb:b.length=6):PUR 129 [aI (a),aI (b)] (.tuple #[aI ((AS a b 6).1),U64 (AS a b 6).2]):=by
 intro w hw;refine Hf func129 O hw<|λhGF=>Xp<|Bx 2 hGF O<|λb2=>Bx 3 hGF O<|λb3=>Al 4 hGF zv37<|λb4=>Asg O<|aa<|Xp<|Al 6 hGF zv37<|λb6=>aa<|Xp<|Asg O<|aa<|ah<|Xp<|Asg O<|aa<|am<|cb (ι:={i:Nat // i<=6}) (λx=>[(2,pnt b2),(3,pnt b3),(4,pnt b4),(6,pnt b6),(7,U64 (AS a b x.1).2),(8,I (x.1:Int))]) (λx=>[(2,b2,a.map U64,37),(3,b3,b.map U64,37),(4,b4,(List.replicate 6 0#64).map U64,37),(6,b6,(AS a b x.1).1.map U64,37)]) (λx=>6-x.1) ⟨0,om⟩ hGF trv trv<|?_;rintro ⟨i,hi⟩;dsimp only;refine ah<|Xp<|Mv O<|Bnr O O (λ_=>aC _ _ _)<|aa<|?_;refine bE O (λhc=> ?_) (λhc=> ?_)
 ·simp only[decide_eq_true_eq]at hc
  refine aq<|ah<|am<|Xe []<|Mv O<|Mv O<|Ia (i) O O underlying37 sizeOf24<|Lm 2 U64 0 O O isAgg24 (by rw[ha];omega)<|Mv O<|Ia (i) O O underlying37 sizeOf24<|Lm 3 U64 0 O O isAgg24 (by rw[hb];omega)<|Mv O<|bS O O (λw=>fy _ _ _ (EM a b i) w) O O<|Mv O<|Ext O O<|Ext O O<|Ia (i) O O underlying37 sizeOf24<|bc 6 U64 hGF O O O sizeOf24 O (by rw[aE];omega) O<|Asg O<|aa<|Xq<|Mv O<|Bnr O O (λ_=>az _ _ _ oi)<|Asg O<|aa<|?_
  repeat (refine aW ?_)
  exact aQ<|⟨rfl,⟨i+1,om⟩,_,by show 6-(i+1)<6-i;omega,rfl,trv,trv⟩
 ·obtain rfl:i=6:=by simp at hc;omega
  refine a6<|Xp<|Lw 6 O O cg (aE _ _ _)<|Mv O<|Sw 4 hGF O O O cg (aE _ _ _)<|Asg O<|aa<|ak<|Rr<|?_;exact aG 4 O O O O isAgg37 sizeOf37 (by rw[List.length_map,aE]) (λw hw=>⟨rfl,ac hw⟩)
theorem fD(a b:L6)(ha:a.length=6)(hb:b.length=6):PUR 120 [aI (a),aI (b)] (.tuple #[aI ((SS a b 6).1),U64 (SS a b 6).2]):=by
 intro w hw;refine Hf func120 O hw<|λhGF=>Xp<|Bx 2 hGF O<|λb2=>Bx 3 hGF O<|λb3=>Al 4 hGF zv37<|λb4=>Asg O<|aa<|Xp<|Al 6 hGF zv37<|λb6=>aa<|Xp<|Asg O<|aa<|ah<|Xp<|Asg O<|aa<|am<|cb (ι:={i:Nat // i<=6}) (λx=>[(2,pnt b2),(3,pnt b3),(4,pnt b4),(6,pnt b6),(7,U64 (SS a b x.1).2),(8,I (x.1:Int))]) (λx=>[(2,b2,a.map U64,37),(3,b3,b.map U64,37),(4,b4,(List.replicate 6 0#64).map U64,37),(6,b6,(SS a b x.1).1.map U64,37)]) (λx=>6-x.1) ⟨0,om⟩ hGF trv trv<|?_;rintro ⟨i,hi⟩;dsimp only;refine ah<|Xp<|Mv O<|Bnr O O (λ_=>aC _ _ _)<|aa<|?_;refine bE O (λhc=> ?_) (λhc=> ?_)
 ·simp only[decide_eq_true_eq]at hc
  refine aq<|ah<|am<|Xe []<|Mv O<|Mv O<|Ia (i) O O underlying37 sizeOf24<|Lm 2 U64 0 O O isAgg24 (by rw[ha];omega)<|Mv O<|Ia (i) O O underlying37 sizeOf24<|Lm 3 U64 0 O O isAgg24 (by rw[hb];omega)<|Mv O<|bS O O (λw=>Ny _ _ _ (qA a b i) w) O O<|Mv O<|Ext O O<|Ext O O<|Ia (i) O O underlying37 sizeOf24<|bc 6 U64 hGF O O O sizeOf24 O (by rw[aB];omega) O<|Asg O<|aa<|Xq<|Mv O<|Bnr O O (λ_=>az _ _ _ oi)<|Asg O<|aa<|?_
  repeat (refine aW ?_)
  exact aQ<|⟨rfl,⟨i+1,om⟩,_,by show 6-(i+1)<6-i;omega,rfl,trv,trv⟩
 ·obtain rfl:i=6:=by simp at hc;omega
  refine a6<|Xp<|Lw 6 O O cg (aB _ _ _)<|Mv O<|Sw 4 hGF O O O cg (aB _ _ _)<|Asg O<|aa<|ak<|Rr<|?_;exact aG 4 O O O O isAgg37 sizeOf37 (by rw[List.length_map,aB]) (λw hw=>⟨rfl,ac hw⟩)
theorem ly(a b:L6)(ha:a.length=6)(hb:b.length=6):PUR 79 [aI (a),aI (b)] (.bool (LT a b 6)):=by
 intro w hw;refine Hf func79 O hw<|λhGF=>Xp<|Bx 2 hGF O<|λb2=>Bx 3 hGF O<|λb3=>Asg O<|aa<|jY<|ah<|lC<|ah<|Xp<|Asg O<|aa<|am<|cb (ι:={i:Nat // i<=6/\LT a b 6=LT a b i}) (λx=>[(2,pnt b2),(3,pnt b3),(4,.bool false),(5,I ((x.1:Int)-1))]) (λx=>[(2,b2,a.map U64,25),(3,b3,b.map U64,25)]) (λx=>x.1) ⟨6,om,rfl⟩ hGF trv trv<|?_;rintro ⟨i,hi,hlt⟩;dsimp only;refine ah<|Xp<|Mv O<|Bnr O O (λ_=>d8 _ _ _)<|aa<|?_;refine bE O (λhc=> ?_) (λhc=> ?_)
 ·simp only[decide_eq_true_eq]at hc
  obtain ⟨k,rfl⟩: ∃k,i=k+1:=⟨i-1,om⟩;refine aq<|ah<|am<|am<|Xd []<|Mv O<|Ia (k) O O underlying25 sizeOf24<|Lm 2 U64 0 O O isAgg24 (by rw[ha];omega)<|Mv O<|Ia (k) O O underlying25 sizeOf24<|Lm 3 U64 0 O O isAgg24 (by rw[hb];omega)<|Bnr O O (λ_=>oz _ _ _)<|Asg O<|aa<|?_
  refine bE O (λhc=> ?_) (λhc=> ?_)
  ·simp only[decide_eq_true_eq]at hc
   have hfin:LT a b 6=true:=by rw[hlt,LT,if_pos hc]
   refine Xp<|Asg O<|aa<|ak<|?_
   repeat (first|refine bx ?_|refine bv ?_|refine fc ?_)
   exact aO O O (λw hw=>⟨by rw[hfin];rfl,ac hw⟩)
  ·simp only[decide_eq_false_iff_not]at hc
   have hc1:=hc;refine Xd []<|Mv O<|Ia (k) O O underlying25 sizeOf24<|Lm 2 U64 0 O O isAgg24 (by rw[ha];omega)<|Mv O<|Ia (k) O O underlying25 sizeOf24<|Lm 3 U64 0 O O isAgg24 (by rw[hb];omega)<|Bnr O O (λ_=>iP _ _ _)<|Asg O<|aa<|?_
   refine bE O (λhc=> ?_) (λhc=> ?_)
   ·simp only[decide_eq_true_eq]at hc
    have hfin:LT a b 6=false:=by rw[hlt,LT,if_neg hc1,if_pos hc]
    refine a6<|Xp<|Asg O<|aa<|ak<|?_
    repeat (first|refine bx ?_|refine bv ?_|refine fc ?_)
    exact aO O O (λw hw=>⟨by rw[hfin];rfl,ac hw⟩)
   ·simp only[decide_eq_false_iff_not]at hc
    refine aq<|Xq<|Mv O<|Bnr (v:=I ((k:Int)-1)) O O (λ_=>(bf _ _ _ oi).trans (by rw[show (((k+1:Nat):Int)-1)-1=(k:Int)-1 by omega]))<|Asg O<|aa<|?_
    repeat (refine aW ?_)
    exact aQ<|⟨rfl,⟨k,om,by rw[hlt,LT,if_neg hc1,if_neg hc]⟩,_,by show k<k+1;omega,rfl,trv,trv⟩
 ·simp only[decide_eq_false_iff_not]at hc
  obtain rfl:i=0:=om;have hfin:LT a b 6=false:=hlt;refine a6<|Xp<|Asg O<|aa<|ak<|?_
  repeat (first|refine bx ?_|refine bv ?_|refine fc ?_)
  exact aO O O (λw hw=>⟨by rw[hfin];rfl,ac hw⟩)
theorem cO(x y:BitVec 64):PUR 134 [U64 x,U64 y] (.tuple #[U64 (MH x y),U64 (MLo x y)]):=by
 intro w hw;refine Hf func134 O hw<|λhGF=>Xp<|Asg O<|Asg O<|aa<|Xp<|Mv O<|Bnr O O (λ_=>fI _ _ _)<|Asg O<|aa<|Xp<|Mv O<|Bnr O O (λ_=>cU _ _ _)<|Asg O<|aa<|Xp<|Mv O<|Bnr O O (λ_=>fI _ _ _)<|Asg O<|aa<|Xp<|Mv O<|Bnr O O (λ_=>cU _ _ _)<|Asg O<|aa<|Xp<|Mv O<|Mv O<|Bnr O O (λ_=>cK _ _ _)<|Asg O<|aa<|Xp<|Mv O<|Mv O<|Bnr O O (λ_=>cK _ _ _)<|Mv O<|Bnr O O (λ_=>cU _ _ _)<|Bnr O O (λ_=>a8 _ _ _)<|Asg O<|aa<|?_;refine Xp<|Mv O<|Bnr O O (λ_=>fI _ _ _)<|Asg O<|aa<|Xp<|Mv O<|Bnr O O (λ_=>cU _ _ _)<|Asg O<|aa<|Xp<|Mv O<|Mv O<|Mv O<|Bnr O O (λ_=>cK _ _ _)<|Bnr O O (λ_=>a8 _ _ _)<|Asg O<|aa<|Xp<|Mv O<|Mv O<|Bnr O O (λ_=>cK _ _ _)<|Mv O<|Bnr O O (λ_=>a8 _ _ _)<|Mv O<|Bnr O O (λ_=>cU _ _ _)<|Bnr O O (λ_=>a8 _ _ _)<|Asg O<|aa<|Xp<|Mv O<|Mv O<|Bnr O O (λ_=>cK _ _ _)<|Asg O<|aa<|ak<|Rr<|?_;exact db O O O (λw hw=>⟨by rw[<-Ue,<-P5];rfl,ac hw⟩)
theorem fw(x y c d:BitVec 64):PUR 82 [U64 x,U64 y,U64 c,U64 d] (.tuple #[U64 (MA x y c d).1,U64 (MA x y c d).2]):=by
 intro w hw;refine Hf func82 O hw<|λhGF=>Xp<|Asg O<|Asg O<|aa<|Xp<|Mv O<|Mv O<|Ca O (cO _ _)<|Mv O<|Ext O O<|Ext O O<|Asg O<|Asg O<|aa<|Xp<|Mv O<|Mv O<|bS O O (λw=>fy _ _ _ dc w) O O<|Mv O<|Ext O O<|Ext O O<|Asg O<|Asg O<|aa<|Xp<|Mv O<|Mv O<|Bnr O O (λ_=>a8 _ _ _)<|Asg O<|aa<|Xp<|Mv O<|Mv O<|bS O O (λw=>fy _ _ _ dc w) O O<|Mv O<|Ext O O<|Ext O O<|Asg O<|Asg O<|?_;refine aa<|Xp<|Mv O<|Mv O<|Mv O<|Bnr O O (λ_=>a8 _ _ _)<|Asg O<|Asg O<|aa<|ak<|Rr<|?_;exact db O O O (λw hw=>⟨rfl,ac hw⟩)
theorem eqg(op:BinOp)(x y:Operand)(xs ys:Array Value)(w:World):(eqGuard op 25 x y (.agg xs) (.agg ys)).run prog w=.ok () w:=run_eqGuard_agg w op 25 x y xs ys kr
theorem Yv(op:BinOp)(x y:Operand)(xs ys:Array Value)(w:World):(eqGuard op 37 x y (.agg xs) (.agg ys)).run prog w=.ok () w:=run_eqGuard_agg w op 37 x y xs ys kr
theorem eq23(xs ys:L6)(h:xs.length=6)(h':ys.length=6)(w:World):(binOp .eql 25 (aI xs) (aI ys)).run prog w=.ok (.bool (decide (xs=ys))) w:=pN underlying25 underlying24 sizeOf24 isAgg24 xs ys h h' w
theorem eq27(xs ys:L6)(h:xs.length=6)(h':ys.length=6)(w:World):(binOp .eql 37 (aI xs) (aI ys)).run prog w=.ok (.bool (decide (xs=ys))) w:=pN underlying37 underlying24 sizeOf24 isAgg24 xs ys h h' w
theorem bR{n:Nat}{b1:Nat}{c1:List Value}{t1:TypeId}: ∀i j b c t c' t',lkB [(n,b1,c1,t1)] i=some (b,c,t)->lkB [(n,b1,c1,t1)] j=some (b,c',t')->i=j:=by
 intro i j b c t c' t' h1 h2;rcases aK h1 with ⟨e1,x1⟩|⟨_,h1⟩
 ·rcases aK h2 with ⟨e2,x2⟩|⟨_,h2⟩
  ·exact e1.trans e2.symm
  ·cases h2
 ·cases h1
theorem bG{J:(Nat->Prop)->World->Prop}(hr:Rides J){Y:Nat->Prop}{w:World}(h:J Y w):J (λ_=>False) w:=hr.less _ _ _ (λ_ h=>h.elim) h
theorem rp(a:L6)(top:BitVec 64)(m:L6)(ha:a.length=6)(hm:m.length=6):PUR 84 [aI (a),U64 top,aI (m)] (aI (RED a top m)):=by
 intro w hw;refine Hf func84 O hw ?_;intro hGF;by_cases h1:top=0
 ·by_cases h2:(SS a m 6).2=1
  ·refine Xp<|Bx 3 hGF O<|λb3=>Bx 5 hGF O<|λb5=>Al 6 hGF zv25<|λb6=>aa<|Xp<|Lw 3 O O bT ha<|Lw 5 O O bT hm<|Ca O (jw a m ha hm)<|Mv O<|Ext O O<|Ext O O<|Al 7 hGF zv25<|λb7=>Sw 7 hGF O O O bT (aB _ _ _)<|Asg O<|aa<|ah<|Xp<|Mv O<|Bnr (v:=.bool true) O O (λw=>(bu _ _ _).trans (congrArg (λb=>Result.ok (Value.bool b) w) (beq_iff_eq.2 h1)))<|Mv O<|Mv O<|Bnr (v:=.bool true) O O (λw=>(bu _ _ _).trans (congrArg (λb=>Result.ok (Value.bool b) w) (beq_iff_eq.2 h2)))<|Pk O O O<|aa<|aL O<|Xp<|Lw 3 O O bT ha<|Sw 6 hGF O O O bT ha<|aa<|ak<|Rr<|?_
   exact au 6 O O O isAgg25 sizeOf25 (by rw[List.length_map,ha]) (λw hw=>⟨by rw[RED,if_pos (⟨h1,h2⟩)],ac hw⟩)
  ·refine Xp<|Bx 3 hGF O<|λb3=>Bx 5 hGF O<|λb5=>Al 6 hGF zv25<|λb6=>aa<|Xp<|Lw 3 O O bT ha<|Lw 5 O O bT hm<|Ca O (jw a m ha hm)<|Mv O<|Ext O O<|Ext O O<|Al 7 hGF zv25<|λb7=>Sw 7 hGF O O O bT (aB _ _ _)<|Asg O<|aa<|ah<|Xp<|Mv O<|Bnr (v:=.bool true) O O (λw=>(bu _ _ _).trans (congrArg (λb=>Result.ok (Value.bool b) w) (beq_iff_eq.2 h1)))<|Mv O<|Mv O<|Bnr (v:=.bool false) O O (λw=>(bu _ _ _).trans (congrArg (λb=>Result.ok (Value.bool b) w) (beq_eq_false_iff_ne.2 h2)))<|Pk O O O<|aa<|aw O<|aq<|Xp<|Lw 7 O O bT (aB _ _ _)<|Sw 6 hGF O O O bT (aB _ _ _)<|aa<|ak<|Rr<|?_
   exact au 6 O O O isAgg25 sizeOf25 (by rw[List.length_map,aB]) (λw hw=>⟨by rw[RED,if_neg (λh=>h2 h.2)],ac hw⟩)
 ·refine Xp<|Bx 3 hGF O<|λb3=>Bx 5 hGF O<|λb5=>Al 6 hGF zv25<|λb6=>aa<|Xp<|Lw 3 O O bT ha<|Lw 5 O O bT hm<|Ca O (jw a m ha hm)<|Mv O<|Ext O O<|Ext O O<|Al 7 hGF zv25<|λb7=>Sw 7 hGF O O O bT (aB _ _ _)<|Asg O<|aa<|ah<|Xp<|Mv O<|Bnr (v:=.bool false) O O (λw=>(bu _ _ _).trans (congrArg (λb=>Result.ok (Value.bool b) w) (beq_eq_false_iff_ne.2 h1)))<|Mv O<|Sk<|Sk<|Pk O O O<|aa<|aw O<|aq<|Xp<|Lw 7 O O bT (aB _ _ _)<|Sw 6 hGF O O O bT (aB _ _ _)<|aa<|ak<|Rr<|?_
  exact au 6 O O O isAgg25 sizeOf25 (by rw[List.length_map,aB]) (λw hw=>⟨by rw[RED,if_neg (λh=>h1 h.1)],ac hw⟩)
def uK(bb b:Nat)(a:L6)(n:Nat):Cls:=λW=>W.cell? ⟨bb,0,none⟩=some (.slice (spt b) n n)/\W.rangeAt b 0 (a.map U64)
def DG(a:L6)(n:Nat):List (List Value):=(List.range (64*n)).map λj=>[I ((64*n-1-j:Nat):Int),U64 (dig a (64*n-1-j))]
theorem eZ(a:L6)(n:Nat):(DG a n).length=64*n:=by simp[DG]
theorem QQ(a:L6)(n q s:Nat)(hq:q<n)(hs:s<64):(DG a n)[64*(n-(q+1))+(64-(s+1))]? =some [I ((64*q+s:Nat):Int),U64 (dig a (64*q+s))]:=by
 have h:64*(n-(q+1))+(64-(s+1))<64*n:=om;rw[DG,List.getElem?_map,List.getElem?_range h];simp only[Option.map_some];rw[show 64*n-1-(64*(n-(q+1))+(64-(s+1)))=64*q+s by omega]
theorem NM(a:L6)(n k:Nat)(x:List Value)(h:(DG a n)[k]? =some x):k<64*n/\x=[I ((64*n-1-k:Nat):Int),U64 (dig a (64*n-1-k))]:=by
 have hk:k<64*n:=by
  rcases Nat.lt_or_ge k (64*n)with h'|h'
  ·exact h'
  ·rw[List.getElem?_eq_none (by rw[eZ];exact h')]at h;cases h
 rw[DG,List.getElem?_map,List.getElem?_range hk]at h;exact ⟨hk,(Option.some.inj h).symm⟩
theorem mC(sv:Value)(hs:sv.cells= #[sv])(w:World)(hw:Gt w):CLS 133 [sv].toArray w (λe w'=> ∃b1,e=.returned (.func (.func 188) #[] #[pnt b1])/\Grow w w'/\w.heap.size<=b1/\OwnB w' b1 [sv] 67):=by
 refine Hf func133 O hw<|λhGF=>Xp<|iz 1 hGF O O O<|λb1=>Asg O<|aa<|Xp<|fP O O O O<|Asg O<|aa<|ak<|Rr<|?_;exact aO O O (λw hw=>⟨b1,rfl,ac hw,(hw.own 1 b1 _ _ O).2.elim id False.elim,(by have:=(hw.own 1 b1 _ _ O).1;rw[hs]at this;exact this)⟩)
theorem qU(bb b:Nat)(a:L6)(n:Nat)(hn:n<=100)(ha:a.length=n):eS prog Gt 188 [pnt bb] (DG a n) (uK bb b a n):=by
 intro l J Jx hJ hJx hRd hGx hY w hj;have okJ: ∀k,BOk Gt (Bi w (λY=>J Y k)):=λk=>⟨λ_ _ _ h=>(hRd _ _ _ h.rid).1,hJ k⟩;have okX: ∀k,BOk Gt (Bi w (λY=>Jx Y k)):=λk=>⟨λ_ _ _ h=>hGx _ _ _ h.rid,hJx k⟩;have c1: ∀k L w',Hp (Bi w (λY=>J Y k)) L w'->uK bb b a n w':=λk L w' h=>(hRd _ _ _ h.rid).2;refine ch (G:=Gt) func188 O O (Hp (Bi w (λY=>J Y 0)) []) (bZ (Bi w _) hj (hJ 0)) (ay (okJ 0))<|jY<|ah<|lC<|Xp<|bp O isAgg67 (λw h=>(c1 _ _ w h).1) O O<|bD O (λ_=>aV underlying67 _ _ _ _) O O<|Bnr O O (λ_=>bf _ _ _ oi)<|Asg O<|aa<|am<|fV (ι:={i:Nat // i<=n}) (λx=>[(0,.func (.yield l) #[] #[]),(1,pnt bb),(3,I ((x.1:Int)-1))]) (λx=>Bi w (λY=>J Y (64*(n-x.1)))) (λx=>[]) (λx=>x.1) ⟨n,Nat.le_refl _⟩ (λ_=>okJ _) (by rw[Nat.sub_self]) trv trivial<|?_
 rintro ⟨i,hi⟩;dsimp only;refine ah<|Xp<|Mv O<|Bnr O O (λ_=>d8 _ _ _)<|aa<|?_;refine bE O (λhc=> ?_) (λhc=> ?_)
 ·simp only[decide_eq_true_eq]at hc
  obtain ⟨q,rfl⟩: ∃q,i=q+1:=⟨i-1,om⟩;clear hc;rw[show ((q+1:Nat):Int)-1=(q:Int) by omega]
  refine aq<|ah<|am<|Xp<|Asg O<|aa<|am<|fV (ι:={r:Nat // r<=64}) (λx=>[(0,.func (.yield l) #[] #[]),(1,pnt bb),(3,I (q:Int)),(4,I ((x.1:Int)-1))]) (λx=>Bi w (λY=>J Y (64*(n-(q+1))+(64-x.1)))) (λx=>[]) (λx=>x.1) ⟨64,Nat.le_refl _⟩ (λ_=>okJ _) O trv trivial<|?_;rintro ⟨r,hr⟩;dsimp only;refine ah<|Xp<|Mv O<|Bnr O O (λ_=>d8 _ _ _)<|aa<|?_;refine bE O (λhc=> ?_) (λhc=> ?_)
  ·simp only[decide_eq_true_eq]at hc
   obtain ⟨s,rfl⟩: ∃s,r=s+1:=⟨r-1,om⟩;clear hc;rw[show ((s+1:Nat):Int)-1=(s:Int) by omega]
   refine aq<|ah<|am<|Xp<|Mv O<|Mv O<|Bnr (v:=I ((64*q:Nat):Int)) O O (λ_=>(bJ _ _ _ oi).trans (by rw[show (64:Int)*(q:Int)=((64*q:Nat):Int) by omega]))<|Mv O<|Bnr (v:=I ((64*q+s:Nat):Int)) O O (λ_=>(az _ _ _ oi).trans (by rw[show ((64*q:Nat):Int)+(s:Int)=((64*q+s:Nat):Int) by omega]))<|bp O isAgg67 (λw h=>(c1 _ _ w h).1) O O<|Mv O<|PU q O O underlying67 sizeOf24 om om O O<|bp O isAgg24 (λw h=>(c1 _ _ w h).2 q _ (gm U64 a 0 q om)) O O<|Mv O<|Bnr O O (λ_=>dZ _ _ _ om)<|Bnr (v:=U64 (dig a (64*q+s))) O O (λ_=>(fI _ _ _).trans (by rw[<-Tr a q s om];rfl))<|?_
   refine c9 (hY.b (k:=64*(n-(q+1))+(64-(s+1))) (QQ a n q s om om) w) (okJ _) (okX _) O O O O O ?_ ?_
   ·refine aU O (λ_=>aF _) O O<|aa<|aw O<|aq<|Xq<|Mv O<|Bnr O O (λ_=>bf _ _ _ oi)<|Asg O<|aa<|?_
    rw[show 64*(n-(q+1))+(64-(s+1))+1=64*(n-(q+1))+(64-s) by omega]
    repeat (refine aW ?_)
    exact aQ<|⟨rfl,⟨s,om⟩,_,by show s<s+1;omega,rfl,trv,trivial⟩
   ·refine aU O (λ_=>aF _) O O<|aa<|aL O<|a6<|?_
    repeat (first|refine df ?_|refine ce ?_|refine dd O ?_)
    exact Hx<|cy O (λw hw=>⟨⟨_,rfl⟩,.inr ⟨_,bG (hJx _) hw.rid⟩⟩)
  ·simp only[decide_eq_false_iff_not]at hc
   obtain rfl:r=0:=om;clear hc;rw[show 64*(n-(q+1))+(64-0)=64*(n-q) by omega]
   refine a6<|Xq<|Mv O<|Bnr O O (λ_=>bf _ _ _ oi)<|Asg O<|aa<|?_
   repeat (refine aW ?_)
   exact aQ<|⟨rfl,⟨q,om⟩,_,by show q<q+1;omega,rfl,trv,trivial⟩
 ·simp only[decide_eq_false_iff_not]at hc
  obtain rfl:i=0:=om;refine a6 ?_
  repeat (first|refine df ?_|refine ce ?_|refine dd O ?_)
  refine Hx ?_;refine cy O (λw hw=>⟨⟨_,rfl⟩,.inl ?_⟩);have:=bG (hJ _) hw.rid;rw[eZ];exact this
theorem GH(t m:L6)(ht:t.length=12)(hm:m.length=6):PUR 80 [aI (t),aI (m)] (aI (MOD t m)):=by
 intro w hw;have hGF:BOk Gt (pl w):=gt_low.plain hw;refine ck (G:=Gt) func80 O O (Hp (pl w) []) (bZ (pl w) trivial ap) (ay hGF)<|ae (E:=EE [133])<|Bx 2 hGF O<|λb2=>Bx 3 hGF O<|λb3=>Al 4 hGF zv25<|λb4=>aa<|ae (E:=EE [133])<|Al 5 hGF zv25<|λb5=>aa<|ah<|ae (E:=EE [133])<|Lw 3 O O bT hm<|Lw 5 O O bT List.length_replicate<|de O O (λw=>eqg _ _ _ _ _ w) (λw=>eq23 m (List.replicate 6 0) hm O w) O O<|aa<|?_;refine bE O (λhc=> ?_) (λhc=> ?_)
 ·simp only[decide_eq_true_eq]at hc
  refine ae (E:=EE [133])<|Lw 5 O O bT List.length_replicate<|aA 4 hGF O O O sizeOf25 sm (by rw[List.length_map,List.length_replicate]) (bi _) O<|aa<|ak<|Rr<|?_
  exact JU (.inl O) (au 4 O O O isAgg25 sizeOf25 (by rw[List.length_map,List.length_replicate]) (λw hw=>⟨by rw[MOD,if_pos hc];rfl,ac hw⟩))
 ·simp only[decide_eq_false_iff_not]at hc
  refine aq<|ah<|ae (E:=EE [133])<|bB (l:=0) (h':=12) O underlying142 sizeOf24 O O om om O O<|?_;refine dp O O ent133 O O (λw' hw'=>(mC _ O w' (hGF.g _ _ _ hw')).mono λe w'' h=> ?_);obtain ⟨c1,rfl,hg,h1,ho⟩:=h;refine ⟨_,_,rfl,ay hGF,hw'.news ap hg [(33,c1,[.slice (spt b2) 12 12],67)] ?_ bR, ?_⟩
  ·intro n' b' c' t' hl
   rcases aK hl with ⟨_,e⟩|⟨_,hl⟩
   ·cases e;exact ⟨h1,ho⟩
   ·cases hl
  clear hw' hg h1 ho;refine aa<|am<|?_;refine ep (λ_=>pl w) (λ_ _=>pl w) (λ_=>hGF) (λ_ _=>hGF) (λ_=>rfl) (λ_ _=>rfl) O O ent188 (qU c1 b2 t 12 dc ht) (λx hx=>by obtain ⟨k,hk,rfl⟩:=List.mem_map.1 hx;rfl) O (λk=>[(2,b2,t.map U64,142),(3,b3,m.map U64,25),(4,b4,(List.replicate 6 0#64).map U64,25),(5,b5,(MDs t m k).map U64,25),(33,c1,[.slice (spt b2) 12 12],67)]) (λ_ _ _=>False) trv (λk _ w' h=>⟨cp (n:=33) O O w' h,aX (n:=2) O w' h⟩) ?_ ?_ (λ_ _ _ _ _ h=>h.elim)
  ·intro k x hx R hR
   obtain ⟨hk,rfl⟩:=NM t 12 k x hx;rw[show 64*12-1-k=767-k from O];refine bQ (E:=EE [133])<|Asg O<|aa<|?_;refine ⟨rfl,_,rfl, ?_⟩;exact am<|ae (E:=EE [133])<|Lw 5 O O bT (gY _ _ _)<|Lw 5 O O bT (gY _ _ _)<|Ca O (mO _ _ (gY t m _) (gY t m _))<|Mv O<|Ext O O<|Ext O O<|dJ 8 (hR (pl w) O hGF).2.1 zv25 O O<|λb8=>aA 8 (hR (pl w) O hGF).2.1 O O O sizeOf25 (by rw[List.length_map,aE]) (by rw[List.length_map,List.length_replicate]) (bi _) O<|Asg O<|aa<|ae (E:=EE [133])<|Ia (0) O O underlying25 sizeOf24<|Lm 8 U64 0 O O isAgg24 (by rw[aE];omega)<|Mv O<|Bnr O O (λ_=>gi _ _ _)<|Ia (0) O O underlying25 sizeOf24<|bc 8 U64 (hR (pl w) O hGF).2.1 O O O sizeOf24 O (by rw[aE];omega) O<|aa<|bQ (E:=EE [133])<|bO 8 O O isAgg25 sizeOf25 (by rw[List.length_map,List.length_set,aE]) O O<|Mv O<|Lw 3 O O bT hm<|Ca O (rp _ _ _ (xo _ _) hm)<|aA 5 (hR (pl w) O hGF).2.1 O O O sizeOf25 (by rw[List.length_map];exact ki _ _ _ (xo _ _)) (by rw[List.length_map,gY]) (bi _) O<|aa<|⟨_,rfl,trv⟩
  ·intro D hD
   rw[eZ];refine ae (E:=EE [133])<|Lw 5 O O bT (gY _ _ _)<|Sw 4 hD O O O bT (gY _ _ _)<|aa<|ak<|Rr<|?_;exact dr (.inl O) ap (au 4 O O O isAgg25 sizeOf25 (by rw[List.length_map,gY]) (λw hw=>⟨by rw[MOD,if_neg hc],ac hw⟩))
theorem yb(a:Option Addr)(cap:Nat)(bs:L8)(w:World)(hw:Gt w)(hby:BytesAt w a bs):
 CLS 38 [.slice a bs.length cap].toArray w (λe w'=>e=.returned (if 48<bs.length then .tuple #[aI (List.replicate 6 0#64),.bool false]else .tuple #[aI (FRs bs bs.length),.bool true])/\Grow w w'):=by
 refine Hf func38 O hw<|λhGF=>Xp<|Al 2 hGF zv25<|λb2=>Asg O<|aa<|Xp<|Al 4 hGF zv25<|λb4=>aa<|ah<|Xp<|Mv O<|bD O (λ_=>aV underlying22 _ _ _ _) O O<|?_;by_cases hA:48<bs.length
 ·refine Bnr (v:=.bool true) O O (λ_=>(cm _ _ _).trans (by rw[decide_eq_true (by omega:((bs.length:Int)>48))]))<|aa<|aL O<|Xp<|Lw 4 O O bT List.length_replicate<|Sw 2 hGF O O O bT List.length_replicate<|Asg O<|aa<|ak<|Rr<|?_
  exact aG 2 O O O O isAgg25 sizeOf25 (by rw[List.length_map,List.length_replicate]) (λw hw=>⟨by rw[if_pos hA];rfl,ac hw⟩)
 ·refine Bnr (v:=.bool false) O O (λ_=>(cm _ _ _).trans (by rw[decide_eq_false (by omega: ¬((bs.length:Int)>48))]))<|aa<|aw O<|aq<|ah<|Xp<|Mv O<|bD O (λ_=>aV underlying22 _ _ _ _) O O<|Mv O<|aa<|am<|cb (ι:={i:Nat // i<=bs.length}) (λx=>[(0,.slice a bs.length cap),(2,pnt b2),(4,pnt b4),(12,.slice a bs.length cap),(13,I (bs.length:Int)),(14,I (x.1:Int))]) (λx=>[(2,b2,(List.replicate 6 0#64).map U64,25),(4,b4,(FRs bs x.1).map U64,25)]) (λx=>bs.length-x.1) ⟨0,om⟩ hGF trv trv<|?_
  rintro ⟨i,hi⟩;dsimp only;refine Xp<|Bnr O O (λ_=>aC _ _ _)<|aa<|ah<|?_;refine bE O (λhc=> ?_) (λhc=> ?_)
  ·simp only[decide_eq_true_eq]at hc
   refine aq<|ah<|am<|Xp<|Mv O<|?_;obtain ⟨ad,rfl,_⟩:=hby i _ (gm U8 bs 0 i om);refine ek i O O underlying22 sizeOf5 O om O O<|bp O isAgg5 (λw' h=>by obtain ⟨ad',e,hc⟩:=(hby.grow (ac h)) i _ (gm U8 bs 0 i om);cases e;exact hc) O O<|Asg O<|Asg O<|aa<|Xp<|Mv O<|bD O (λ_=>aV underlying22 _ _ _ _) O O<|Bnr (v:=I ((bs.length:Int)-1)) O O (λ_=>bf _ _ _ oi)<|Mv O<|Bnr (v:=I ((bs.length-1-i:Nat):Int)) O O (λ_=>(bf _ _ _ oi).trans (by rw[show ((bs.length:Int)-1-(i:Int))=((bs.length-1-i:Nat):Int) by omega]))<|Asg O<|aa<|Xe []<|Mv O<|Bnr (v:=I (((bs.length-1-i) / 8:Nat):Int)) O O (λ_=>go _ _ _ dc (show inI (((bs.length-1-i) / 8:Nat):Int) by unfold inI;omega))<|Ia (((bs.length-1-i) / 8)) O O underlying25 sizeOf24<|Lm 4 U64 0 O O isAgg24 (by rw[aM];omega)<|Mv O<|cu O O (λ_=>oH underlying5 underlying24 _) O O<|Mv O<|Bnr (v:=I (((bs.length-1-i) % 8:Nat):Int)) O O (λ_=>d7 _ _ _ dc)<|de (v:=I ((8*((bs.length-1-i) % 8):Nat):Int)) O O (λ_=>rfl) (λ_=>(bJ _ _ _ oi).trans (by rw[show (8:Int)*(((bs.length-1-i) % 8:Nat):Int)=((8*((bs.length-1-i) % 8):Nat):Int) by omega])) O O<|de (v:=U64 ((bs.getD i 0).setWidth 64<<<(8*((bs.length-1-i) % 8)))) O O (λ_=>rfl) (λ_=>lP _ _ _ om) O O<|Bnr O O (λ_=>gi _ _ _)<|Ia (((bs.length-1-i) / 8)) O O underlying25 sizeOf24<|bc 4 U64 hGF O O O sizeOf24 O (by rw[aM];omega) O<|aa<|Xq<|Bnr O O (λ_=>az _ _ _ oi)<|Mv O<|aa<|?_
   repeat (refine aW ?_)
   exact aQ<|⟨rfl,⟨i+1,om⟩,_,by show bs.length-(i+1)<bs.length-i;omega,rfl,trv,trv⟩
  ·obtain rfl:i=bs.length:=by simp at hc;omega
   refine a6<|Xp<|Lw 4 O O bT (aM _ _)<|Sw 2 hGF O O O bT (aM _ _)<|Asg O<|aa<|ak<|Rr<|?_;exact aG 2 O O O O isAgg25 sizeOf25 (by rw[List.length_map,aM]) (λw hw=>⟨by rw[if_neg hA];rfl,ac hw⟩)
theorem n8(a:Option Addr)(cap:Nat)(bs:L8)(w:World)(hw:Gt w)(hby:BytesAt w a bs):
 CLS 54 [.slice a bs.length cap].toArray w (λe w'=>e=.returned (if 48<bs.length then .tuple #[aI (List.replicate 6 0#64),.bool false]else .tuple #[aI (FRs bs bs.length),.bool true])/\Grow w w'):=by
 refine Hf func54 O hw ?_;intro hGF;by_cases hA:48<bs.length
 ·refine Xp<|Al 2 hGF zv37<|λb2=>Asg O<|aa<|ah<|Xp<|Mv O<|bD O (λ_=>aV underlying22 _ _ _ _) O O<|Bnr (v:=.bool true) O O (λ_=>(cm _ _ _).trans (by rw[decide_eq_true (by omega:((bs.length:Int)>48))]))<|aa<|aL O<|Xp<|fC zv37 underlying37 sizeOf24 O O<|Sw 2 hGF O O O cg List.length_replicate<|Asg O<|aa<|ak<|Rr<|?_
  exact aG 2 O O O O isAgg37 sizeOf37 (by rw[List.length_map,List.length_replicate]) (λw hw=>⟨by rw[if_pos hA];rfl,ac hw⟩)
 ·refine Xp<|Al 2 hGF zv37<|λb2=>Asg O<|aa<|ah<|Xp<|Mv O<|bD O (λ_=>aV underlying22 _ _ _ _) O O<|Bnr (v:=.bool false) O O (λ_=>(cm _ _ _).trans (by rw[decide_eq_false (by omega: ¬((bs.length:Int)>48))]))<|aa<|aw O<|aq<|Xp<|Al 4 hGF zv37<|λb4=>aa<|ah<|Xp<|Asg O<|aa<|am<|cb (ι:={i:Nat // i<=bs.length}) (λx=>[(0,.slice a bs.length cap),(2,pnt b2),(4,pnt b4),(5,I (x.1:Int))]) (λx=>[(2,b2,(List.replicate 6 0#64).map U64,37),(4,b4,(FRs bs x.1).map U64,37)]) (λx=>bs.length-x.1) ⟨0,om⟩ hGF trv trv<|?_
  rintro ⟨i,hi⟩;dsimp only;refine ah<|Xp<|Mv O<|Mv O<|bD O (λ_=>aV underlying22 _ _ _ _) O O<|Bnr O O (λ_=>aC _ _ _)<|aa<|?_;refine bE O (λhc=> ?_) (λhc=> ?_)
  ·simp only[decide_eq_true_eq]at hc
   refine aq<|ah<|am<|Xp<|Mv O<|bD O (λ_=>aV underlying22 _ _ _ _) O O<|Bnr (v:=I ((bs.length:Int)-1)) O O (λ_=>bf _ _ _ oi)<|Mv O<|Bnr (v:=I ((bs.length-1-i:Nat):Int)) O O (λ_=>(bf _ _ _ oi).trans (by rw[show ((bs.length:Int)-1-(i:Int))=((bs.length-1-i:Nat):Int) by omega]))<|Asg O<|aa<|Xe []<|Mv O<|Bnr (v:=I (((bs.length-1-i) / 8:Nat):Int)) O O (λ_=>go _ _ _ dc (show inI (((bs.length-1-i) / 8:Nat):Int) by unfold inI;omega))<|Ia (((bs.length-1-i) / 8)) O O underlying37 sizeOf24<|Lm 4 U64 0 O O isAgg24 (by rw[aM];omega)<|Mv O<|Mv O<|?_
   obtain ⟨ad,rfl,_⟩:=hby i _ (gm U8 bs 0 i om);refine ek i O O underlying22 sizeOf5 O om O O<|bp O isAgg5 (λw' h=>by obtain ⟨ad',e,hc⟩:=(hby.grow (ac h)) i _ (gm U8 bs 0 i om);cases e;exact hc) O O<|cu O O (λ_=>oH underlying5 underlying24 _) O O<|Mv O<|Bnr (v:=I (((bs.length-1-i) % 8:Nat):Int)) O O (λ_=>d7 _ _ _ dc)<|de (v:=I ((8*((bs.length-1-i) % 8):Nat):Int)) O O (λ_=>rfl) (λ_=>(bJ _ _ _ oi).trans (by rw[show (8:Int)*(((bs.length-1-i) % 8:Nat):Int)=((8*((bs.length-1-i) % 8):Nat):Int) by omega])) O O<|de (v:=U64 ((bs.getD i 0).setWidth 64<<<(8*((bs.length-1-i) % 8)))) O O (λ_=>rfl) (λ_=>lP _ _ _ om) O O<|Bnr O O (λ_=>gi _ _ _)<|Ia (((bs.length-1-i) / 8)) O O underlying37 sizeOf24<|bc 4 U64 hGF O O O sizeOf24 O (by rw[aM];omega) O<|aa<|Xq<|Mv O<|Bnr O O (λ_=>az _ _ _ oi)<|Asg O<|aa<|?_
   repeat (refine aW ?_)
   exact aQ<|⟨rfl,⟨i+1,om⟩,_,by show bs.length-(i+1)<bs.length-i;omega,rfl,trv,trv⟩
  ·obtain rfl:i=bs.length:=by simp at hc;omega
   refine a6<|Xp<|Lw 4 O O cg (aM _ _)<|Sw 2 hGF O O O cg (aM _ _)<|Asg O<|aa<|ak<|Rr<|?_;exact aG 2 O O O O isAgg37 sizeOf37 (by rw[List.length_map,aM]) (λw hw=>⟨by rw[if_neg hA];rfl,ac hw⟩)
theorem mr(a:L6)(ha:a.length=6):PUR 107 [aI (a)] (.agg ((BYs a 48).map U8).toArray):=by
 intro w hw;refine Hf func107 O hw<|λhGF=>Xp<|Bx 1 hGF O<|λb1=>Al 2 hGF zv29<|λb2=>aa<|Xp<|Al 3 hGF zv29<|λb3=>aa<|ah<|Xp<|Mv O<|aa<|am<|cb (ι:={i:Nat // i<=48}) (λx=>[(1,pnt b1),(2,pnt b2),(3,pnt b3),(6,I (x.1:Int))]) (λx=>[(1,b1,a.map U64,25),(2,b2,(List.replicate 48 0#8).map U8,29),(3,b3,(BYs a x.1).map U8,29)]) (λx=>48-x.1) ⟨0,om⟩ hGF trv trv<|?_;rintro ⟨i,hi⟩;dsimp only;refine Xp<|Bnr O O (λ_=>aC _ _ _)<|aa<|ah<|?_;refine bE O (λhc=> ?_) (λhc=> ?_)
 ·simp only[decide_eq_true_eq]at hc
  refine aq<|ah<|am<|Xp<|Mv O<|Asg O<|aa<|Xp<|Mv O<|Bnr (v:=I ((47-i:Nat):Int)) O O (λ_=>(bf _ _ _ oi).trans (by rw[show ((47:Int)-(i:Int))=((47-i:Nat):Int) by omega]))<|Asg O<|aa<|Xq<|Mv O<|Mv O<|Bnr (v:=I (((47-i) / 8:Nat):Int)) O O (λ_=>go _ _ _ dc (show inI (((47-i) / 8:Nat):Int) by unfold inI;omega))<|Ia (((47-i) / 8)) O O underlying25 sizeOf24<|Lm 1 U64 0 O O isAgg24 (by rw[ha];omega)<|Mv O<|Bnr (v:=I (((47-i) % 8:Nat):Int)) O O (λ_=>d7 _ _ _ dc)<|de (v:=I ((8*((47-i) % 8):Nat):Int)) O O (λ_=>rfl) (λ_=>(bJ _ _ _ oi).trans (by rw[show (8:Int)*(((47-i) % 8:Nat):Int)=((8*((47-i) % 8):Nat):Int) by omega])) O O<|de (v:=U64 (a.getD ((47-i) / 8) 0>>>(8*((47-i) % 8)))) O O (λ_=>rfl) (λ_=>dZ _ _ _ om) O O<|cu O O (λ_=>gH underlying24 underlying5 _) O O<|Ia (i) O O underlying29 sizeOf5<|bc 3 U8 hGF O O O sizeOf5 O (by rw[aJ];omega) O<|aa<|Xq<|Bnr O O (λ_=>az _ _ _ oi)<|Mv O<|aa<|?_
  repeat (refine aW ?_)
  exact aQ<|⟨rfl,⟨i+1,om⟩,_,by show 48-(i+1)<48-i;omega,rfl,trv,trv⟩
 ·obtain rfl:i=48:=by simp at hc;omega
  refine a6<|Xp<|Lw 3 O O rM (aJ _ _)<|Sx 2 hGF O O O rM (aJ _ _) (bL _)<|aa<|ak<|Rr<|?_;exact au 2 O O O isAgg29 sizeOf29 (by rw[List.length_map,aJ]) (λw hw=>⟨rfl,ac hw⟩)
theorem gx(a:L6)(ha:a.length=6):PUR 52 [aI (a)] (.agg ((BYs a 48).map U8).toArray):=by
 intro w hw;refine Hf func52 O hw<|λhGF=>Xp<|Bx 1 hGF O<|λb1=>Al 2 hGF zv29<|λb2=>aa<|Xp<|Al 3 hGF zv29<|λb3=>aa<|ah<|Xp<|Asg O<|aa<|am<|cb (ι:={i:Nat // i<=48}) (λx=>[(1,pnt b1),(2,pnt b2),(3,pnt b3),(4,I (x.1:Int))]) (λx=>[(1,b1,a.map U64,37),(2,b2,(List.replicate 48 0#8).map U8,29),(3,b3,(BYs a x.1).map U8,29)]) (λx=>48-x.1) ⟨0,om⟩ hGF trv trv<|?_;rintro ⟨i,hi⟩;dsimp only;refine ah<|Xp<|Mv O<|Bnr O O (λ_=>aC _ _ _)<|aa<|?_;refine bE O (λhc=> ?_) (λhc=> ?_)
 ·simp only[decide_eq_true_eq]at hc
  refine aq<|ah<|am<|Xp<|Mv O<|Bnr (v:=I ((47-i:Nat):Int)) O O (λ_=>(bf _ _ _ oi).trans (by rw[show ((47:Int)-(i:Int))=((47-i:Nat):Int) by omega]))<|Asg O<|aa<|Xq<|Mv O<|Mv O<|Bnr (v:=I (((47-i) / 8:Nat):Int)) O O (λ_=>go _ _ _ dc (show inI (((47-i) / 8:Nat):Int) by unfold inI;omega))<|Ia (((47-i) / 8)) O O underlying37 sizeOf24<|Lm 1 U64 0 O O isAgg24 (by rw[ha];omega)<|Mv O<|Bnr (v:=I (((47-i) % 8:Nat):Int)) O O (λ_=>d7 _ _ _ dc)<|de (v:=I ((8*((47-i) % 8):Nat):Int)) O O (λ_=>rfl) (λ_=>(bJ _ _ _ oi).trans (by rw[show (8:Int)*(((47-i) % 8:Nat):Int)=((8*((47-i) % 8):Nat):Int) by omega])) O O<|de (v:=U64 (a.getD ((47-i) / 8) 0>>>(8*((47-i) % 8)))) O O (λ_=>rfl) (λ_=>dZ _ _ _ om) O O<|cu O O (λ_=>gH underlying24 underlying5 _) O O<|Ia (i) O O underlying29 sizeOf5<|bc 3 U8 hGF O O O sizeOf5 O (by rw[aJ];omega) O<|aa<|Xq<|Mv O<|Bnr O O (λ_=>az _ _ _ oi)<|Asg O<|aa<|?_
  repeat (refine aW ?_)
  exact aQ<|⟨rfl,⟨i+1,om⟩,_,by show 48-(i+1)<48-i;omega,rfl,trv,trv⟩
 ·obtain rfl:i=48:=by simp at hc;omega
  refine a6<|Xp<|Lw 3 O O rM (aJ _ _)<|Sx 2 hGF O O O rM (aJ _ _) (bL _)<|aa<|ak<|Rr<|?_;exact au 2 O O O isAgg29 sizeOf29 (by rw[List.length_map,aJ]) (λw hw=>⟨rfl,ac hw⟩)
def BT(a:L6):List (List Value):=(f7 a 384).map λn:Nat=>[I (n:Int)]
theorem PZ(a:L6):(BT a).length=(f7 a 384).length:=by simp[BT]
theorem XZ(a:L6)(k:Nat)(hk:k<384)(h:dig a (383-k)=1):(BT a)[(f7 a k).length]? =some [I ((383-k:Nat):Int)]:=by
 rw[BT,List.getElem?_map,Ls a k hk h];rfl
theorem u1(a:L6)(k:Nat)(h:dig a (383-k)=1):(f7 a (k+1)).length=(f7 a k).length+1:=by rw[f7,if_pos h];simp
theorem JY(a:L6)(k:Nat)(h: ¬dig a (383-k)=1):(f7 a (k+1)).length=(f7 a k).length:=by rw[f7,if_neg h]
theorem iG(x y c s:BitVec 64)(hc:c.toNat<=1)(h:(ADC x y c).1=s)(w:World):(callFunc 83 [U64 x,U64 y,U64 c].toArray).run prog w=.ok (.value (.tuple #[U64 s,U64 (ADC x y c).2])) w:=by
 subst h;exact fy x y c hc w
theorem eD:PL.length=6:=rfl
theorem gy  :PUR 66 [] (aI (PL)):=by
 intro w hw;refine Hf func66 O hw<|λhGF=>Xp<|Al 0 hGF zv37<|λb0=>aa<|Xp<|gg (n:=6) (vs:=(PL).map U64) O O underlying37 sizeOf24 zeroValue37 O O O O<|Sw 0 hGF O O O cg eD<|aa<|ak<|Rr<|?_;exact au 0 O O O isAgg37 sizeOf37 O (λw hw=>⟨rfl,ac hw⟩)
theorem Co  :PUR 233 [] (aI (ONE)):=by
 intro w hw;refine Hf func233 O hw<|λhGF=>Xp<|Al 0 hGF zv37<|λb0=>aa<|Xp<|gg (n:=6) (vs:=(ONE).map U64) O O underlying37 sizeOf24 zeroValue37 O O O O<|Sw 0 hGF O O O cg uI<|aa<|ak<|Rr<|?_;exact au 0 O O O isAgg37 sizeOf37 O (λw hw=>⟨rfl,ac hw⟩)
theorem Cz  :PUR 206 [] (aI (TWO)):=by
 intro w hw;refine Hf func206 O hw<|λhGF=>Xp<|Al 0 hGF zv37<|λb0=>aa<|Xp<|gg (n:=6) (vs:=(TWO).map U64) O O underlying37 sizeOf24 zeroValue37 O O O O<|Sw 0 hGF O O O cg tz<|aa<|ak<|Rr<|?_;exact au 0 O O O isAgg37 sizeOf37 O (λw hw=>⟨rfl,ac hw⟩)
theorem mg(a b:L6)(ha:a.length=6)(hb:b.length=6):PUR 113 [aI (a),aI (b)] (aI (RM a b)):=by
 intro w hw;refine Hf func113 O hw<|λhGF=>Xp<|Bx 2 hGF O<|λb2=>Bx 3 hGF O<|λb3=>Al 4 hGF zv37<|λb4=>aa<|Xp<|Asg O<|Asg O<|Asg O<|Asg O<|Asg O<|Asg O<|aa<|ah<|Xp<|Asg O<|aa<|am<|cb (ι:={i:Nat // i<=6}) (λx=>[(2,pnt b2),(3,pnt b3),(4,pnt b4),(5,U64 ((RT a b x.1).getD 0 0)),(6,U64 ((RT a b x.1).getD 1 0)),(7,U64 ((RT a b x.1).getD 2 0)),(8,U64 ((RT a b x.1).getD 3 0)),(9,U64 ((RT a b x.1).getD 4 0)),(10,U64 ((RT a b x.1).getD 5 0)),(11,I (x.1:Int))]) (λx=>[(2,b2,a.map U64,37),(3,b3,b.map U64,37),(4,b4,(List.replicate 6 0#64).map U64,37)]) (λx=>6-x.1) ⟨0,om⟩ hGF trv trv<|?_;rintro ⟨i,hi⟩;dsimp only;refine ah<|Xp<|Mv O<|Bnr O O (λ_=>aC _ _ _)<|aa<|?_;refine bE O (λhc=> ?_) (λhc=> ?_)
 ·simp only[decide_eq_true_eq]at hc
  refine aq<|ah<|am<|Xp<|Asg O<|Asg O<|Asg O<|Asg O<|aa<|Xp<|Mv O<|Ia (i) O O underlying37 sizeOf24<|Lm 3 U64 0 O O isAgg24 (by rw[hb];omega)<|Asg O<|aa<|Xp<|Ia (0) O O underlying37 sizeOf24<|Lm 2 U64 0 O O isAgg24 (by rw[ha];omega)<|Mv O<|Ca O (cO _ _)<|Mv O<|Ext O O<|Ext O O<|Asg O<|Asg O<|aa<|Xp<|Mv O<|Mv O<|bS O O (λw=>iG _ _ 0 _ dc (k1z (b.getD i 0) a (RT a b i)) w) O O<|Mv O<|Ext O O<|Ext O O<|Asg O<|Asg O<|aa<|Xp<|Mv O<|Mv O<|Bnr (v:=U64 (KC (b.getD i 0) a (RT a b i) 1)) O O (λw=>(a8 _ _ _).trans (congrArg (λz=>Result.ok (U64 z) w) (k2z (b.getD i 0) a (RT a b i))))<|?_
  refine Asg O<|aa<|Xp<|Ia (1) O O underlying37 sizeOf24<|Lm 2 U64 0 O O isAgg24 (by rw[ha];omega)<|Mv O<|Ca O (cO _ _)<|Mv O<|Ext O O<|Ext O O<|Asg O<|Asg O<|aa<|Xp<|Mv O<|Mv O<|bS O O (λw=>fy _ _ 0 dc w) O O<|Mv O<|Ext O O<|Ext O O<|Asg O<|Asg O<|aa<|Xp<|Mv O<|Mv O<|Bnr O O (λ_=>a8 _ _ _)<|Asg O<|aa<|Xp<|Mv O<|Mv O<|bS O O (λw=>iG _ _ 0 _ dc (k1s (b.getD i 0) a (RT a b i) 1) w) O O<|Mv O<|Ext O O<|Ext O O<|Asg O<|Asg O<|aa<|Xp<|?_
  refine Mv O<|Mv O<|Bnr (v:=U64 (KC (b.getD i 0) a (RT a b i) 2)) O O (λw=>(a8 _ _ _).trans (congrArg (λz=>Result.ok (U64 z) w) (k2s (b.getD i 0) a (RT a b i) 1)))<|Asg O<|aa<|Xp<|Ia (2) O O underlying37 sizeOf24<|Lm 2 U64 0 O O isAgg24 (by rw[ha];omega)<|Mv O<|Ca O (cO _ _)<|Mv O<|Ext O O<|Ext O O<|Asg O<|Asg O<|aa<|Xp<|Mv O<|Mv O<|bS O O (λw=>fy _ _ 0 dc w) O O<|Mv O<|Ext O O<|Ext O O<|Asg O<|Asg O<|aa<|Xp<|Mv O<|Mv O<|Bnr O O (λ_=>a8 _ _ _)<|Asg O<|aa<|Xp<|Mv O<|Mv O<|bS O O (λw=>iG _ _ 0 _ dc (k1s (b.getD i 0) a (RT a b i) 2) w) O O<|Mv O<|Ext O O<|Ext O O<|Asg O<|?_
  refine Asg O<|aa<|Xp<|Mv O<|Mv O<|Bnr (v:=U64 (KC (b.getD i 0) a (RT a b i) 3)) O O (λw=>(a8 _ _ _).trans (congrArg (λz=>Result.ok (U64 z) w) (k2s (b.getD i 0) a (RT a b i) 2)))<|Asg O<|aa<|Xp<|Ia (3) O O underlying37 sizeOf24<|Lm 2 U64 0 O O isAgg24 (by rw[ha];omega)<|Mv O<|Ca O (cO _ _)<|Mv O<|Ext O O<|Ext O O<|Asg O<|Asg O<|aa<|Xp<|Mv O<|Mv O<|bS O O (λw=>fy _ _ 0 dc w) O O<|Mv O<|Ext O O<|Ext O O<|Asg O<|Asg O<|aa<|Xp<|Mv O<|Mv O<|Bnr O O (λ_=>a8 _ _ _)<|Asg O<|aa<|Xp<|Mv O<|Mv O<|bS O O (λw=>iG _ _ 0 _ dc (k1s (b.getD i 0) a (RT a b i) 3) w) O O<|Mv O<|?_
  refine Ext O O<|Ext O O<|Asg O<|Asg O<|aa<|Xp<|Mv O<|Mv O<|Bnr (v:=U64 (KC (b.getD i 0) a (RT a b i) 4)) O O (λw=>(a8 _ _ _).trans (congrArg (λz=>Result.ok (U64 z) w) (k2s (b.getD i 0) a (RT a b i) 3)))<|Asg O<|aa<|Xp<|Ia (4) O O underlying37 sizeOf24<|Lm 2 U64 0 O O isAgg24 (by rw[ha];omega)<|Mv O<|Ca O (cO _ _)<|Mv O<|Ext O O<|Ext O O<|Asg O<|Asg O<|aa<|Xp<|Mv O<|Mv O<|bS O O (λw=>fy _ _ 0 dc w) O O<|Mv O<|Ext O O<|Ext O O<|Asg O<|Asg O<|aa<|Xp<|Mv O<|Mv O<|Bnr O O (λ_=>a8 _ _ _)<|Asg O<|aa<|Xp<|Mv O<|?_
  refine Mv O<|bS O O (λw=>iG _ _ 0 _ dc (k1s (b.getD i 0) a (RT a b i) 4) w) O O<|Mv O<|Ext O O<|Ext O O<|Asg O<|Asg O<|aa<|Xp<|Mv O<|Mv O<|Bnr (v:=U64 (KC (b.getD i 0) a (RT a b i) 5)) O O (λw=>(a8 _ _ _).trans (congrArg (λz=>Result.ok (U64 z) w) (k2s (b.getD i 0) a (RT a b i) 4)))<|Asg O<|aa<|Xp<|Ia (5) O O underlying37 sizeOf24<|Lm 2 U64 0 O O isAgg24 (by rw[ha];omega)<|Mv O<|Ca O (cO _ _)<|Mv O<|Ext O O<|Ext O O<|Asg O<|Asg O<|aa<|Xp<|Mv O<|Mv O<|bS O O (λw=>fy _ _ 0 dc w) O O<|Mv O<|Ext O O<|Ext O O<|Asg O<|Asg O<|aa<|Xp<|Mv O<|Mv O<|Bnr O O (λ_=>a8 _ _ _)<|Asg O<|?_
  refine aa<|Xp<|Mv O<|Mv O<|bS O O (λw=>iG _ _ 0 _ dc (k1s (b.getD i 0) a (RT a b i) 5) w) O O<|Mv O<|Ext O O<|Ext O O<|Asg O<|Asg O<|aa<|Xp<|Mv O<|Mv O<|Bnr (v:=U64 (KC (b.getD i 0) a (RT a b i) 6)) O O (λw=>(a8 _ _ _).trans (congrArg (λz=>Result.ok (U64 z) w) (k2s (b.getD i 0) a (RT a b i) 5)))<|Asg O<|aa<|Xp<|Mv O<|Asg O<|aa<|Xp<|Mv O<|Bnr (v:=U64 (KT (b.getD i 0) a (RT a b i) 0*INV)) O O (λw=>cK _ _ INV)<|Asg O<|aa<|Xp<|Mv O<|Ca O (cO _ (PL.getD 0 0))<|Mv O<|Ext O O<|Ext O O<|Asg O<|Asg O<|aa<|Xp<|Mv O<|Mv O<|bS O O (λw=>fy _ _ 0 dc w) O O<|Mv O<|?_;refine Ext O O<|Ext O O<|Asg O<|aa<|Xp<|Mv O<|Mv O<|Bnr (v:=U64 (KD (KT (b.getD i 0) a (RT a b i) 0*INV) PL (T1 (b.getD i 0) a (RT a b i)) 0)) O O (λw=>(a8 _ _ _).trans (congrArg (λz=>Result.ok (U64 z) w) (d2z (b.getD i 0) (KT (b.getD i 0) a (RT a b i) 0*INV) a (RT a b i))))<|Asg O<|aa<|Xp<|Mv O<|Ca O (cO _ (PL.getD 1 0))<|Mv O<|Ext O O<|Ext O O<|Asg O<|Asg O<|aa<|Xp<|Mv O<|Mv O<|bS O O (λw=>fy _ _ 0 dc w) O O<|Mv O<|Ext O O<|Ext O O<|Asg O<|Asg O<|aa<|Xp<|Mv O<|Mv O<|Bnr O O (λ_=>a8 _ _ _)<|Asg O<|aa<|Xp<|Mv O<|Mv O<|bS O O (λw=>iG _ _ 0 _ dc (d1s (b.getD i 0) (KT (b.getD i 0) a (RT a b i) 0*INV) a (RT a b i) 0 dc) w) O O<|Mv O<|?_;refine Ext O O<|Ext O O<|Asg O<|Asg O<|aa<|Xp<|Mv O<|Mv O<|Bnr (v:=U64 (KD (KT (b.getD i 0) a (RT a b i) 0*INV) PL (T1 (b.getD i 0) a (RT a b i)) 1)) O O (λw=>(a8 _ _ _).trans (congrArg (λz=>Result.ok (U64 z) w) (d2s (b.getD i 0) (KT (b.getD i 0) a (RT a b i) 0*INV) a (RT a b i) 0 dc)))<|Asg O<|aa<|Xp<|Mv O<|Ca O (cO _ (PL.getD 2 0))<|Mv O<|Ext O O<|Ext O O<|Asg O<|Asg O<|aa<|Xp<|Mv O<|Mv O<|bS O O (λw=>fy _ _ 0 dc w) O O<|Mv O<|Ext O O<|Ext O O<|Asg O<|Asg O<|aa<|Xp<|Mv O<|Mv O<|Bnr O O (λ_=>a8 _ _ _)<|Asg O<|aa<|Xp<|Mv O<|Mv O<|bS O O (λw=>iG _ _ 0 _ dc (d1s (b.getD i 0) (KT (b.getD i 0) a (RT a b i) 0*INV) a (RT a b i) 1 dc) w) O O<|?_;refine Mv O<|Ext O O<|Ext O O<|Asg O<|Asg O<|aa<|Xp<|Mv O<|Mv O<|Bnr (v:=U64 (KD (KT (b.getD i 0) a (RT a b i) 0*INV) PL (T1 (b.getD i 0) a (RT a b i)) 2)) O O (λw=>(a8 _ _ _).trans (congrArg (λz=>Result.ok (U64 z) w) (d2s (b.getD i 0) (KT (b.getD i 0) a (RT a b i) 0*INV) a (RT a b i) 1 dc)))<|Asg O<|aa<|Xp<|Mv O<|Ca O (cO _ (PL.getD 3 0))<|Mv O<|Ext O O<|Ext O O<|Asg O<|Asg O<|aa<|Xp<|Mv O<|Mv O<|bS O O (λw=>fy _ _ 0 dc w) O O<|Mv O<|Ext O O<|Ext O O<|Asg O<|Asg O<|aa<|Xp<|Mv O<|Mv O<|Bnr O O (λ_=>a8 _ _ _)<|Asg O<|aa<|Xp<|Mv O<|Mv O<|?_;refine bS O O (λw=>iG _ _ 0 _ dc (d1s (b.getD i 0) (KT (b.getD i 0) a (RT a b i) 0*INV) a (RT a b i) 2 dc) w) O O<|Mv O<|Ext O O<|Ext O O<|Asg O<|Asg O<|aa<|Xp<|Mv O<|Mv O<|Bnr (v:=U64 (KD (KT (b.getD i 0) a (RT a b i) 0*INV) PL (T1 (b.getD i 0) a (RT a b i)) 3)) O O (λw=>(a8 _ _ _).trans (congrArg (λz=>Result.ok (U64 z) w) (d2s (b.getD i 0) (KT (b.getD i 0) a (RT a b i) 0*INV) a (RT a b i) 2 dc)))<|Asg O<|aa<|Xp<|Mv O<|Ca O (cO _ (PL.getD 4 0))<|Mv O<|Ext O O<|Ext O O<|Asg O<|Asg O<|aa<|Xp<|Mv O<|Mv O<|bS O O (λw=>fy _ _ 0 dc w) O O<|Mv O<|Ext O O<|Ext O O<|Asg O<|Asg O<|aa<|Xp<|Mv O<|Mv O<|Bnr O O (λ_=>a8 _ _ _)<|Asg O<|aa<|Xp<|Mv O<|?_;refine Mv O<|bS O O (λw=>iG _ _ 0 _ dc (d1s (b.getD i 0) (KT (b.getD i 0) a (RT a b i) 0*INV) a (RT a b i) 3 dc) w) O O<|Mv O<|Ext O O<|Ext O O<|Asg O<|Asg O<|aa<|Xp<|Mv O<|Mv O<|Bnr (v:=U64 (KD (KT (b.getD i 0) a (RT a b i) 0*INV) PL (T1 (b.getD i 0) a (RT a b i)) 4)) O O (λw=>(a8 _ _ _).trans (congrArg (λz=>Result.ok (U64 z) w) (d2s (b.getD i 0) (KT (b.getD i 0) a (RT a b i) 0*INV) a (RT a b i) 3 dc)))<|Asg O<|aa<|Xp<|Mv O<|Ca O (cO _ (PL.getD 5 0))<|Mv O<|Ext O O<|Ext O O<|Asg O<|Asg O<|aa<|Xp<|Mv O<|Mv O<|bS O O (λw=>fy _ _ 0 dc w) O O<|Mv O<|Ext O O<|Ext O O<|Asg O<|Asg O<|aa<|Xp<|Mv O<|Mv O<|Bnr O O (λ_=>a8 _ _ _)<|Asg O<|aa<|Xp<|?_;refine Mv O<|Mv O<|bS O O (λw=>iG _ _ 0 _ dc (d1s (b.getD i 0) (KT (b.getD i 0) a (RT a b i) 0*INV) a (RT a b i) 4 dc) w) O O<|Mv O<|Ext O O<|Ext O O<|Asg O<|Asg O<|aa<|Xp<|Mv O<|Mv O<|Bnr (v:=U64 (KD (KT (b.getD i 0) a (RT a b i) 0*INV) PL (T1 (b.getD i 0) a (RT a b i)) 5)) O O (λw=>(a8 _ _ _).trans (congrArg (λz=>Result.ok (U64 z) w) (d2s (b.getD i 0) (KT (b.getD i 0) a (RT a b i) 0*INV) a (RT a b i) 4 dc)))<|Asg O<|aa<|Xq<|Mv O<|Mv O<|Bnr O O (λ_=>a8 _ _ _)<|Asg O<|aa<|Xq<|Mv O<|Bnr O O (λ_=>az _ _ _ oi)<|Asg O<|aa<|?_
  repeat (refine aW ?_)
  exact aQ<|⟨rfl,⟨i+1,om⟩,_,by show 6-(i+1)<6-i;omega,rfl,⟨rfl,rfl,rfl,congrArg (λz=>some (U64 z)) (E4 a b i 0 dc).symm,congrArg (λz=>some (U64 z)) (E4 a b i 1 dc).symm,congrArg (λz=>some (U64 z)) (E4 a b i 2 dc).symm,congrArg (λz=>some (U64 z)) (E4 a b i 3 dc).symm,congrArg (λz=>some (U64 z)) (E4 a b i 4 dc).symm,congrArg (λz=>some (U64 z)) (Qh a b i).symm,rfl,trivial⟩,trv⟩
 ·obtain rfl:i=6:=by simp at hc;omega
  refine a6<|Xp<|Mv O<|Mv O<|Mv O<|Mv O<|Mv O<|Mv O<|gg (n:=6) (vs:=(RT a b 6).map U64) (congrArg some (J8 (RT a b 6) (i2 _ _ _))) O underlying37 sizeOf24 zeroValue37 (by rw[List.length_map,i2];rfl) (bi _) O O<|Al 19 hGF zv37<|λb19=>Sw 19 hGF O O O cg (i2 _ _ _)<|aa<|ah<|Xa [0,1,2,3,4,5] ⟨6,20,37,(List.replicate 6 0#64).map U64⟩ [7,8] (bg O zv37 O)<|Lw 19 O O cg (i2 _ _ _)<|Ca O (gy)<|Ca O (fD _ _ (i2 _ _ _) O)<|Mv O<|Ext O O<|Ext O O<|aa<|?_
  refine ⟨_,_,rfl,hGF,by intro x hx;simp only[List.mem_cons,List.not_mem_nil,or_false]at hx;subst hx;rfl,by intro x hx;simp only[List.mem_cons,List.not_mem_nil,or_false]at hx;subst hx;rfl,λadr=> ?_⟩
  refine Sw 20 hGF O O O cg (aB _ _ _)<|Asg O<|aa<|Xp<|Mv O<|?_;by_cases h0:(SS (RT a b 6) PL 6).2=0
  ·refine Bnr (v:=.bool true) O O (λw=>(bu _ _ _).trans (congrArg (λb=>Result.ok (Value.bool b) w) (beq_iff_eq.2 h0)))<|aa<|aL O<|Xq<|Lw 20 O O cg (aB _ _ _)<|aA 19 hGF O O O sizeOf37 (by rw[List.length_map,aB _ _ _]) (by rw[List.length_map,i2 _ _ _]) (bi _) O<|aa<|Xp<|Lw 19 O O cg (aB _ _ _)<|Sw 4 hGF O O O cg (aB _ _ _)<|aa<|ak<|Rr<|?_
   exact au 4 O O O isAgg37 sizeOf37 (by rw[List.length_map,aB]) (λw hw=>⟨by rw[RM,if_pos h0],ac hw⟩)
  ·refine Bnr (v:=.bool false) O O (λw=>(bu _ _ _).trans (congrArg (λb=>Result.ok (Value.bool b) w) (beq_eq_false_iff_ne.2 h0)))<|aa<|aw O<|aq<|Xp<|Lw 19 O O cg (i2 _ _ _)<|Sw 4 hGF O O O cg (i2 _ _ _)<|aa<|ak<|Rr<|?_
   exact au 4 O O O isAgg37 sizeOf37 (by rw[List.length_map,i2]) (λw hw=>⟨by rw[RM,if_neg h0],ac hw⟩)
theorem ent116:ai prog 116:=λ_ _=>kr
theorem ent65:ai prog 65:=λ_ _=>kr
theorem ent114:ai prog 114:=λ_ _=>kr
theorem ent169:ai prog 169:=λ_ _=>kr
theorem ent168:ai prog 168:=λ_ _=>kr
theorem ent161:ai prog 161:=λ_ _=>kr
theorem ent167:ai prog 167:=λ_ _=>kr
theorem zv39(w:World):(zeroValue 39).run prog w=.ok (aI (List.replicate 6 (0#64))) w:=(zeroValue39 w).trans rr
def CT(a b:L6):L6:=if 1873798617647539866#64<=(AS a b 6).1.getD 5 0/\(SS (AS a b 6).1 PL 6).2=0 then (SS (AS a b 6).1 PL 6).1 else (AS a b 6).1
def ES(a b:L6):L6:=if (SS a b 6).2=1 then (AS (SS a b 6).1 PL 6).1 else (SS a b 6).1
def HP(a:L6):L6:=if a=List.replicate 6 0 then a else (SS PL a 6).1
theorem v9(a:L6)(ha:a.length=6):PUR 154 [aI (a)] (aI (RM a TWO)):=by
 intro w hw;refine Hf func154 O hw<|λhGF=>Xp<|Bx 1 hGF O<|λb1=>Al 2 hGF zv39<|λb2=>aa<|Xd []<|Lw 1 O O cg ha<|Ca O (Cz)<|Ca O (mg _ _ ha tz)<|cn O (aY _ _) underlying39 O sizeOf37 zv39 O O<|Sw 2 hGF O O O dh (aY _ _)<|aa<|ak<|Rr<|?_;exact au 2 O O O isAgg39 sizeOf39 (by rw[List.length_map,aY]) (λw hw=>⟨rfl,ac hw⟩)
theorem tZ(a:L6)(ha:a.length=6):PUR 58 [aI (a)] (aI (RM a N1)):=by
 intro w hw;refine Hf func58 O hw<|λhGF=>Xp<|Bx 1 hGF O<|λb1=>Al 2 hGF zv37<|λb2=>aa<|Xp<|Fa 0 O underlying39 O sizeOf37<|Lw 1 O O cg ha<|fH 1 O underlying37 sizeOf24 zv37 O O<|Ca O (mg _ _ ha Rp)<|Sw 2 hGF O O O cg (aY _ _)<|aa<|ak<|Rr<|?_;exact au 2 O O O isAgg37 sizeOf37 (by rw[List.length_map,aY]) (λw hw=>⟨rfl,ac hw⟩)
theorem nW(a b:L6)(ha:a.length=6)(hb:b.length=6):PUR 167 [aI (a),aI (b)] (aI (RM a b)):=by
 intro w hw;refine Hf func167 O hw<|λhGF=>Xp<|Bx 2 hGF O<|λb2=>Bx 3 hGF O<|λb3=>Al 4 hGF zv39<|λb4=>aa<|Xp<|Fa 0 O underlying39 O sizeOf37<|Lw 2 O O cg ha<|Fa 0 O underlying39 O sizeOf37<|Lw 3 O O cg hb<|Ca O (mg _ _ ha hb)<|cn O (aY _ _) underlying39 O sizeOf37 zv39 O O<|Sw 4 hGF O O O dh (aY _ _)<|aa<|ak<|Rr<|?_;exact au 4 O O O isAgg39 sizeOf39 (by rw[List.length_map,aY]) (λw hw=>⟨rfl,ac hw⟩)
theorem vv(n:BitVec 64):PUR 116 [U64 n] (aI (RM (n::List.replicate 5 0) TWO)):=by
 intro w hw;refine Hf func116 O hw<|λhGF=>Xp<|Al 2 hGF zv39<|λb2=>aa<|Xp<|Mv O<|fH n O underlying37 sizeOf24 zv37 O O<|Ca O (v9 (n::List.replicate 5 0) O)<|Sw 2 hGF O O O dh (aY _ _)<|aa<|ak<|Rr<|?_;exact au 2 O O O isAgg39 sizeOf39 (by rw[List.length_map,aY]) (λw hw=>⟨rfl,ac hw⟩)
theorem kf(a:L6)(ha:a.length=6):PUR 114 [aI (a)] (.bool (decide (a=List.replicate 6 0))):=by
 intro w hw;refine Hf func114 O hw<|λhGF=>Xp<|Bx 1 hGF O<|λb1=>Asg O<|aa<|Xp<|Fa 0 O underlying39 O sizeOf37<|Lw 1 O O cg ha<|fC zv37 underlying37 sizeOf24 O O<|de (v:=.bool (decide (a=List.replicate 6 0#64))) O O (λ_=>Yv _ _ _ _ _ _) (λw=>eq27 a (List.replicate 6 0#64) ha O w) O O<|Asg O<|aa<|ak<|Rr<|?_;exact aO O O (λw hw=>⟨rfl,ac hw⟩)
theorem jO(a b:L6)(ha:a.length=6)(hb:b.length=6):PUR 65 [aI (a),aI (b)] (.bool (decide ((SS a b 6).2=1))):=by
 intro w hw;refine Hf func65 O hw<|λhGF=>Xp<|Bx 2 hGF O<|λb2=>Bx 3 hGF O<|λb3=>Asg O<|aa<|Xp<|Lw 2 O O cg ha<|Lw 3 O O cg hb<|Ca O (fD _ _ ha hb)<|Mv O<|Ext O O<|Ext O O<|Al 5 hGF zv37<|λb5=>Sw 5 hGF O O O cg (aB _ _ _)<|Asg O<|aa<|Xp<|Mv O<|Bnr (v:=.bool (decide ((SS a b 6).2=1))) O O (λw=>(bu _ _ _).trans O)<|Asg O<|aa<|ak<|Rr<|?_;exact aO O O (λw hw=>⟨rfl,ac hw⟩)
theorem yl(a b:L6)(ha:a.length=6)(hb:b.length=6):PUR 168 [aI (a),aI (b)] (aI (ES a b)):=by
 intro w hw;refine Hf func168 O hw<|λhGF=>Xp<|Bx 2 hGF O<|λb2=>Bx 3 hGF O<|λb3=>Al 4 hGF zv39<|λb4=>aa<|Xp<|Fa 0 O underlying39 O sizeOf37<|Lw 2 O O cg ha<|Fa 0 O underlying39 O sizeOf37<|Lw 3 O O cg hb<|Ca O (fD _ _ ha hb)<|Mv O<|Ext O O<|Ext O O<|Al 5 hGF zv37<|λb5=>Sw 5 hGF O O O cg (aB _ _ _)<|Asg O<|aa<|ah<|Xp<|Mv O<|?_;by_cases h0:(SS a b 6).2=1
 ·refine Bnr (v:=.bool true) O O (λw=>(bu _ _ _).trans (congrArg (λb=>Result.ok (Value.bool b) w) (beq_iff_eq.2 h0)))<|aa<|aL O<|Xe []<|Lw 5 O O cg (aB _ _ _)<|Ca O (gy)<|Ca O (jo _ _ (aB _ _ _) eD)<|Mv O<|Ext O O<|Ext O O<|aA 5 hGF O O O sizeOf37 (by rw[List.length_map,aE _ _ _]) (by rw[List.length_map,aB _ _ _]) (bi _) O<|aa<|Xp<|Lw 5 O O cg (aE _ _ _)<|cn O (aE _ _ _) underlying39 O sizeOf37 zv39 O O<|Sw 4 hGF O O O dh (aE _ _ _)<|aa<|ak<|Rr<|?_
  exact au 4 O O O isAgg39 sizeOf39 (by rw[List.length_map];exact aE _ _ _) (λw hw=>⟨by rw[ES,if_pos h0],ac hw⟩)
 ·refine Bnr (v:=.bool false) O O (λw=>(bu _ _ _).trans (congrArg (λb=>Result.ok (Value.bool b) w) (beq_eq_false_iff_ne.2 h0)))<|aa<|aw O<|aq<|Xp<|Lw 5 O O cg (aB _ _ _)<|cn O (aB _ _ _) underlying39 O sizeOf37 zv39 O O<|Sw 4 hGF O O O dh (aB _ _ _)<|aa<|ak<|Rr<|?_
  exact au 4 O O O isAgg39 sizeOf39 (by rw[List.length_map];exact aB _ _ _) (λw hw=>⟨by rw[ES,if_neg h0],ac hw⟩)
theorem C7(a:L6)(ha:a.length=6):PUR 161 [aI (a)] (aI (HP a)):=by
 intro w hw;refine Hf func161 O hw ?_;intro hGF;by_cases h0:a=List.replicate 6 0
 ·refine Xp<|Bx 1 hGF O<|λb1=>Al 2 hGF zv39<|λb2=>aa<|ah<|Xp<|Lw 1 O O dh ha<|mJ (v:=.bool true) O O ent114 (decide_eq_true h0▸kf a ha) O O<|aa<|aL O<|Xp<|Lw 1 O O dh ha<|Sw 2 hGF O O O dh ha<|aa<|ak<|Rr<|?_
  exact au 2 O O O isAgg39 sizeOf39 (by rw[List.length_map];exact ha) (λw hw=>⟨by rw[HP,if_pos h0],ac hw⟩)
 ·refine Xp<|Bx 1 hGF O<|λb1=>Al 2 hGF zv39<|λb2=>aa<|ah<|Xp<|Lw 1 O O dh ha<|mJ (v:=.bool false) O O ent114 (decide_eq_false h0▸kf a ha) O O<|aa<|aw O<|aq<|Xa [0,1,2,3,4,5,6] ⟨7,3,37,(List.replicate 6 0#64).map U64⟩ [8,9] (bg O zv37 O)<|Ca O (gy)<|Fa 0 O underlying39 O sizeOf37<|Lw 1 O O cg ha<|Ca O (fD _ _ eD ha)<|Mv O<|Ext O O<|Ext O O<|aa<|?_
  refine ⟨_,_,rfl,hGF,by intro x hx;simp only[List.mem_cons,List.not_mem_nil,or_false]at hx;subst hx;rfl,by intro x hx;simp only[List.mem_cons,List.not_mem_nil,or_false]at hx;subst hx;rfl,λadr=> ?_⟩
  refine Sw 3 hGF O O O cg (aB _ _ _)<|Asg O<|aa<|Xp<|Lw 3 O O cg (aB _ _ _)<|cn O (aB _ _ _) underlying39 O sizeOf37 zv39 O O<|Sw 2 hGF O O O dh (aB _ _ _)<|aa<|ak<|Rr<|?_;exact au 2 O O O isAgg39 sizeOf39 (by rw[List.length_map];exact aB _ _ _) (λw hw=>⟨by rw[HP,if_neg h0],ac hw⟩)
theorem xJ(a b:L6)(ha:a.length=6)(hb:b.length=6):PUR 169 [aI (a),aI (b)] (aI (CT a b)):=by
 intro w hw;refine Hf func169 O hw ?_;intro hGF;by_cases h1:1873798617647539866#64<=(AS a b 6).1.getD 5 0
 ·by_cases h0:(SS (AS a b 6).1 PL 6).2=0
  ·refine Xp<|Bx 2 hGF O<|λb2=>Bx 3 hGF O<|λb3=>Al 4 hGF zv39<|λb4=>aa<|Xp<|Fa 0 O underlying39 O sizeOf37<|Lw 2 O O cg ha<|Fa 0 O underlying39 O sizeOf37<|Lw 3 O O cg hb<|Ca O (jo _ _ ha hb)<|Mv O<|Ext O O<|Ext O O<|Al 5 hGF zv37<|λb5=>Sw 5 hGF O O O cg (aE _ _ _)<|Asg O<|aa<|ah<|Xp<|Ia (5) O O underlying37 sizeOf24<|Lm 5 U64 0 O O isAgg24 (by rw[aE _ _ _];omega)<|Bnr (v:=.bool true) O O (λw=>(fE _ _ 1873798617647539866#64).trans (congrArg (λb=>Result.ok (Value.bool b) w) (decide_eq_true h1)))<|aa<|aL O<|Xa [0,1,2,3,4,5] ⟨6,7,37,(List.replicate 6 0#64).map U64⟩ [7,8] (bg O zv37 O)<|Lw 5 O O cg (aE _ _ _)<|Ca O (gy)<|Ca O (fD _ _ (aE _ _ _) eD)<|Mv O<|Ext O O<|Ext O O<|aa<|?_
   refine ⟨_,_,rfl,hGF,by intro x hx;simp only[List.mem_cons,List.not_mem_nil,or_false]at hx;subst hx;rfl,by intro x hx;simp only[List.mem_cons,List.not_mem_nil,or_false]at hx;subst hx;rfl,λadr=> ?_⟩
   refine Sw 7 hGF O O O cg (aB _ _ _)<|Asg O<|aa<|Xp<|Mv O<|Bnr (v:=.bool true) O O (λw=>(bu _ _ _).trans (congrArg (λb=>Result.ok (Value.bool b) w) (beq_iff_eq.2 h0)))<|aa<|aL O<|Xq<|Lw 7 O O cg (aB _ _ _)<|aA 5 hGF O O O sizeOf37 (by rw[List.length_map,aB _ _ _]) (by rw[List.length_map,aE _ _ _]) (bi _) O<|aa<|Xp<|Lw 5 O O cg (aB _ _ _)<|cn O (aB _ _ _) underlying39 O sizeOf37 zv39 O O<|Sw 4 hGF O O O dh (aB _ _ _)<|aa<|ak<|Rr<|?_
   exact au 4 O O O isAgg39 sizeOf39 (by rw[List.length_map];exact aB _ _ _) (λw hw=>⟨by rw[CT,if_pos ⟨h1,h0⟩],ac hw⟩)
  ·refine Xp<|Bx 2 hGF O<|λb2=>Bx 3 hGF O<|λb3=>Al 4 hGF zv39<|λb4=>aa<|Xp<|Fa 0 O underlying39 O sizeOf37<|Lw 2 O O cg ha<|Fa 0 O underlying39 O sizeOf37<|Lw 3 O O cg hb<|Ca O (jo _ _ ha hb)<|Mv O<|Ext O O<|Ext O O<|Al 5 hGF zv37<|λb5=>Sw 5 hGF O O O cg (aE _ _ _)<|Asg O<|aa<|ah<|Xp<|Ia (5) O O underlying37 sizeOf24<|Lm 5 U64 0 O O isAgg24 (by rw[aE _ _ _];omega)<|Bnr (v:=.bool true) O O (λw=>(fE _ _ 1873798617647539866#64).trans (congrArg (λb=>Result.ok (Value.bool b) w) (decide_eq_true h1)))<|aa<|aL O<|Xa [0,1,2,3,4,5] ⟨6,7,37,(List.replicate 6 0#64).map U64⟩ [7,8] (bg O zv37 O)<|Lw 5 O O cg (aE _ _ _)<|Ca O (gy)<|Ca O (fD _ _ (aE _ _ _) eD)<|Mv O<|Ext O O<|Ext O O<|aa<|?_
   refine ⟨_,_,rfl,hGF,by intro x hx;simp only[List.mem_cons,List.not_mem_nil,or_false]at hx;subst hx;rfl,by intro x hx;simp only[List.mem_cons,List.not_mem_nil,or_false]at hx;subst hx;rfl,λadr=> ?_⟩
   refine Sw 7 hGF O O O cg (aB _ _ _)<|Asg O<|aa<|Xp<|Mv O<|Bnr (v:=.bool false) O O (λw=>(bu _ _ _).trans (congrArg (λb=>Result.ok (Value.bool b) w) (beq_eq_false_iff_ne.2 h0)))<|aa<|aw O<|aq<|Xp<|Lw 5 O O cg (aE _ _ _)<|cn O (aE _ _ _) underlying39 O sizeOf37 zv39 O O<|Sw 4 hGF O O O dh (aE _ _ _)<|aa<|ak<|Rr<|?_;exact au 4 O O O isAgg39 sizeOf39 (by rw[List.length_map];exact aE _ _ _) (λw hw=>⟨by rw[CT,if_neg (λh=>h0 h.2)],ac hw⟩)
 ·refine Xp<|Bx 2 hGF O<|λb2=>Bx 3 hGF O<|λb3=>Al 4 hGF zv39<|λb4=>aa<|Xp<|Fa 0 O underlying39 O sizeOf37<|Lw 2 O O cg ha<|Fa 0 O underlying39 O sizeOf37<|Lw 3 O O cg hb<|Ca O (jo _ _ ha hb)<|Mv O<|Ext O O<|Ext O O<|Al 5 hGF zv37<|λb5=>Sw 5 hGF O O O cg (aE _ _ _)<|Asg O<|aa<|ah<|Xp<|Ia (5) O O underlying37 sizeOf24<|Lm 5 U64 0 O O isAgg24 (by rw[aE _ _ _];omega)<|Bnr (v:=.bool false) O O (λw=>(fE _ _ 1873798617647539866#64).trans (congrArg (λb=>Result.ok (Value.bool b) w) (decide_eq_false h1)))<|aa<|aw O<|aq<|Xp<|Lw 5 O O cg (aE _ _ _)<|cn O (aE _ _ _) underlying39 O sizeOf37 zv39 O O<|Sw 4 hGF O O O dh (aE _ _ _)<|aa<|ak<|Rr<|?_
  exact au 4 O O O isAgg39 sizeOf39 (by rw[List.length_map];exact aE _ _ _) (λw hw=>⟨by rw[CT,if_neg (λh=>h1 h.1)],ac hw⟩)
def AB(t:L6)(c:BitVec 64):Nat->L6×BitVec 64
 |0=>(t.set 0 (ADC (t.getD 0 0) c 0).1,(ADC (t.getD 0 0) c 0).2)
 |j+1=>((AB t c j).1.set (j+1) (ADC ((AB t c j).1.getD (j+1) 0) 0 (AB t c j).2).1,(ADC ((AB t c j).1.getD (j+1) 0) 0 (AB t c j).2).2)
def WDs(bs:L8)(m:L6):Nat->L6
 |0=>List.replicate 6 0
 |i+1=>MOD (AB (MU (WDs bs m i) (256#64::List.replicate 5 0) 6) ((bs.getD i 0).setWidth 64) 11).1 m
theorem pd(bs:L8)(m:L6): ∀i,(WDs bs m i).length=6
 |0=>rfl
 |_+1=>pC _ _
theorem ent210:ai prog 210:=λ_ _=>kr
def dB(bs:L8)(i:Nat):BitVec 8:=(bs.getD (i / 8) 0>>>(7-i % 8)) &&& 1#8
def RP(a:L6)(bs:L8):Nat->L6
 |0=>ONE
 |i+1=>if dB bs i=1#8 then RM (RM (RP a bs i) (RP a bs i)) a else RM (RP a bs i) (RP a bs i)
theorem i9(a:L6)(bs:L8): ∀i,(RP a bs i).length=6
 |0=>rfl
 |i+1=>by
  unfold RP;split
  ·exact aY _ _
  ·exact aY _ _
theorem RE(a:L6)(bs:L8)(i:Nat)(h:dB bs i=1#8):RP a bs (i+1)=RM (RM (RP a bs i) (RP a bs i)) a:=by rw[RP,if_pos h]
theorem Qa(a:L6)(bs:L8)(i:Nat)(h: ¬dB bs i=1#8):RP a bs (i+1)=RM (RP a bs i) (RP a bs i):=by rw[RP,if_neg h]
theorem pW(a:L6)(ha:a.length=6)(e:Option Addr)(cap:Nat)(bs:L8)(hlen:bs.length<=4096)(w:World)(hw:Gt w)(hby:BytesAt w e bs):
 CLS 210 [aI (a),.slice e bs.length cap].toArray w (λr w'=>r=.returned (aI (RP a bs (8*bs.length)))/\Grow w w'):=by
 refine Hf func210 O hw<|λhGF=>Xp<|Bx 2 hGF O<|λb2=>Al 4 hGF zv39<|λb4=>aa<|Xp<|Ca O (Co)<|cn O (uI) underlying39 O sizeOf37 zv39 O O<|Al 5 hGF zv39<|λb5=>Sw 5 hGF O O O dh uI<|aa<|ah<|Xp<|Asg O<|aa<|am<|cb (ι:={i:Nat // i<=8*bs.length}) (λx=>[(1,.slice e bs.length cap),(2,pnt b2),(4,pnt b4),(5,pnt b5),(6,I (x.1:Int))]) (λx=>[(2,b2,a.map U64,39),(4,b4,(List.replicate 6 0#64).map U64,39),(5,b5,(RP a bs x.1).map U64,39)]) (λx=>8*bs.length-x.1) ⟨0,om⟩ hGF trv trv<|?_;rintro ⟨i,hi⟩;dsimp only;refine ah<|Xp<|Mv O<|Mv O<|bD O (λ_=>aV underlying22 _ _ _ _) O O<|Bnr (v:=I ((8*bs.length:Nat):Int)) O O (λ_=>(bJ _ _ _ oi).trans (by rw[show (8:Int)*(bs.length:Int)=((8*bs.length:Nat):Int) by omega]))<|Bnr O O (λ_=>aC _ _ _)<|aa<|?_
 refine bE O (λhc=> ?_) (λhc=> ?_)
 ·simp only[decide_eq_true_eq]at hc
  refine aq<|ah<|am<|Xp<|Lw 5 O O dh (i9 _ _ _)<|Lw 5 O O dh (i9 _ _ _)<|Ca O (nW _ _ (i9 _ _ _) (i9 _ _ _))<|aA 5 hGF O O O sizeOf39 (by rw[List.length_map,aY _ _]) (by rw[List.length_map,i9]) (bi _) O<|aa<|Xp<|Mv O<|Mv O<|Bnr (v:=I ((i / 8:Nat):Int)) O O (λ_=>go _ _ _ dc (show inI ((i / 8:Nat):Int) by unfold inI;omega))<|?_
  obtain ⟨ad,rfl,_⟩:=hby (i / 8) _ (gm U8 bs 0 (i / 8) om);refine ek (i / 8) O O underlying22 sizeOf5 O om O O<|bp O isAgg5 (λw' h=>by obtain ⟨ad',e,hc⟩:=(hby.grow (ac h)) (i / 8) _ (gm U8 bs 0 (i / 8) om);cases e;exact hc) O O<|Mv O<|Bnr (v:=I ((i % 8:Nat):Int)) O O (λ_=>d7 _ _ _ dc)<|Bnr (v:=I ((7-i % 8:Nat):Int)) O O (λ_=>(bf _ _ _ oi).trans (by rw[show ((7:Int)-((i % 8:Nat):Int))=((7-i % 8:Nat):Int) by omega]))<|Bnr (v:=U8 (bs.getD (i / 8) 0>>>(7-i % 8))) O O (λ_=>eM _ _ _ om)<|Bnr (v:=U8 (dB bs i)) O O (λ_=>bC _ _ 1#8)<|Bnr (v:=.bool (decide (dB bs i=1#8))) O O (λ_=>(cH _ _ 1#8).trans O)<|aa<|?_
  refine bE O (λhc=> ?_) (λhc=> ?_)
  ·simp only[decide_eq_true_eq]at hc
   have hq:=hc;refine Xq<|Lw 5 O O dh (aY _ _)<|Lw 2 O O dh ha<|Ca O (nW _ _ (aY _ _) ha)<|aA 5 hGF O O O sizeOf39 (by rw[List.length_map,aY _ _]) (by rw[List.length_map,aY _ _]) (bi _) O<|aa<|Xq<|Mv O<|Bnr O O (λ_=>az _ _ _ oi)<|Asg O<|aa<|?_
   repeat (refine aW ?_)
   exact aQ<|⟨rfl,⟨i+1,om⟩,_,by show 8*bs.length-(i+1)<8*bs.length-i;omega,rfl,trv,⟨rfl,rfl,by first|(rw[RE a bs i hq];rfl)|(rw[Qa a bs i hq];rfl),trivial⟩⟩
  ·simp only[decide_eq_false_iff_not]at hc
   have hq:=hc;refine aq<|Xq<|Mv O<|Bnr O O (λ_=>az _ _ _ oi)<|Asg O<|aa<|?_
   repeat (refine aW ?_)
   exact aQ<|⟨rfl,⟨i+1,om⟩,_,by show 8*bs.length-(i+1)<8*bs.length-i;omega,rfl,trv,⟨rfl,rfl,by first|(rw[RE a bs i hq];rfl)|(rw[Qa a bs i hq];rfl),trivial⟩⟩
 ·obtain rfl:i=8*bs.length:=by simp at hc;omega
  refine a6<|Xp<|Lw 5 O O dh (i9 _ _ _)<|Sw 4 hGF O O O dh (i9 _ _ _)<|aa<|ak<|Rr<|?_;exact au 4 O O O isAgg39 sizeOf39 (by rw[List.length_map,i9]) (λw hw=>⟨rfl,ac hw⟩)
theorem ent176:ai prog 176:=λ_ _=>kr
theorem w8(n i:Nat)(hn:n<=64):decide (0#64<BitVec.ofNat 64 (n-i))=decide (i<n):=by
 refine decide_eq_decide.2 ?_;rw[BitVec.lt_def];simp only[BitVec.toNat_ofNat];omega
theorem ya(n i:Nat)(_hn:n<=64)(hi:i<n):BitVec.ofNat 64 (n-i)-1#64=BitVec.ofNat 64 (n-(i+1)):=by
 apply BitVec.eq_of_toNat_eq;simp only[BitVec.toNat_sub,BitVec.toNat_ofNat];omega
def HLs(l:L6):Nat->L6
 |0=>l
 |k+1=>if k<5 then ((HLs l k).set k ((HLs l k).getD k 0>>>1)).set k (((HLs l k).set k ((HLs l k).getD k 0>>>1)).getD k 0|||((HLs l k).set k ((HLs l k).getD k 0>>>1)).getD (k+1) 0<<<63)else (HLs l k).set k ((HLs l k).getD k 0>>>1)
theorem sS(l:L6)(k:Nat)(h:k<5):HLs l (k+1)=((HLs l k).set k ((HLs l k).getD k 0>>>1)).set k (((HLs l k).set k ((HLs l k).getD k 0>>>1)).getD k 0|||((HLs l k).set k ((HLs l k).getD k 0>>>1)).getD (k+1) 0<<<63):=by rw[HLs,if_pos h]
theorem ss(l:L6)(k:Nat)(h: ¬k<5):HLs l (k+1)=(HLs l k).set k ((HLs l k).getD k 0>>>1):=by rw[HLs,if_neg h]
theorem du(l:L6): ∀k,(HLs l k).length=l.length
 |0=>rfl
 |k+1=>by
  unfold HLs;split
  ·rw[List.length_set,List.length_set,du l k]
  ·rw[List.length_set,du l k]
def HN(l:L6):Nat->L6
 |0=>l
 |i+1=>HLs (HN l i) 6
theorem cY(l:L6): ∀i,(HN l i).length=l.length
 |0=>rfl
 |i+1=>by rw[HN,du,cY l i]
theorem xu(w:World)(hw:Gt w):CLS 176 [I (-2),U64 0#64].toArray w (λe w'=> ∃b,e=.returned (.slice (spt b) 48 48)/\Grow w w'/\w.heap.size<=b/\OwnB w' b ((BYs (HN (SS PL (2#64::List.replicate 5 0) 6).1 0) 48).map U8) 29):=by
 refine Hf func176 O hw<|λhGF=>Xp<|Asg O<|aa<|Xp<|Ca O (gy)<|Al 5 hGF zv37<|λb5=>Sw 5 hGF O O O cg eD<|aa<|ah<|Xp<|Mv O<|Bnr (v:=.bool true) O O (λw=>aC _ (-2) 0)<|aa<|aL O<|Xq<|Lw 5 O O cg eD<|Mv O<|aU (v:=I 2) O (λ_=>wV (-2) oi) O O<|cu (v:=U64 2#64) O O (λ_=>(iB underlying2 underlying24 2).trans O) O O<|fH 2#64 O underlying37 sizeOf24 zv37 O O<|Ca O (fD PL (2#64::List.replicate 5 0) eD O)<|Mv O<|Ext O O<|Ext O O<|aA 5 hGF O O O sizeOf37 (by rw[List.length_map,aB _ _ _]) (by rw[List.length_map,eD]) (bi _) O<|aa<|ah<|am<|cb (ι:={i:Nat // i<=0}) (λx=>[(4,.slice none 0 0),(5,pnt b5),(1,U64 (BitVec.ofNat 64 (0-x.1)))]) (λx=>[(5,b5,(HN (SS PL (2#64::List.replicate 5 0) 6).1 x.1).map U64,37)]) (λx=>0-x.1) ⟨0,om⟩ hGF trv trv<|?_
 rintro ⟨i,hi⟩;dsimp only;refine ah<|Xp<|Mv O<|Bnr (v:=.bool (decide (i<0))) O O (λw=>(iP _ _ 0#64).trans (congrArg (λb=>Result.ok (Value.bool b) w) (w8 0 i dc)))<|aa<|?_;refine bE O (λhc=> ?_) (λhc=> ?_)
 ·simp only[decide_eq_true_eq]at hc
  refine aq<|ah<|am<|Xp<|Asg O<|aa<|am<|cb (ι:={i:Nat // i<=6}) (λx=>[(4,.slice none 0 0),(5,pnt b5),(1,U64 (BitVec.ofNat 64 (0-i))),(6,I (x.1:Int))]) (λx=>[(5,b5,(HLs (HN (SS PL (2#64::List.replicate 5 0) 6).1 i) x.1).map U64,37)]) (λx=>6-x.1) ⟨0,om⟩ hGF trv trv<|?_;rintro ⟨k,hk⟩;dsimp only;refine ah<|Xp<|Mv O<|Bnr O O (λ_=>aC _ _ _)<|aa<|?_;refine bE O (λhc=> ?_) (λhc=> ?_)
  ·simp only[decide_eq_true_eq]at hc
   refine aq<|ah<|am<|Xp<|Mv O<|Mv O<|Ia (k) O O underlying37 sizeOf24<|Lm 5 U64 0 O O isAgg24 (by rw[du,cY,aB];omega)<|Bnr O O (λ_=>cU _ _ 1#64)<|Ia (k) O O underlying37 sizeOf24<|bc 5 U64 hGF O O O sizeOf24 O (by rw[du,cY,aB];omega) O<|aa<|Xp<|Mv O<|Bnr O O (λ_=>aC _ _ _)<|aa<|?_
   refine bE O (λhc=> ?_) (λhc=> ?_)
   ·simp only[decide_eq_true_eq]at hc
    have hq:k<5:=om;refine Xe []<|Mv O<|Ia (k) O O underlying37 sizeOf24<|Lm 5 U64 0 O O isAgg24 (by rw[List.length_set,du,cY,aB];omega)<|Mv O<|Bnr O O (λ_=>az _ _ _ oi)<|Ia ((k+1)) O O underlying37 sizeOf24<|Lm 5 U64 0 O O isAgg24 (by rw[List.length_set,du,cY,aB];omega)<|Bnr O O (λ_=>kH _ _ 63#64)<|Bnr O O (λ_=>gi _ _ _)<|Ia (k) O O underlying37 sizeOf24<|bc 5 U64 hGF O O O sizeOf24 O (by rw[List.length_set,du,cY,aB];omega) O<|aa<|Xq<|Mv O<|Bnr O O (λ_=>az _ _ _ oi)<|Asg O<|aa<|?_
    repeat (refine aW ?_)
    exact aQ<|⟨rfl,⟨k+1,om⟩,_,by show 6-(k+1)<6-k;omega,rfl,trv,⟨by first|(rw[sS _ k hq];rfl)|(rw[ss _ k hq];rfl),trivial⟩⟩
   ·simp only[decide_eq_false_iff_not]at hc
    have hq: ¬k<5:=om;refine aq<|Xq<|Mv O<|Bnr O O (λ_=>az _ _ _ oi)<|Asg O<|aa<|?_
    repeat (refine aW ?_)
    exact aQ<|⟨rfl,⟨k+1,om⟩,_,by show 6-(k+1)<6-k;omega,rfl,trv,⟨by first|(rw[sS _ k hq];rfl)|(rw[ss _ k hq];rfl),trivial⟩⟩
  ·obtain rfl:k=6:=by simp at hc;omega
   refine a6<|Xq<|Mv O<|Bnr (v:=U64 (BitVec.ofNat 64 (0-(i+1)))) O O (λw=>(gM _ _ 1#64).trans (congrArg (λz=>Result.ok (U64 z) w) (ya 0 i dc om)))<|Asg O<|aa<|?_
   repeat (refine aW ?_)
   exact aQ<|⟨rfl,⟨i+1,om⟩,_,by show 0-(i+1)<0-i;omega,rfl,trv,trv⟩
 ·obtain rfl:i=0:=by simp at hc;omega
  refine a6<|Xp<|bO 5 O O isAgg37 sizeOf37 (by rw[List.length_map,cY,aB]) O O<|Ca O (gx _ (by rw[cY,aB]))<|Al 7 hGF zv29<|λb7=>Sx 7 hGF O O O rM (aJ _ _) (bL _)<|aa<|Xp<|bB (l:=0) (h':=48) O underlying29 sizeOf5 O O om om O O<|Asg O<|aa<|ak<|Rr<|?_
  exact aO O O (λw hw=>⟨b7,rfl,ac hw,(hw.own 7 b7 _ _ O).2.elim id False.elim,(hw.own 7 b7 _ _ O).1⟩)
theorem wY(w:World)(hw:Gt w):CLS 176 [I (-1),U64 1#64].toArray w (λe w'=> ∃b,e=.returned (.slice (spt b) 48 48)/\Grow w w'/\w.heap.size<=b/\OwnB w' b ((BYs (HN (SS PL (1#64::List.replicate 5 0) 6).1 1) 48).map U8) 29):=by
 refine Hf func176 O hw<|λhGF=>Xp<|Asg O<|aa<|Xp<|Ca O (gy)<|Al 5 hGF zv37<|λb5=>Sw 5 hGF O O O cg eD<|aa<|ah<|Xp<|Mv O<|Bnr (v:=.bool true) O O (λw=>aC _ (-1) 0)<|aa<|aL O<|Xq<|Lw 5 O O cg eD<|Mv O<|aU (v:=I 1) O (λ_=>wV (-1) oi) O O<|cu (v:=U64 1#64) O O (λ_=>(iB underlying2 underlying24 1).trans O) O O<|fH 1#64 O underlying37 sizeOf24 zv37 O O<|Ca O (fD PL (1#64::List.replicate 5 0) eD O)<|Mv O<|Ext O O<|Ext O O<|aA 5 hGF O O O sizeOf37 (by rw[List.length_map,aB _ _ _]) (by rw[List.length_map,eD]) (bi _) O<|aa<|ah<|am<|cb (ι:={i:Nat // i<=1}) (λx=>[(4,.slice none 0 0),(5,pnt b5),(1,U64 (BitVec.ofNat 64 (1-x.1)))]) (λx=>[(5,b5,(HN (SS PL (1#64::List.replicate 5 0) 6).1 x.1).map U64,37)]) (λx=>1-x.1) ⟨0,om⟩ hGF trv trv<|?_
 rintro ⟨i,hi⟩;dsimp only;refine ah<|Xp<|Mv O<|Bnr (v:=.bool (decide (i<1))) O O (λw=>(iP _ _ 0#64).trans (congrArg (λb=>Result.ok (Value.bool b) w) (w8 1 i dc)))<|aa<|?_;refine bE O (λhc=> ?_) (λhc=> ?_)
 ·simp only[decide_eq_true_eq]at hc
  refine aq<|ah<|am<|Xp<|Asg O<|aa<|am<|cb (ι:={i:Nat // i<=6}) (λx=>[(4,.slice none 0 0),(5,pnt b5),(1,U64 (BitVec.ofNat 64 (1-i))),(6,I (x.1:Int))]) (λx=>[(5,b5,(HLs (HN (SS PL (1#64::List.replicate 5 0) 6).1 i) x.1).map U64,37)]) (λx=>6-x.1) ⟨0,om⟩ hGF trv trv<|?_;rintro ⟨k,hk⟩;dsimp only;refine ah<|Xp<|Mv O<|Bnr O O (λ_=>aC _ _ _)<|aa<|?_;refine bE O (λhc=> ?_) (λhc=> ?_)
  ·simp only[decide_eq_true_eq]at hc
   refine aq<|ah<|am<|Xp<|Mv O<|Mv O<|Ia (k) O O underlying37 sizeOf24<|Lm 5 U64 0 O O isAgg24 (by rw[du,cY,aB];omega)<|Bnr O O (λ_=>cU _ _ 1#64)<|Ia (k) O O underlying37 sizeOf24<|bc 5 U64 hGF O O O sizeOf24 O (by rw[du,cY,aB];omega) O<|aa<|Xp<|Mv O<|Bnr O O (λ_=>aC _ _ _)<|aa<|?_
   refine bE O (λhc=> ?_) (λhc=> ?_)
   ·simp only[decide_eq_true_eq]at hc
    have hq:k<5:=om;refine Xe []<|Mv O<|Ia (k) O O underlying37 sizeOf24<|Lm 5 U64 0 O O isAgg24 (by rw[List.length_set,du,cY,aB];omega)<|Mv O<|Bnr O O (λ_=>az _ _ _ oi)<|Ia ((k+1)) O O underlying37 sizeOf24<|Lm 5 U64 0 O O isAgg24 (by rw[List.length_set,du,cY,aB];omega)<|Bnr O O (λ_=>kH _ _ 63#64)<|Bnr O O (λ_=>gi _ _ _)<|Ia (k) O O underlying37 sizeOf24<|bc 5 U64 hGF O O O sizeOf24 O (by rw[List.length_set,du,cY,aB];omega) O<|aa<|Xq<|Mv O<|Bnr O O (λ_=>az _ _ _ oi)<|Asg O<|aa<|?_
    repeat (refine aW ?_)
    exact aQ<|⟨rfl,⟨k+1,om⟩,_,by show 6-(k+1)<6-k;omega,rfl,trv,⟨by first|(rw[sS _ k hq];rfl)|(rw[ss _ k hq];rfl),trivial⟩⟩
   ·simp only[decide_eq_false_iff_not]at hc
    have hq: ¬k<5:=om;refine aq<|Xq<|Mv O<|Bnr O O (λ_=>az _ _ _ oi)<|Asg O<|aa<|?_
    repeat (refine aW ?_)
    exact aQ<|⟨rfl,⟨k+1,om⟩,_,by show 6-(k+1)<6-k;omega,rfl,trv,⟨by first|(rw[sS _ k hq];rfl)|(rw[ss _ k hq];rfl),trivial⟩⟩
  ·obtain rfl:k=6:=by simp at hc;omega
   refine a6<|Xq<|Mv O<|Bnr (v:=U64 (BitVec.ofNat 64 (1-(i+1)))) O O (λw=>(gM _ _ 1#64).trans (congrArg (λz=>Result.ok (U64 z) w) (ya 1 i dc om)))<|Asg O<|aa<|?_
   repeat (refine aW ?_)
   exact aQ<|⟨rfl,⟨i+1,om⟩,_,by show 1-(i+1)<1-i;omega,rfl,trv,trv⟩
 ·obtain rfl:i=1:=by simp at hc;omega
  refine a6<|Xp<|bO 5 O O isAgg37 sizeOf37 (by rw[List.length_map,cY,aB]) O O<|Ca O (gx _ (by rw[cY,aB]))<|Al 7 hGF zv29<|λb7=>Sx 7 hGF O O O rM (aJ _ _) (bL _)<|aa<|Xp<|bB (l:=0) (h':=48) O underlying29 sizeOf5 O O om om O O<|Asg O<|aa<|ak<|Rr<|?_
  exact aO O O (λw hw=>⟨b7,rfl,ac hw,(hw.own 7 b7 _ _ O).2.elim id False.elim,(hw.own 7 b7 _ _ O).1⟩)
theorem qx(w:World)(hw:Gt w):CLS 176 [I (1),U64 2#64].toArray w (λe w'=> ∃b,e=.returned (.slice (spt b) 48 48)/\Grow w w'/\w.heap.size<=b/\OwnB w' b ((BYs (HN (AS PL (1#64::List.replicate 5 0) 6).1 2) 48).map U8) 29):=by
 refine Hf func176 O hw<|λhGF=>Xp<|Asg O<|aa<|Xp<|Ca O (gy)<|Al 5 hGF zv37<|λb5=>Sw 5 hGF O O O cg eD<|aa<|ah<|Xp<|Mv O<|Bnr (v:=.bool false) O O (λw=>aC _ (1) 0)<|aa<|aw O<|Xq<|Lw 5 O O cg eD<|Mv O<|cu (v:=U64 1#64) O O (λ_=>(iB underlying2 underlying24 1).trans O) O O<|fH 1#64 O underlying37 sizeOf24 zv37 O O<|Ca O (jo PL (1#64::List.replicate 5 0) eD O)<|Mv O<|Ext O O<|Ext O O<|aA 5 hGF O O O sizeOf37 (by rw[List.length_map,aE _ _ _]) (by rw[List.length_map,eD]) (bi _) O<|aa<|ah<|am<|cb (ι:={i:Nat // i<=2}) (λx=>[(4,.slice none 0 0),(5,pnt b5),(1,U64 (BitVec.ofNat 64 (2-x.1)))]) (λx=>[(5,b5,(HN (AS PL (1#64::List.replicate 5 0) 6).1 x.1).map U64,37)]) (λx=>2-x.1) ⟨0,om⟩ hGF trv trv<|?_
 rintro ⟨i,hi⟩;dsimp only;refine ah<|Xp<|Mv O<|Bnr (v:=.bool (decide (i<2))) O O (λw=>(iP _ _ 0#64).trans (congrArg (λb=>Result.ok (Value.bool b) w) (w8 2 i dc)))<|aa<|?_;refine bE O (λhc=> ?_) (λhc=> ?_)
 ·simp only[decide_eq_true_eq]at hc
  refine aq<|ah<|am<|Xp<|Asg O<|aa<|am<|cb (ι:={i:Nat // i<=6}) (λx=>[(4,.slice none 0 0),(5,pnt b5),(1,U64 (BitVec.ofNat 64 (2-i))),(6,I (x.1:Int))]) (λx=>[(5,b5,(HLs (HN (AS PL (1#64::List.replicate 5 0) 6).1 i) x.1).map U64,37)]) (λx=>6-x.1) ⟨0,om⟩ hGF trv trv<|?_;rintro ⟨k,hk⟩;dsimp only;refine ah<|Xp<|Mv O<|Bnr O O (λ_=>aC _ _ _)<|aa<|?_;refine bE O (λhc=> ?_) (λhc=> ?_)
  ·simp only[decide_eq_true_eq]at hc
   refine aq<|ah<|am<|Xp<|Mv O<|Mv O<|Ia (k) O O underlying37 sizeOf24<|Lm 5 U64 0 O O isAgg24 (by rw[du,cY,aE];omega)<|Bnr O O (λ_=>cU _ _ 1#64)<|Ia (k) O O underlying37 sizeOf24<|bc 5 U64 hGF O O O sizeOf24 O (by rw[du,cY,aE];omega) O<|aa<|Xp<|Mv O<|Bnr O O (λ_=>aC _ _ _)<|aa<|?_
   refine bE O (λhc=> ?_) (λhc=> ?_)
   ·simp only[decide_eq_true_eq]at hc
    have hq:k<5:=om;refine Xe []<|Mv O<|Ia (k) O O underlying37 sizeOf24<|Lm 5 U64 0 O O isAgg24 (by rw[List.length_set,du,cY,aE];omega)<|Mv O<|Bnr O O (λ_=>az _ _ _ oi)<|Ia ((k+1)) O O underlying37 sizeOf24<|Lm 5 U64 0 O O isAgg24 (by rw[List.length_set,du,cY,aE];omega)<|Bnr O O (λ_=>kH _ _ 63#64)<|Bnr O O (λ_=>gi _ _ _)<|Ia (k) O O underlying37 sizeOf24<|bc 5 U64 hGF O O O sizeOf24 O (by rw[List.length_set,du,cY,aE];omega) O<|aa<|Xq<|Mv O<|Bnr O O (λ_=>az _ _ _ oi)<|Asg O<|aa<|?_
    repeat (refine aW ?_)
    exact aQ<|⟨rfl,⟨k+1,om⟩,_,by show 6-(k+1)<6-k;omega,rfl,trv,⟨by first|(rw[sS _ k hq];rfl)|(rw[ss _ k hq];rfl),trivial⟩⟩
   ·simp only[decide_eq_false_iff_not]at hc
    have hq: ¬k<5:=om;refine aq<|Xq<|Mv O<|Bnr O O (λ_=>az _ _ _ oi)<|Asg O<|aa<|?_
    repeat (refine aW ?_)
    exact aQ<|⟨rfl,⟨k+1,om⟩,_,by show 6-(k+1)<6-k;omega,rfl,trv,⟨by first|(rw[sS _ k hq];rfl)|(rw[ss _ k hq];rfl),trivial⟩⟩
  ·obtain rfl:k=6:=by simp at hc;omega
   refine a6<|Xq<|Mv O<|Bnr (v:=U64 (BitVec.ofNat 64 (2-(i+1)))) O O (λw=>(gM _ _ 1#64).trans (congrArg (λz=>Result.ok (U64 z) w) (ya 2 i dc om)))<|Asg O<|aa<|?_
   repeat (refine aW ?_)
   exact aQ<|⟨rfl,⟨i+1,om⟩,_,by show 2-(i+1)<2-i;omega,rfl,trv,trv⟩
 ·obtain rfl:i=2:=by simp at hc;omega
  refine a6<|Xp<|bO 5 O O isAgg37 sizeOf37 (by rw[List.length_map,cY,aE]) O O<|Ca O (gx _ (by rw[cY,aE]))<|Al 7 hGF zv29<|λb7=>Sx 7 hGF O O O rM (aJ _ _) (bL _)<|aa<|Xp<|bB (l:=0) (h':=48) O underlying29 sizeOf5 O O om om O O<|Asg O<|aa<|ak<|Rr<|?_
  exact aO O O (λw hw=>⟨b7,rfl,ac hw,(hw.own 7 b7 _ _ O).2.elim id False.elim,(hw.own 7 b7 _ _ O).1⟩)
theorem ent175:ai prog 175:=λ_ _=>kr
theorem ent115:ai prog 115:=λ_ _=>kr
def EX2:L8:=BYs (HN (SS PL (2#64::List.replicate 5 0) 6).1 0) 48
def EX1:L8:=BYs (HN (SS PL (1#64::List.replicate 5 0) 6).1 1) 48
def EX4:L8:=BYs (HN (AS PL (1#64::List.replicate 5 0) 6).1 2) 48
theorem Lv:EX2.length=48:=aJ _ _
theorem tF:EX1.length=48:=aJ _ _
theorem LW:EX4.length=48:=aJ _ _
theorem PC(a:L6)(ha:a.length=6)(b:Nat)(t:TypeId)(bs:L8)(h48:bs.length=48)(w:World)(hw:Gt w)(ho:OwnB w b (bs.map U8) t):
 CLS 210 [aI (a),.slice (spt b) 48 48].toArray w (λr w'=>r=.returned (aI (RP a bs 384))/\Grow w w'):=by
 have h:=pW a ha (spt b) 48 bs om w hw (BytesAt.range ho.range);rw[h48]at h;exact h
theorem JR(b:Nat)(t:TypeId)(bs:L8)(h48:bs.length=48)(w:World)(hw:Gt w)(ho:OwnB w b (bs.map U8) t):
 CLS 54 [.slice (spt b) 48 48].toArray w (λr w'=>r=.returned (.tuple #[aI (FRs bs 48),.bool true])/\Grow w w'):=by
 have h:=n8 (spt b) 48 bs w hw (BytesAt.range ho.range);rw[h48,if_neg dc]at h;exact h
theorem B7(a:L6)(ha:a.length=6):PUR 175 [aI (a)] (aI (RP a EX2 384)):=by
 intro w hw;refine Hf func175 O hw<|λhGF=>ae (E:=EE [176,2000176])<|Bx 1 hGF O<|λb1=>Al 2 hGF zv39<|λb2=>aa<|Xd [176,2000176]<|Lw 1 O O dh ha<|?_;refine bM O O ent176 O O (λw' hw'=>(xu w' (hGF.g _ _ _ hw')).mono λe w'' h=> ?_);obtain ⟨bm,rfl,hg,hb,hob⟩:=h;refine ⟨_,_,rfl,ay hGF,hw'.news ap hg [(4,bm,EX2.map U8,29)] ?_ bR,bN ap O, ?_⟩
 ·intro n' b' c' t' hl
  rcases aK hl with ⟨_,e⟩|⟨_,hl⟩
  ·cases e;exact ⟨hb,hob⟩
  ·cases hl
 clear hw' hg hb hob;refine Cc O ent210 (λw' hw' hG=>PC a ha bm _ EX2 Lv w' hG (hw'.own 4 _ _ _ O).1)<|Sw 2 hGF O O O dh (i9 _ _ _)<|aa<|ak<|Rr<|?_;exact au 2 O O O isAgg39 sizeOf39 (by rw[List.length_map,i9]) (λw hw=>⟨rfl,ac hw⟩)
theorem eqgF(op:BinOp)(x y:Operand)(xs ys:Array Value)(w:World):(eqGuard op 39 x y (.agg xs) (.agg ys)).run prog w=.ok () w:=run_eqGuard_agg w op 39 x y xs ys kr
theorem wK(a:L6)(ha:a.length=6):PUR 115 [aI (a)] (.bool (decide ((SS (FRs EX1 48) (RM a N1) 6).2=1))):=by
 intro w hw;refine Hf func115 O hw<|λhGF=>ae (E:=EE [176,2000176])<|Bx 1 hGF O<|λb1=>Asg O<|aa<|ae (E:=EE [176,2000176])<|?_;refine bM O O ent176 O O (λw' hw'=>(wY w' (hGF.g _ _ _ hw')).mono λe w'' h=> ?_);obtain ⟨bm,rfl,hg,hb,hob⟩:=h;refine ⟨_,_,rfl,ay hGF,hw'.news ap hg [(6,bm,EX1.map U8,29)] ?_ bR,bN ap O, ?_⟩
 ·intro n' b' c' t' hl
  rcases aK hl with ⟨_,e⟩|⟨_,hl⟩
  ·cases e;exact ⟨hb,hob⟩
  ·cases hl
 clear hw' hg hb hob;refine Cc O ent54 (λw' hw' hG=>JR bm _ EX1 tF w' hG (hw'.own 6 _ _ _ O).1)<|Mv O<|Ext O O<|Ext O O<|Al 3 hGF zv37<|λb3=>Sw 3 hGF O O O cg (aM _ _)<|Asg O<|aa<|Xd [176,2000176]<|Lw 3 O O cg (aM _ _)<|Lw 1 O O dh ha<|Ca O (tZ a ha)<|Ca O (jO _ _ (aM _ _) (aY _ _))<|Asg O<|aa<|ak<|Rr<|?_;exact aO O O (λw hw=>⟨rfl,ac hw⟩)
theorem pR(a:BitVec 64){P:Program}{w:World}:(Op.unary .neg (U64 a)).run P w=.ok (U64 (-a)) w:=by
 show (Op.intArith .sub .u64 0 (a.toNat:Int)).run P w=_;simp only[Op.intArith,Sem.run_pure];have h:=a.isLt;congr 2;simp only[BitVec.toNat_neg];congr 1;simp only[IntKind.wrap,IntKind.signed,IntKind.bits,Bool.false_and];simp;omega
theorem mA(n:BitVec 64):PUR 81 [U64 n] (U64 (IV n 5)):=by
 intro w hw;refine Hf func81 O hw<|λhGF=>Xp<|Asg O<|aa<|Xp<|Mv O<|Asg O<|aa<|ah<|Xp<|Mv O<|aa<|am<|cb (ι:={i:Nat // i<=5}) (λx=>[(0,U64 n),(2,U64 0),(3,U64 (IV n x.1)),(5,I (x.1:Int))]) (λx=>[]) (λx=>5-x.1) ⟨0,om⟩ hGF trv trivial<|?_;rintro ⟨i,hi⟩;dsimp only;refine Xp<|Bnr O O (λ_=>aC _ _ _)<|aa<|ah<|?_;refine bE O (λhc=> ?_) (λhc=> ?_)
 ·simp only[decide_eq_true_eq]at hc
  refine aq<|ah<|am<|Xq<|Mv O<|Mv O<|Mv O<|Bnr O O (λ_=>cK _ _ _)<|Bnr O O (λ_=>gM _ _ _)<|Bnr O O (λ_=>cK _ _ _)<|Asg O<|aa<|Xq<|Bnr O O (λ_=>az _ _ _ oi)<|Mv O<|aa<|?_
  repeat (refine aW ?_)
  exact aQ<|⟨rfl,⟨i+1,om⟩,_,by show 5-(i+1)<5-i;omega,rfl,trv,trivial⟩
 ·obtain rfl:i=5:=by simp at hc;omega
  refine a6<|Xp<|Mv O<|Asg O<|aa<|ak<|Rr<|?_;exact aO O O (λw hw=>⟨rfl,ac hw⟩)
theorem T0:(prog.info? 24).map (·.size)=some 1:=kr
theorem CW(a:L6)(h:a.length=6):lay 0 (a.map U64) ((List.replicate 12 0#64).map U64)=(a++List.replicate 6 0).map U64:=by
 rw[i6 _ _ _ (by simp[h])]
 simp[h]
theorem nK(a b m:L6)(ha:a.length=6)(hb:b.length=6)(hm:m.length=6):PUR 39 [aI (a),aI (b),aI (m)] (aI (mD a b m)):=by
 intro w hw;refine Hf func39 O hw ?_;intro hGF;by_cases h0:m.getD 0 0 % 2=0
 ·refine Xp<|Bx 3 hGF O<|λb3=>Bx 4 hGF O<|λb4=>Bx 5 hGF O<|λb5=>Al 6 hGF zv25<|λb6=>aa<|ah<|Xp<|Ia (0) O O underlying25 sizeOf24<|Lm 5 U64 0 O O isAgg24 (by rw[hm];omega)<|Bnr O O (λ_=>ew _ _ _ dc)<|Bnr (v:=.bool true) O O (λw=>(bu _ _ _).trans (congrArg (λb=>Result.ok (Value.bool b) w) (beq_iff_eq.2 h0)))<|aa<|aL O<|Xp<|fC zv25 underlying25 sizeOf24 O O<|Sw 6 hGF O O O bT List.length_replicate<|aa<|ak<|Rr<|?_
  exact au 6 O O O isAgg25 sizeOf25 (by rw[List.length_map,List.length_replicate]) (λw hw=>⟨by rw[mD,if_pos h0];rfl,ac hw⟩)
 cases h1:LT a m 6 with
 |true=>
  refine Xp<|Bx 3 hGF O<|λb3=>Bx 4 hGF O<|λb4=>Bx 5 hGF O<|λb5=>Al 6 hGF zv25<|λb6=>aa<|ah<|Xp<|Ia (0) O O underlying25 sizeOf24<|Lm 5 U64 0 O O isAgg24 (by rw[hm];omega)<|Bnr O O (λ_=>ew _ _ _ dc)<|Bnr (v:=.bool false) O O (λw=>(bu _ _ _).trans (congrArg (λb=>Result.ok (Value.bool b) w) (beq_eq_false_iff_ne.2 h0)))<|aa<|aw O<|aq<|ah<|Xp<|Lw 3 O O bT ha<|Lw 5 O O bT hm<|Ca O (ly a m ha hm)<|aU (v:=.bool false) O (λ_=>(aF _).trans (by rw[h1];rfl)) O O<|aa<|aw O<|aq<|Xp<|Ia (0) O O underlying25 sizeOf24<|Lm 5 U64 0 O O isAgg24 (by rw[hm];omega)<|Ca O (mA _)<|aU O (λ_=>pR _) O O<|Asg O<|?_
  generalize hcl: -(IV (m.getD 0 0) 5)=cl;refine aa<|Xp<|Al 9 hGF zv25<|λb9=>aa<|Xp<|Asg O<|aa<|ah<|Xp<|Lw 3 O O bT ha<|Mv O<|aa<|am<|cb (ι:={i:Nat // i<=6}) (λx=>[(4,pnt b4),(5,pnt b5),(6,pnt b6),(8,U64 cl),(9,pnt b9),(10,U64 (MO a b m cl x.1).2),(38,aI (a)),(39,I (x.1:Int))]) (λx=>[(4,b4,b.map U64,25),(5,b5,m.map U64,25),(6,b6,(List.replicate 6 0#64).map U64,25),(9,b9,(MO a b m cl x.1).1.map U64,25)]) (λx=>6-x.1) ⟨0,om⟩ hGF trv trv<|?_;rintro ⟨i,hi⟩;dsimp only;refine Xp<|Bnr O O (λ_=>aC _ _ _)<|aa<|ah<|?_;refine bE O (λhc=> ?_) (λhc=> ?_)
  ·simp only[decide_eq_true_eq]at hc
   refine aq<|ah<|am<|Xp<|jP U64 0 (i) O O underlying25 sizeOf24 isAgg24 om om (ha) O O<|Asg O<|aa<|Xp<|Asg O<|Asg O<|aa<|ah<|Xp<|Lw 4 O O bT hb<|Mv O<|aa<|am<|cb (ι:={i:Nat // i<=6}) (λx=>[(4,pnt b4),(5,pnt b5),(6,pnt b6),(8,U64 cl),(9,pnt b9),(10,U64 (MO a b m cl i).2),(38,aI (a)),(39,I (i:Int)),(12,U64 (a.getD i 0)),(13,U64 (MJ (a.getD i 0) b (MO a b m cl i).1 x.1).2),(14,U64 0),(42,aI (b)),(43,I (x.1:Int))]) (λx=>[(4,b4,b.map U64,25),(5,b5,m.map U64,25),(6,b6,(List.replicate 6 0#64).map U64,25),(9,b9,(MJ (a.getD i 0) b (MO a b m cl i).1 x.1).1.map U64,25)]) (λx=>6-x.1) ⟨0,om⟩ hGF trv trv<|?_;rintro ⟨j,hj⟩;dsimp only;refine Xp<|Bnr O O (λ_=>aC _ _ _)<|aa<|ah<|?_;refine bE O (λhc=> ?_) (λhc=> ?_)
   ·simp only[decide_eq_true_eq]at hc
    refine aq<|ah<|am<|Xp<|Mv O<|jP U64 0 (j) O O underlying25 sizeOf24 isAgg24 om om (hb) O O<|Asg O<|Asg O<|aa<|Xq<|Mv O<|Mv O<|Mv O<|Mv O<|Ia (j) O O underlying25 sizeOf24<|Lm 9 U64 0 O O isAgg24 (by rw[kC,ee];omega)<|Mv O<|Ca O (fw _ _ _ _)<|Mv O<|Ext O O<|Ext O O<|Ia (j) O O underlying25 sizeOf24<|bc 9 U64 hGF O O O sizeOf24 O (by rw[kC,ee];omega) O<|Asg O<|aa<|Xq<|Bnr O O (λ_=>az _ _ _ oi)<|Mv O<|aa<|?_
    repeat (refine aW ?_)
    exact aQ<|⟨rfl,⟨j+1,om⟩,_,by show 6-(j+1)<6-j;omega,rfl,trv,trv⟩
   ·obtain rfl:j=6:=by simp at hc;omega
    generalize hS:MJ (a.getD i 0) b (MO a b m cl i).1 6=S1;have hSl:S1.1.length=6:=by rw[<-hS,kC,ee]
    refine a6<|Xp<|Mv O<|Mv O<|bS O O (λw=>fy _ _ _ dc w) O O<|Mv O<|Ext O O<|Ext O O<|Asg O<|Asg O<|aa<|Xp<|Ia (0) O O underlying25 sizeOf24<|Lm 9 U64 0 O O isAgg24 (by rw[hSl];omega)<|Mv O<|Bnr O O (λ_=>cK _ _ _)<|Asg O<|aa<|Xp<|Mv O<|Ia (0) O O underlying25 sizeOf24<|Lm 5 U64 0 O O isAgg24 (by rw[hm];omega)<|Ia (0) O O underlying25 sizeOf24<|Lm 9 U64 0 O O isAgg24 (by rw[hSl];omega)<|Ca O (fw _ _ _ _)<|Mv O<|Ext O O<|Ext O O<|Asg O<|aa<|ah<|Xp<|Asg O<|aa<|am<|cb (ι:={i:Nat // i<=5}) (λx=>[(4,pnt b4),(5,pnt b5),(6,pnt b6),(8,U64 cl),(9,pnt b9),(10,U64 (ADC (MO a b m cl i).2 S1.2 0).1),(38,aI (a)),(39,I (i:Int)),(14,U64 (ADC (MO a b m cl i).2 S1.2 0).2),(17,U64 (S1.1.getD 0 0*cl)),(13,U64 (MR (S1.1.getD 0 0*cl) m S1.1 x.1).2),(18,I ((x.1+1:Nat):Int))]) (λx=>[(4,b4,b.map U64,25),(5,b5,m.map U64,25),(6,b6,(List.replicate 6 0#64).map U64,25),(9,b9,(MR (S1.1.getD 0 0*cl) m S1.1 x.1).1.map U64,25)]) (λx=>5-x.1) ⟨0,om⟩ hGF trv trv<|?_
    rintro ⟨r,hr⟩;dsimp only;refine ah<|Xp<|Mv O<|Bnr O O (λ_=>aC _ _ _)<|aa<|?_;refine bE O (λhc=> ?_) (λhc=> ?_)
    ·simp only[decide_eq_true_eq]at hc
     refine aq<|ah<|am<|Xe []<|Mv O<|Bnr (v:=I (r:Int)) O O (λ_=>(bf _ _ _ oi).trans (by rw[show (((r+1:Nat):Int)-1)=(r:Int) by omega]))<|Mv O<|Mv O<|Ia ((r+1)) O O underlying25 sizeOf24<|Lm 5 U64 0 O O isAgg24 (by rw[hm];omega)<|Mv O<|Ia ((r+1)) O O underlying25 sizeOf24<|Lm 9 U64 0 O O isAgg24 (by rw[i3,hSl];omega)<|Mv O<|Ca O (fw _ _ _ _)<|Mv O<|Ext O O<|Ext O O<|Ia (r) O O underlying25 sizeOf24<|bc 9 U64 hGF O O O sizeOf24 O (by rw[i3,hSl];omega) O<|Asg O<|aa<|Xq<|Mv O<|Bnr O O (λ_=>az _ _ _ oi)<|Asg O<|aa<|?_
     repeat (refine aW ?_)
     exact aQ<|⟨rfl,⟨r+1,om⟩,_,by show 5-(r+1)<5-r;omega,rfl,trv,trv⟩
    ·obtain rfl:r=5:=by simp at hc;omega
     generalize hM:MR (S1.1.getD 0 0*cl) m S1.1 5=R1;have hRl:R1.1.length=6:=by rw[<-hM,i3,hSl]
     refine a6<|Xp<|Mv O<|Mv O<|bS O O (λw=>fy _ _ _ dc w) O O<|Mv O<|Ext O O<|Ext O O<|Ia (5) O O underlying25 sizeOf24<|bc 9 U64 hGF O O O sizeOf24 O (by rw[hRl];omega) O<|Asg O<|aa<|Xq<|Mv O<|Mv O<|Bnr O O (λ_=>a8 _ _ _)<|Asg O<|aa<|Xq<|Bnr O O (λ_=>az _ _ _ oi)<|Mv O<|aa<|?_
     repeat (refine aW ?_)
     exact aQ<|⟨rfl,⟨i+1,om⟩,_,by show 6-(i+1)<6-i;omega,rfl,⟨rfl,rfl,rfl,rfl,rfl,by rw[pg a b m cl i hS hM];rfl,rfl,rfl,trivial⟩,⟨rfl,rfl,rfl,by rw[pg a b m cl i hS hM];rfl,trivial⟩⟩
  ·obtain rfl:i=6:=by simp at hc;omega
   refine a6<|Xp<|Lw 9 O O bT (ee _ _ _ _ _)<|Mv O<|Lw 5 O O bT hm<|Ca O (rp _ _ _ (ee _ _ _ _ _) hm)<|Sw 6 hGF O O O bT (ki _ _ _ (ee _ _ _ _ _))<|aa<|ak<|Rr<|?_;exact au 6 O O O isAgg25 sizeOf25 (by rw[List.length_map];exact ki _ _ _ (ee _ _ _ _ _)) (λw hw=>⟨by rw[mD,if_neg h0,if_pos h1,MN,hcl],ac hw⟩)
 |false=>
  refine Xp<|Bx 3 hGF O<|λb3=>Bx 4 hGF O<|λb4=>Bx 5 hGF O<|λb5=>Al 6 hGF zv25<|λb6=>aa<|ah<|Xp<|Ia (0) O O underlying25 sizeOf24<|Lm 5 U64 0 O O isAgg24 (by rw[hm];omega)<|Bnr O O (λ_=>ew _ _ _ dc)<|Bnr (v:=.bool false) O O (λw=>(bu _ _ _).trans (congrArg (λb=>Result.ok (Value.bool b) w) (beq_eq_false_iff_ne.2 h0)))<|aa<|aw O<|aq<|ah<|Xp<|Lw 3 O O bT ha<|Lw 5 O O bT hm<|Ca O (ly a m ha hm)<|aU (v:=.bool true) O (λ_=>(aF _).trans (by rw[h1];rfl)) O O<|aa<|aL O<|Xp<|Al 7 hGF zv142<|λb7=>aa<|Xd []<|bB (l:=0) (h':=12) O underlying142 sizeOf24 O O om om O O<|bB (l:=0) (h':=6) O underlying25 sizeOf24 O O om om O O<|AF (cs:=a.map U64) 7 hGF O O O underlying67 T0 (by rw[List.length_map,ha];rfl) (λw' h j v hv=>by rw[Addr.add_mid];exact aX (n:=3) O w' h j v hv) (bi _) (by rw[List.length_map,List.length_map,ha];decide) O O<|?_
  rw[CW a ha];refine aa<|Xq<|bO 7 O O isAgg142 sizeOf142 (by rw[List.length_map,List.length_append,ha,List.length_replicate]) O O<|Lw 5 O O bT hm<|Ca O (GH (a++List.replicate 6 0) m (by rw[List.length_append,ha];rfl) hm)<|aA 3 hGF O O O sizeOf25 (by rw[List.length_map,pC _ _]) (by rw[List.length_map,ha]) (bi _) O<|aa<|Xp<|Ia (0) O O underlying25 sizeOf24<|Lm 5 U64 0 O O isAgg24 (by rw[hm];omega)<|Ca O (mA _)<|aU O (λ_=>pR _) O O<|Asg O<|?_
  generalize hcl: -(IV (m.getD 0 0) 5)=cl;refine aa<|Xp<|Al 9 hGF zv25<|λb9=>aa<|Xp<|Asg O<|aa<|ah<|Xp<|Lw 3 O O bT (pC _ _)<|Mv O<|aa<|am<|cb (ι:={i:Nat // i<=6}) (λx=>[(4,pnt b4),(5,pnt b5),(6,pnt b6),(8,U64 cl),(9,pnt b9),(10,U64 (MO (MOD (a++List.replicate 6 0) m) b m cl x.1).2),(38,aI ((MOD (a++List.replicate 6 0) m))),(39,I (x.1:Int))]) (λx=>[(4,b4,b.map U64,25),(5,b5,m.map U64,25),(6,b6,(List.replicate 6 0#64).map U64,25),(9,b9,(MO (MOD (a++List.replicate 6 0) m) b m cl x.1).1.map U64,25)]) (λx=>6-x.1) ⟨0,om⟩ hGF trv trv<|?_;rintro ⟨i,hi⟩;dsimp only;refine Xp<|Bnr O O (λ_=>aC _ _ _)<|aa<|ah<|?_;refine bE O (λhc=> ?_) (λhc=> ?_)
  ·simp only[decide_eq_true_eq]at hc
   refine aq<|ah<|am<|Xp<|jP U64 0 (i) O O underlying25 sizeOf24 isAgg24 om om (pC _ _) O O<|Asg O<|aa<|Xp<|Asg O<|Asg O<|aa<|ah<|Xp<|Lw 4 O O bT hb<|Mv O<|aa<|am<|cb (ι:={i:Nat // i<=6}) (λx=>[(4,pnt b4),(5,pnt b5),(6,pnt b6),(8,U64 cl),(9,pnt b9),(10,U64 (MO (MOD (a++List.replicate 6 0) m) b m cl i).2),(38,aI ((MOD (a++List.replicate 6 0) m))),(39,I (i:Int)),(12,U64 ((MOD (a++List.replicate 6 0) m).getD i 0)),(13,U64 (MJ ((MOD (a++List.replicate 6 0) m).getD i 0) b (MO (MOD (a++List.replicate 6 0) m) b m cl i).1 x.1).2),(14,U64 0),(42,aI (b)),(43,I (x.1:Int))]) (λx=>[(4,b4,b.map U64,25),(5,b5,m.map U64,25),(6,b6,(List.replicate 6 0#64).map U64,25),(9,b9,(MJ ((MOD (a++List.replicate 6 0) m).getD i 0) b (MO (MOD (a++List.replicate 6 0) m) b m cl i).1 x.1).1.map U64,25)]) (λx=>6-x.1) ⟨0,om⟩ hGF trv trv<|?_;rintro ⟨j,hj⟩;dsimp only;refine Xp<|Bnr O O (λ_=>aC _ _ _)<|aa<|ah<|?_;refine bE O (λhc=> ?_) (λhc=> ?_)
   ·simp only[decide_eq_true_eq]at hc
    refine aq<|ah<|am<|Xp<|Mv O<|jP U64 0 (j) O O underlying25 sizeOf24 isAgg24 om om (hb) O O<|Asg O<|Asg O<|aa<|Xq<|Mv O<|Mv O<|Mv O<|Mv O<|Ia (j) O O underlying25 sizeOf24<|Lm 9 U64 0 O O isAgg24 (by rw[kC,ee];omega)<|Mv O<|Ca O (fw _ _ _ _)<|Mv O<|Ext O O<|Ext O O<|Ia (j) O O underlying25 sizeOf24<|bc 9 U64 hGF O O O sizeOf24 O (by rw[kC,ee];omega) O<|Asg O<|aa<|Xq<|Bnr O O (λ_=>az _ _ _ oi)<|Mv O<|aa<|?_
    repeat (refine aW ?_)
    exact aQ<|⟨rfl,⟨j+1,om⟩,_,by show 6-(j+1)<6-j;omega,rfl,trv,trv⟩
   ·obtain rfl:j=6:=by simp at hc;omega
    generalize hS:MJ ((MOD (a++List.replicate 6 0) m).getD i 0) b (MO (MOD (a++List.replicate 6 0) m) b m cl i).1 6=S1;have hSl:S1.1.length=6:=by rw[<-hS,kC,ee]
    refine a6<|Xp<|Mv O<|Mv O<|bS O O (λw=>fy _ _ _ dc w) O O<|Mv O<|Ext O O<|Ext O O<|Asg O<|Asg O<|aa<|Xp<|Ia (0) O O underlying25 sizeOf24<|Lm 9 U64 0 O O isAgg24 (by rw[hSl];omega)<|Mv O<|Bnr O O (λ_=>cK _ _ _)<|Asg O<|aa<|Xp<|Mv O<|Ia (0) O O underlying25 sizeOf24<|Lm 5 U64 0 O O isAgg24 (by rw[hm];omega)<|Ia (0) O O underlying25 sizeOf24<|Lm 9 U64 0 O O isAgg24 (by rw[hSl];omega)<|Ca O (fw _ _ _ _)<|Mv O<|Ext O O<|Ext O O<|Asg O<|aa<|ah<|Xp<|Asg O<|aa<|am<|cb (ι:={i:Nat // i<=5}) (λx=>[(4,pnt b4),(5,pnt b5),(6,pnt b6),(8,U64 cl),(9,pnt b9),(10,U64 (ADC (MO (MOD (a++List.replicate 6 0) m) b m cl i).2 S1.2 0).1),(38,aI ((MOD (a++List.replicate 6 0) m))),(39,I (i:Int)),(14,U64 (ADC (MO (MOD (a++List.replicate 6 0) m) b m cl i).2 S1.2 0).2),(17,U64 (S1.1.getD 0 0*cl)),(13,U64 (MR (S1.1.getD 0 0*cl) m S1.1 x.1).2),(18,I ((x.1+1:Nat):Int))]) (λx=>[(4,b4,b.map U64,25),(5,b5,m.map U64,25),(6,b6,(List.replicate 6 0#64).map U64,25),(9,b9,(MR (S1.1.getD 0 0*cl) m S1.1 x.1).1.map U64,25)]) (λx=>5-x.1) ⟨0,om⟩ hGF trv trv<|?_
    rintro ⟨r,hr⟩;dsimp only;refine ah<|Xp<|Mv O<|Bnr O O (λ_=>aC _ _ _)<|aa<|?_;refine bE O (λhc=> ?_) (λhc=> ?_)
    ·simp only[decide_eq_true_eq]at hc
     refine aq<|ah<|am<|Xe []<|Mv O<|Bnr (v:=I (r:Int)) O O (λ_=>(bf _ _ _ oi).trans (by rw[show (((r+1:Nat):Int)-1)=(r:Int) by omega]))<|Mv O<|Mv O<|Ia ((r+1)) O O underlying25 sizeOf24<|Lm 5 U64 0 O O isAgg24 (by rw[hm];omega)<|Mv O<|Ia ((r+1)) O O underlying25 sizeOf24<|Lm 9 U64 0 O O isAgg24 (by rw[i3,hSl];omega)<|Mv O<|Ca O (fw _ _ _ _)<|Mv O<|Ext O O<|Ext O O<|Ia (r) O O underlying25 sizeOf24<|bc 9 U64 hGF O O O sizeOf24 O (by rw[i3,hSl];omega) O<|Asg O<|aa<|Xq<|Mv O<|Bnr O O (λ_=>az _ _ _ oi)<|Asg O<|aa<|?_
     repeat (refine aW ?_)
     exact aQ<|⟨rfl,⟨r+1,om⟩,_,by show 5-(r+1)<5-r;omega,rfl,trv,trv⟩
    ·obtain rfl:r=5:=by simp at hc;omega
     generalize hM:MR (S1.1.getD 0 0*cl) m S1.1 5=R1;have hRl:R1.1.length=6:=by rw[<-hM,i3,hSl]
     refine a6<|Xp<|Mv O<|Mv O<|bS O O (λw=>fy _ _ _ dc w) O O<|Mv O<|Ext O O<|Ext O O<|Ia (5) O O underlying25 sizeOf24<|bc 9 U64 hGF O O O sizeOf24 O (by rw[hRl];omega) O<|Asg O<|aa<|Xq<|Mv O<|Mv O<|Bnr O O (λ_=>a8 _ _ _)<|Asg O<|aa<|Xq<|Bnr O O (λ_=>az _ _ _ oi)<|Mv O<|aa<|?_
     repeat (refine aW ?_)
     exact aQ<|⟨rfl,⟨i+1,om⟩,_,by show 6-(i+1)<6-i;omega,rfl,⟨rfl,rfl,rfl,rfl,rfl,by rw[pg (MOD (a++List.replicate 6 0) m) b m cl i hS hM];rfl,rfl,rfl,trivial⟩,⟨rfl,rfl,rfl,by rw[pg (MOD (a++List.replicate 6 0) m) b m cl i hS hM];rfl,trivial⟩⟩
  ·obtain rfl:i=6:=by simp at hc;omega
   refine a6<|Xp<|Lw 9 O O bT (ee _ _ _ _ _)<|Mv O<|Lw 5 O O bT hm<|Ca O (rp _ _ _ (ee _ _ _ _ _) hm)<|Sw 6 hGF O O O bT (ki _ _ _ (ee _ _ _ _ _))<|aa<|ak<|Rr<|?_;exact au 6 O O O isAgg25 sizeOf25 (by rw[List.length_map];exact ki _ _ _ (ee _ _ _ _ _)) (λw hw=>⟨by rw[mD,if_neg h0,if_neg (by rw[h1];decide),MN,hcl],ac hw⟩)
section
theorem PLl:PL.length=6:=rfl
theorem cB:TWO.length=6:=rfl
theorem cz:ONE.length=6:=rfl
theorem N1l:N1.length=6:=rfl
theorem cD:IVP.length=6:=rfl
theorem cC:HFP.length=6:=rfl
theorem cE:RTP.length=6:=rfl
attribute [local simp] PLl cB cz N1l cD cC cE
abbrev EV(x:Zp):Value:=aI (fe x)
abbrev NV(n:L6):Value:=aI n
theorem zv52(w:World):(zeroValue 52).run prog w=.ok (aI (List.replicate 6 (0#64))) w:=(zeroValue52 w).trans rr
theorem Mi(op:BinOp)(x y:Operand)(xs ys:Array Value)(w:World):(eqGuard op 25 x y (.agg xs) (.agg ys)).run prog w=.ok () w:=run_eqGuard_agg w op 25 x y xs ys kr
theorem NN(xs ys:L6)(h:xs.length=6)(h':ys.length=6)(w:World):(binOp .eql 25 (aI xs) (aI ys)).run prog w=.ok (.bool (decide (xs=ys))) w:=pN underlying25 underlying24 sizeOf24 isAgg24 xs ys h h' w
theorem gt(x y:Zp):decide (fe x=fe y)=decide (x=y):=decide_eq_decide.2 xD
theorem Nu{x y:BitVec 64}(h:(x==y)=true):x=y:=beq_iff_eq.1 h
theorem Mf{x y:BitVec 64}(h:(x==y)=false): ¬x=y:=beq_eq_false_iff_ne.1 h
theorem ent140:ai prog 140:=λ_ _=>kr
theorem ent90:ai prog 90:=λ_ _=>kr
theorem ent262:ai prog 262:=λ_ _=>kr
theorem ent209:ai prog 209:=λ_ _=>kr
theorem ent63:ai prog 63:=λ_ _=>kr
theorem ent201:ai prog 201:=λ_ _=>kr
theorem ent191:ai prog 191:=λ_ _=>kr
theorem ent173:ai prog 173:=λ_ _=>kr
theorem ent137:ai prog 137:=λ_ _=>kr
theorem ent136:ai prog 136:=λ_ _=>kr
theorem ent135:ai prog 135:=λ_ _=>kr
theorem ent226:ai prog 226:=λ_ _=>kr
theorem ent258:ai prog 258:=λ_ _=>kr
theorem ent172:ai prog 172:=λ_ _=>kr
theorem ent289:ai prog 289:=λ_ _=>kr
theorem ent89:ai prog 89:=λ_ _=>kr
theorem ij(x y:Zp):PUR 137 [EV x,EV y] (EV (x*y)):=by
 intro w hw;refine Hf func137 O hw<|λhGF=>Xp<|Bx 2 hGF O<|λb2=>Bx 3 hGF O<|λb3=>Al 4 hGF zv52<|λb4=>aa<|Xp<|Fa 0 O underlying52 O sizeOf25<|La 2 O O bT<|Fa 0 O underlying52 O sizeOf25<|La 3 O O bT<|kv hGF isAgg25 sizeOf25 sm (λ_ h=>h.g3) O O<|Ca O (nK _ _ _ sm sm sm)<|cn O sm underlying52 O sizeOf25 zv52 O O<|Sa 4 hGF O O O bq<|aa<|ak<|Rr<|?_;exact au 4 O O O isAgg52 sizeOf52 sm (λw hw=>⟨by rw[KP],ac hw⟩)
theorem mc(n:L6)(hn:n.length=6):PUR 139 [NV n] (EV (zp (V n 6))):=by
 intro w hw;refine Hf func139 O hw<|λhGF=>Xp<|Bx 1 hGF O<|λb1=>Al 2 hGF zv52<|λb2=>aa<|Xp<|kv hGF isAgg25 sizeOf25 (by first|(simp;done)|simp[hn]) (λ_ h=>h.g5) O O<|bO 1 O O isAgg25 sizeOf25 (by first|(simp;done)|simp[hn]) O O<|kv hGF isAgg25 sizeOf25 (by first|(simp;done)|simp[hn]) (λ_ h=>h.g3) O O<|Ca O (nK _ _ _ (by first|(simp;done)|simp[hn]) (by first|(simp;done)|simp[hn]) (by first|(simp;done)|simp[hn]))<|cn O (by first|(simp;done)|simp[hn]) underlying52 O sizeOf25 zv52 O O<|aA 2 hGF O O O sizeOf52 (by first|(simp;done)|simp[hn]) (by first|(simp;done)|simp[hn]) (bi _) O<|aa<|ak<|Rr<|?_
 exact au 2 O O O isAgg52 sizeOf52 (by first|(simp;done)|simp[hn]) (λw hw=>⟨by rw[Ft],ac hw⟩)
theorem jV(x:Zp):PUR 138 [EV x] (NV (nm x)):=by
 intro w hw;refine Hf func138 O hw<|λhGF=>Xp<|Bx 1 hGF O<|λb1=>Al 2 hGF zv25<|λb2=>aa<|Xp<|Fa 0 O underlying52 O sizeOf25<|La 1 O O bT<|fH 1 O underlying25 sizeOf24 zv25 O O<|kv hGF isAgg25 sizeOf25 sm (λ_ h=>h.g3) O O<|Ca O (nK _ _ _ sm sm sm)<|Sa 2 hGF O O O bT<|aa<|ak<|Rr<|?_;exact au 2 O O O isAgg25 sizeOf25 sm (λw hw=>⟨by rw[<-Iq];rfl,ac hw⟩)
theorem AZ(n:BitVec 64): ∀k,V (n::List.replicate 5 0) (k+1)=n.toNat
 |0=>by rw[qT,V,Nat.mul_zero,Nat.pow_zero,Nat.mul_one,Nat.zero_add];rfl
 |k+1=>by
  have h0:(n::List.replicate 5 (0:BitVec 64)).getD (k+1) 0=0:=by
   rw[List.getD_eq_getElem?_getD,List.getElem?_cons_succ,List.getElem?_replicate];split<;>rfl
  rw[qT,AZ n k,h0,show (0:BitVec 64).toNat=0 from O,Nat.zero_mul,Nat.add_zero]
theorem tP(n:BitVec 64):V (n::List.replicate 5 0) 6=n.toNat:=AZ n 5
theorem dV(n:BitVec 64):PUR 140 [U64 n] (EV (zp n.toNat)):=by
 intro w hw;refine Hf func140 O hw<|λhGF=>Xp<|Al 2 hGF zv52<|λb2=>aa<|Xp<|Mv O<|fH n O underlying25 sizeOf24 zv25 O O<|Ca O (mc _ sm)<|Sa 2 hGF O O O bq<|aa<|ak<|Rr<|?_;exact au 2 O O O isAgg52 sizeOf52 sm (λw hw=>⟨by rw[tP],ac hw⟩)
theorem oh(x y:Zp):PUR 209 [EV x,EV y] (.bool (decide (x=y))):=by
 intro w hw;refine Hf func209 O hw<|λhGF=>Xp<|Bx 2 hGF O<|λb2=>Bx 3 hGF O<|λb3=>Asg O<|aa<|Xp<|Fa 0 O underlying52 O sizeOf25<|La 2 O O bT<|Fa 0 O underlying52 O sizeOf25<|La 3 O O bT<|de O O (λ_=>Mi _ _ _ _ _ _) (λw=>NN _ _ sm sm w) O O<|Asg O<|aa<|ak<|Rr<|?_;exact aO O O (λw hw=>⟨by rw[gt],ac hw⟩)
theorem tW(x:Zp):PUR 63 [EV x] (.bool (decide (x=0))):=by
 intro w hw;refine Hf func63 O hw<|λhGF=>Xp<|Bx 1 hGF O<|λb1=>Asg O<|aa<|Xp<|Fa 0 O underlying52 O sizeOf25<|La 1 O O bT<|fC zv25 underlying25 sizeOf24 O O<|de O O (λ_=>Mi _ _ _ _ _ _) (λw=>NN _ _ sm sm w) O O<|Asg O<|aa<|ak<|Rr<|?_;exact aO O O (λw hw=>⟨by rw[<-iZ,gt],ac hw⟩)
theorem sn(x y:Zp):PUR 201 [EV x,EV y] (EV (x+y)):=by
 intro w hw;refine Hf func201 O hw<|λhGF=>Xp<|Bx 2 hGF O<|λb2=>Bx 3 hGF O<|λb3=>Al 4 hGF zv52<|λb4=>aa<|Xp<|Fa 0 O underlying52 O sizeOf25<|La 2 O O bT<|Fa 0 O underlying52 O sizeOf25<|La 3 O O bT<|Ca O (mO _ _ sm sm)<|Mv O<|Ext O O<|Ext O O<|Al 5 hGF zv25<|λb5=>Sa 5 hGF O O O bT<|Asg O<|aa<|Xp<|La 5 O O bT<|kv hGF isAgg25 sizeOf25 sm (λ_ h=>h.g3) O O<|Ca O (jw _ _ sm sm)<|Mv O<|Ext O O<|Ext O O<|Al 7 hGF zv25<|λb7=>Sa 7 hGF O O O bT<|Asg O<|aa<|ah<|Xp<|Mv O<|Bnr O O (λ_=>bu _ _ _)<|aa<|?_;refine bE O (λhc=> ?_) (λhc=> ?_)
 ·refine Xp<|La 5 O O bT<|cn O sm underlying52 O sizeOf25 zv52 O O<|Sa 4 hGF O O O bq<|aa<|ak<|Rr<|?_
  exact au 4 O O O isAgg52 sizeOf52 sm (λw hw=>⟨by rw[zw (H3 (Nu hc))],ac hw⟩)
 ·refine aq<|Xp<|La 7 O O bT<|cn O sm underlying52 O sizeOf25 zv52 O O<|Sa 4 hGF O O O bq<|aa<|ak<|Rr<|?_
  exact au 4 O O O isAgg52 sizeOf52 sm (λw hw=>⟨by rw[vr (tE (qA _ _ _) (Mf hc))],ac hw⟩)
theorem nI(x y:Zp):PUR 191 [EV x,EV y] (EV (x-y)):=by
 intro w hw;refine Hf func191 O hw<|λhGF=>Xp<|Bx 2 hGF O<|λb2=>Bx 3 hGF O<|λb3=>Al 4 hGF zv52<|λb4=>aa<|Xp<|Fa 0 O underlying52 O sizeOf25<|La 2 O O bT<|Fa 0 O underlying52 O sizeOf25<|La 3 O O bT<|Ca O (jw _ _ sm sm)<|Mv O<|Ext O O<|Ext O O<|Al 5 hGF zv25<|λb5=>Sa 5 hGF O O O bT<|Asg O<|aa<|ah<|Xp<|Mv O<|Bnr O O (λ_=>bu _ _ _)<|aa<|?_;refine bE O (λhc=> ?_) (λhc=> ?_)
 ·refine Xq<|La 5 O O bT<|kv hGF isAgg25 sizeOf25 sm (λ_ h=>h.g3) O O<|Ca O (mO _ _ sm sm)<|Mv O<|Ext O O<|Ext O O<|Sa 5 hGF O O O bT<|aa<|Xp<|La 5 O O bT<|cn O sm underlying52 O sizeOf25 zv52 O O<|Sa 4 hGF O O O bq<|aa<|ak<|Rr<|?_
  exact au 4 O O O isAgg52 sizeOf52 sm (λw hw=>⟨by rw[Bb (Nu hc)],ac hw⟩)
 ·refine aq<|Xp<|La 5 O O bT<|cn O sm underlying52 O sizeOf25 zv52 O O<|Sa 4 hGF O O O bq<|aa<|ak<|Rr<|?_
  exact au 4 O O O isAgg52 sizeOf52 sm (λw hw=>⟨by rw[vG (tE (qA _ _ _) (Mf hc))],ac hw⟩)
theorem dQ(x:Zp):PUR 173 [EV x] (EV (-x)):=by
 intro w hw;refine Hf func173 O hw<|λhGF=>Xp<|Bx 1 hGF O<|λb1=>Al 2 hGF zv52<|λb2=>aa<|Xp<|eJ zv52 underlying52 (mf sizeOf25) O O<|La 1 O O bq<|Ca O ((show PUR 191 [NV (List.replicate 6 0#64),EV x] (EV (0-x)) by rw[<-iZ];exact nI 0 x))<|Sa 2 hGF O O O bq<|aa<|ak<|Rr<|?_
 exact au 2 O O O isAgg52 sizeOf52 sm (λw hw=>⟨by rw[show (0:Zp)-x= -x by grind],ac hw⟩)
theorem jR(x:Zp):PUR 136 [EV x] (EV (x*x)):=by
 intro w hw;refine Hf func136 O hw<|λhGF=>Xp<|Bx 1 hGF O<|λb1=>Al 2 hGF zv52<|λb2=>aa<|Xp<|La 1 O O bq<|La 1 O O bq<|Ca O (ij _ _)<|Sa 2 hGF O O O bq<|aa<|ak<|Rr<|?_;exact au 2 O O O isAgg52 sizeOf52 sm (λw hw=>⟨rfl,ac hw⟩)
theorem dO(x:Zp):PUR 87 [EV x] (.agg ((cM x).map U8).toArray):=by
 intro w hw;refine Hf func87 O hw<|λhGF=>Xp<|Bx 1 hGF O<|λb1=>Al 2 hGF zv29<|λb2=>aa<|Xp<|La 1 O O bq<|Ca O (jV _)<|Ca O (mr _ sm)<|aA 2 hGF O O O sizeOf29 sm sm (bL _) O<|aa<|ak<|Rr<|?_;exact au 2 O O O isAgg29 sizeOf29 sm (λw hw=>⟨rfl,ac hw⟩)
end
section
theorem ent281:ai prog 281:=λ_ _=>kr
attribute [local simp] PLl cB cz N1l cD cC cE ba bj
theorem zv293(w:World):(zeroValue 293).run prog w=.ok (aI (FL (λ_=>List.replicate 6 0#64) 16)) w:=(zeroValue293 w).trans rr
theorem sB:PUR 140 [U64 1#64] (EV 1):=dV 1#64
theorem vp(x:Zp):PUR 257 [EV x] (aI (SP x 16)):=by
 intro w hw;refine Hf func257 O hw<|λhGF=>Xp<|Bx 1 hGF O<|λb1=>Al 2 hGF zv293<|λb2=>aa<|Xp<|Ca O (sB)<|B6 O sm dc underlying293 sizeOf52 zv293 O O<|Al 3 hGF zv293<|λb3=>Sa 3 hGF O O O Az<|aa<|ah<|Xp<|Asg O<|aa<|am<|cb (ι:={i:Nat // 1<=i/\i<=16}) (λy=>[(1,pnt b1),(2,pnt b2),(3,pnt b3),(4,I (y.1:Int))]) (λy=>[(1,b1,(fe x).map U64,52),(2,b2,(FL (λ_=>List.replicate 6 0#64) 16).map U64,293),(3,b3,(SP x y.1).map U64,293)]) (λy=>16-y.1) ⟨1,om⟩ hGF trv ⟨rfl,rfl,by rw[<-QM];rfl,trivial⟩<|?_
 rintro ⟨i,hi⟩;dsimp only;refine ah<|Xp<|Mv O<|Bnr O O (λ_=>aC _ _ _)<|aa<|?_;refine bE O (λhc=> ?_) (λhc=> ?_)
 ·simp only[decide_eq_true_eq]at hc
  refine aq<|ah<|am<|Xe []<|Mv O<|Mv O<|Bnr O O (λ_=>bf _ _ _ oi)<|eY (i-1) (6*(i-1)) O O underlying293 sizeOf52 om om om O O<|av 3 ((fe (x^(i-1))).map U64) O O isAgg52 sizeOf52 sm (tH x i (i-1) om om _ O) O O<|La 1 O O bq<|Ca O (ij _ _)<|eY (i) (6*(i)) O O underlying293 sizeOf52 om om om O O<|ll 3 ((SP x (i+1)).map U64) hGF O O O sizeOf52 sm (bi _) (by rw[List.length_map,List.length_map,a5,bj];omega) (Kv x i om om _ O) O<|aa<|Xq<|Mv O<|Bnr O O (λ_=>az _ _ _ oi)<|Asg O<|aa<|?_
  repeat (refine aW ?_)
  exact aQ<|⟨rfl,⟨i+1,om⟩,_,by show 16-(i+1)<16-i;omega,rfl,trv,trv⟩
 ·obtain rfl:i=16:=by simp at hc;omega
  refine a6<|Xp<|La 3 O O Az<|Sa 2 hGF O O O Az<|aa<|ak<|Rr<|?_;exact au 2 O O O isAgg293 sizeOf293 sm (λw hw=>⟨rfl,ac hw⟩)
def RdD(bb:Nat)(e:Option Addr)(cap:Nat)(bs:L8):Cls:=λW=>W.cell? ⟨bb,0,none⟩=some (.slice e bs.length cap)/\BytesAt W e bs
def NB(bs:L8):List (List Value):=(List.range (2*bs.length)).map λm=>[U8 (NBv bs m)]
theorem xV(bs:L8):(NB bs).length=2*bs.length:=by simp[NB]
theorem yi(bs:L8)(m:Nat)(h:m<2*bs.length):(NB bs)[m]? =some [U8 (NBv bs m)]:=by
 rw[NB,List.getElem?_map,List.getElem?_range h];rfl
theorem Uu(bs:L8)(m:Nat)(x:List Value)(h:(NB bs)[m]? =some x):m<2*bs.length/\x=[U8 (NBv bs m)]:=by
 have hm:m<2*bs.length:=by
  rcases Nat.lt_or_ge m (2*bs.length)with h'|h'
  ·exact h'
  ·rw[List.getElem?_eq_none (by rw[xV];exact h')]at h;cases h
 rw[yi bs m hm]at h;exact ⟨hm,(Option.some.inj h).symm⟩
theorem UQ(bs:L8)(i:Nat)(h:i<bs.length):(NB bs)[2*i]? =some [U8 (bs.getD i 0>>>4)]:=by
 rw[yi bs _ om,NBv,if_pos om,show 2*i / 2=i by omega]
theorem Wa(bs:L8)(i:Nat)(h:i<bs.length):(NB bs)[2*i+1]? =some [U8 (bs.getD i 0 % 16#8)]:=by
 rw[yi bs _ om,NBv,if_neg om,show (2*i+1) / 2=i by omega]
theorem rJ(sv:Value)(hs:sv.cells= #[sv])(w:World)(hw:Gt w):CLS 258 [sv].toArray w (λe w'=> ∃b1,e=.returned (.func (.func 281) #[] #[pnt b1])/\Grow w w'/\w.heap.size<=b1/\OwnB w' b1 [sv] 22):=by
 refine Hf func258 O hw<|λhGF=>Xp<|iz 1 hGF O O O<|λb1=>Asg O<|aa<|Xp<|fP O O O O<|Asg O<|aa<|ak<|Rr<|?_;exact aO O O (λw hw=>⟨b1,rfl,ac hw,(hw.own 1 b1 _ _ O).2.elim id False.elim,(by have:=(hw.own 1 b1 _ _ O).1;rw[hs]at this;exact this)⟩)
theorem vu(bb:Nat)(e:Option Addr)(cap:Nat)(bs:L8)(hlen:bs.length<=1000000):eS prog Gt 281 [pnt bb] (NB bs) (RdD bb e cap bs):=by
 intro l J Jx hJ hJx hRd hGx hY w hj;have okJ: ∀k,BOk Gt (Bi w (λY=>J Y k)):=λk=>⟨λ_ _ _ h=>(hRd _ _ _ h.rid).1,hJ k⟩;have okX: ∀k,BOk Gt (Bi w (λY=>Jx Y k)):=λk=>⟨λ_ _ _ h=>hGx _ _ _ h.rid,hJx k⟩;have c1: ∀k L w',Hp (Bi w (λY=>J Y k)) L w'->RdD bb e cap bs w':=λk L w' h=>(hRd _ _ _ h.rid).2;have hby:=(hRd _ _ _ hj).2.2;refine ch (G:=Gt) func281 O O (Hp (Bi w (λY=>J Y 0)) []) (bZ (Bi w _) hj (hJ 0)) (ay (okJ 0))<|Xp<|bp O isAgg22 (λw h=>(c1 _ _ w h).1) O O<|bD O (λ_=>aV underlying22 _ _ _ _) O O<|Mv O<|aa<|am<|fV (ι:={i:Nat // i<=bs.length}) (λx=>[(0,.func (.yield l) #[] #[]),(1,pnt bb),(5,.slice e bs.length cap),(6,I (bs.length:Int)),(7,I (x.1:Int))]) (λx=>Bi w (λY=>J Y (2*x.1))) (λx=>[]) (λx=>bs.length-x.1) ⟨0,Nat.zero_le _⟩ (λ_=>okJ _) O trv trivial<|?_;rintro ⟨i,hi⟩;dsimp only;refine Xp<|Bnr O O (λ_=>aC _ _ _)<|aa<|ah<|?_;refine bE O (λhc=> ?_) (λhc=> ?_)
 ·simp only[decide_eq_true_eq]at hc
  have hi2:i<bs.length:=om;refine aq<|ah<|am<|Xp<|?_;obtain ⟨ad,rfl,_⟩:=hby i _ (gm U8 bs 0 i om);refine ek i O O underlying22 sizeOf5 O om O O<|bp O isAgg5 (λw' h=>by obtain ⟨ad',e',hc'⟩:=(c1 _ _ w' h).2 i _ (gm U8 bs 0 i om);cases e';exact hc') O O<|Asg O<|aa<|Cp (E:=EE []) 4<|Mv O<|Mv O<|Bnr (v:=U8 (bs.getD i 0>>>4)) O O (λ_=>zi _ _ 4#64)<|?_
  refine c9 (hY.b (k:=2*i) (UQ bs i om) w) (okJ _) (okX _) O O O O O ?_ ?_
  ·refine aa ?_
   refine ⟨EE [], ?_⟩;refine aU O (λ_=>aF _) O O<|Mv O<|Mv O<|Mv O<|Bnr (v:=U8 (bs.getD i 0 % 16#8)) O O (λ_=>xS _ _ 16#8 dc)<|?_;refine c9 (hY.b (k:=2*i+1) (Wa bs i om) w) (okJ _) (okX _) O O O O O ?_ ?_
   ·refine aU O (λ_=>aF _) O O<|Pk O O O<|aa<|aw O<|aq<|Xq<|Bnr O O (λ_=>az _ _ _ oi)<|Mv O<|aa<|?_
    rw[show 2*i+1+1=2*(i+1) by omega]
    repeat (refine aW ?_)
    exact aQ<|⟨rfl,⟨i+1,om⟩,_,by show bs.length-(i+1)<bs.length-i;omega,rfl,trv,trivial⟩
   ·refine aU O (λ_=>aF _) O O<|Pk O O O<|aa<|aL O<|ak<|Rr<|?_
    repeat (first|refine df ?_|refine ce ?_|refine dd O ?_|refine bx ?_|refine bv ?_)
    exact cX O (λw hw=>⟨⟨_,rfl⟩,.inr ⟨_,bG (hJx _) hw.rid⟩⟩)
  ·refine aa ?_
   refine ⟨EE [3000000], ?_⟩;refine aU O (λ_=>aF _) O O<|Mv O<|Sk<|Sk<|Sk<|Sk<|Sk<|Pk O O O<|aa<|aL O<|ak<|Rr<|?_
   repeat (first|refine df ?_|refine ce ?_|refine dd O ?_|refine bx ?_|refine bv ?_)
   exact cX O (λw hw=>⟨⟨_,rfl⟩,.inr ⟨_,bG (hJx _) hw.rid⟩⟩)
 ·simp only[decide_eq_false_iff_not]at hc
  obtain rfl:i=bs.length:=om;refine a6 ?_
  repeat (first|refine df ?_|refine ce ?_|refine dd O ?_|refine bx ?_|refine bv ?_)
  refine cy O (λw hw=>⟨⟨_,rfl⟩,.inl ?_⟩);have:=bG (hJ _) hw.rid;rw[xV];exact this
end
section
attribute [local simp] PLl cB cz N1l cD cC cE ba bj
theorem xm(x:Zp)(e:Option Addr)(cap:Nat)(bs:L8)(hlen:bs.length<=1000000)(w:World)(hw:Gt w)(hby:BytesAt w e bs):
 CLS 226 [EV x,.slice e bs.length cap].toArray w (λr w'=>r=.returned (EV (x^BN bs bs.length))/\Grow w w'):=by
 have hGF:BOk Gt (pl w):=gt_low.plain hw;refine ck (G:=Gt) func226 O O (Hp (pl w) []) (bZ (pl w) trivial ap) (ay hGF)<|ae (E:=EE [258])<|Bx 2 hGF O<|λb2=>Al 4 hGF zv52<|λb4=>aa<|ae (E:=EE [258])<|La 2 O O bq<|Ca O (vp _)<|Al 5 hGF zv293<|λb5=>Sa 5 hGF O O O Az<|aa<|ae (E:=EE [258])<|eY 0 0 O O underlying293 sizeOf52 O dc O O O<|av 5 ((fe (x^0)).map U64) O O isAgg52 sizeOf52 sm (tH x 16 0 dc dc 0 O) O O<|Al 6 hGF zv52<|λb6=>Sa 6 hGF O O O bq<|aa<|ah<|ae (E:=EE [258])<|Mv O<|?_;refine dp O O ent258 O O (λw' hw'=>(rJ _ O w' (hGF.g _ _ _ hw')).mono λe' w'' h=> ?_);obtain ⟨c1,rfl,hg,h1,ho⟩:=h;refine ⟨_,_,rfl,ay hGF,hw'.news ap hg [(33,c1,[.slice e bs.length cap],22)] ?_ bR, ?_⟩
 ·intro n' b' c' t' hl
  rcases aK hl with ⟨_,e⟩|⟨_,hl⟩
  ·cases e;exact ⟨h1,ho⟩
  ·cases hl
 clear hw' hg h1 ho;refine aa<|am<|?_;refine ep (λ_=>pl w) (λ_ _=>pl w) (λ_=>hGF) (λ_ _=>hGF) (λ_=>rfl) (λ_ _=>rfl) O O ent281 (vu c1 e cap bs hlen) (λx hx=>by obtain ⟨k,hk,rfl⟩:=List.mem_map.1 hx;rfl) O (λk=>[(2,b2,(fe x).map U64,52),(4,b4,(List.replicate 6 0#64).map U64,52),(5,b5,(SP x 16).map U64,293),(6,b6,(fe (x^DN bs k)).map U64,52),(33,c1,[.slice e bs.length cap],22)]) (λ_ _ _=>False) ⟨rfl,rfl,rfl,by rw[DN];rfl,rfl,trivial⟩ (λk _ w' h=>⟨cp (n:=33) O O w' h,hby.grow (h.below (λ_ h=>h))⟩) ?_ ?_ (λ_ _ _ _ _ h=>h.elim)
 ·intro k v hx R hR
  obtain ⟨hk,rfl⟩:=Uu bs k v hx;have hlt:=Tm bs k;refine bQ (E:=EE [258])<|Asg O<|aa<|?_;refine ⟨rfl,_,rfl, ?_⟩;refine am<|ah<|ae (E:=EE [258])<|Mv O<|aa<|am<|cb (ι:={i:Nat // i<=4}) (λj=>[(5,pnt b5),(6,pnt b6),(7,U8 (NBv bs k)),(15,I (j.1:Int))]) (λj=>[(2,b2,(fe x).map U64,52),(4,b4,(List.replicate 6 0#64).map U64,52),(5,b5,(SP x 16).map U64,293),(6,b6,(fe (x^(2^j.1*DN bs k))).map U64,52),(33,c1,[.slice e bs.length cap],22)]) (λj=>4-j.1) ⟨0,om⟩ (hR (pl w) O hGF).2.1 trv ⟨rfl,rfl,rfl,by rw[Nat.pow_zero,Nat.one_mul];rfl,rfl,trivial⟩<|?_
  rintro ⟨j,hj⟩;dsimp only;refine ae (E:=EE [258])<|Bnr O O (λ_=>aC _ _ _)<|aa<|ah<|?_;refine bE O (λhc=> ?_) (λhc=> ?_)
  ·simp only[decide_eq_true_eq]at hc
   refine aq<|ah<|am<|bQ (E:=EE [258])<|La 6 O O bq<|Ca O (jR _)<|aA 6 (hR (pl w) O hGF).2.1 O O O sizeOf52 sm sm (bi _) O<|aa<|bQ (E:=EE [258])<|Bnr O O (λ_=>az _ _ _ oi)<|Mv O<|aa<|?_
   repeat (refine aW ?_)
   exact aQ<|⟨rfl,⟨j+1,om⟩,_,by show 4-(j+1)<4-j;omega,rfl,trv,⟨rfl,rfl,rfl,by rw[<-LR];rfl,rfl,trivial⟩⟩
  ·obtain rfl:j=4:=by simp at hc;omega
   refine a6<|Xe [258]<|La 6 O O bq<|Mv O<|KN (6*(NBv bs k).toNat) O O underlying293 sizeOf52 hlt om O O<|av 5 ((fe (x^(NBv bs k).toNat)).map U64) O O isAgg52 sizeOf52 sm (tH x 16 _ hlt (Nat.le_refl _) _ O) O O<|Ca O (IZ x bs k▸ij (x^(2^4*DN bs k)) (x^(NBv bs k).toNat))<|aA 6 (hR (pl w) O hGF).2.1 O O O sizeOf52 sm sm (bi _) O<|aa<|?_
   repeat (refine aW ?_)
   exact ⟨_,rfl,trv⟩
 ·intro D hD
  rw[xV,Es];refine ae (E:=EE [258])<|La 6 O O bq<|Sa 4 hD O O O bq<|aa<|ak<|Rr<|?_;exact dr (.inl O) ap (au 4 O O O isAgg52 sizeOf52 sm (λw hw=>⟨rfl,ac hw⟩))
end
theorem LC(l:L6):(l.getD 0 0).toNat % 2=V l 6 % 2:=by
 have h:=M6 l 6 0 dc;rw[Nat.testBit_zero,Nat.zero_div,Nat.zero_mod,BitVec.getLsbD,Nat.testBit_zero]at h;have h':=decide_eq_decide.1 h;omega
theorem TC(x:Zp):((nm x).getD 0 0 % 2#64==1#64)=decide (x.val % 2=1):=by
 have h:=LC (nm x);rw[vM]at h;rw[<-h];by_cases e:(nm x).getD 0 0 % 2#64=1#64
 ·have:=congrArg BitVec.toNat e
  rw[BitVec.toNat_umod]at this;rw[beq_iff_eq.2 e,decide_eq_true];exact this
 ·rw[beq_eq_false_iff_ne.2 e,decide_eq_false]
  intro h';apply e;apply BitVec.eq_of_toNat_eq;rw[BitVec.toNat_umod];exact h'
def hf:Nat:=(PP-1) / 2
def rg:Nat:=(PP+1) / 4
theorem uD:PP % 4=3:=by decide+kernel
theorem nV:1000<PP:=by decide+kernel
theorem ma:2*hf+1=PP:=by have:=uD;unfold hf;omega
theorem Q3:4*rg=PP+1:=by have:=uD;unfold rg;omega
theorem Pz:hf % 2=1:=by have:=uD;have:=ma;omega
theorem Xg:2*rg=hf+1:=by have:=Q3;have:=ma;omega
theorem EQ(x:Zp):LT HFP (nm x) 6=decide (hf<x.val):=by rw[p9,vM,KF];rfl
theorem OC: ∃n,hf=n+1:=⟨hf-1,by have:=ma;have:=nV;omega⟩
def SQr(x:Zp):Zp:=x^rg
def SQn(x:Zp):Zp:=if hf<(SQr x).val then-(SQr x)else SQr x
def SQ(x:Zp):Zp:=if SQr x*SQr x=x then SQn x else 0
def FO(bs:L8):Bool:=decide (bs.length=48/\BN bs 48<PP)
def FV(bs:L8):Zp:=if bs.length=48/\BN bs 48<PP then zp (BN bs 48)else 0
def ZB(bs:L8):Zp:=zp (BN bs bs.length)
theorem Jj{k:Nat}(h:R6=2^k)(hk:k=8*48):R6=256^48:=by rw[HL,h,hk]
theorem QG:R6=256^48:=Jj fk O
theorem Cd(bs:L8)(k cut:Nat)(h:k=0\/cut=48):zp (BN bs k)*RZ+zp (BN (bs.drop k) cut)=zp (BN bs (k+cut)):=by
 rw[Hh bs k cut,fQ,i4];rcases h with rfl|rfl
 ·rw[BN,K4];grind
 ·rw[<-QG];rfl
theorem TQ{n:Nat}(h0:0<n)(h:n % 48=0):(n-1) % 48+1=48:=om
theorem E6{n:Nat}(h0:0<n):(n-((n-1) % 48+1)) % 48=0/\(n-1) % 48+1<=n/\(n-1) % 48+1<=48:=om
theorem Lf(bs:L8)(n:Nat):BN (bs.take n) n=BN bs n:=u2 n λi hi=>by
 rw[List.getD_eq_getElem?_getD,List.getD_eq_getElem?_getD,List.getElem?_take,if_pos hi]
section
attribute [local simp] PLl cB cz N1l cD cC cE ba bj
theorem Sd(x:Zp)(b:Nat)(t:TypeId)(bs:L8)(h48:bs.length=48)(w:World)(hw:Gt w)(ho:OwnB w b (bs.map U8) t):
 CLS 226 [EV x,.slice (spt b) 48 48].toArray w (λr w'=>r=.returned (EV (x^BN bs 48))/\Grow w w'):=by
 have h:=xm x (spt b) 48 bs om w hw (BytesAt.range ho.range);rw[h48]at h;exact h
theorem ou(a:Option Addr)(len cap:Nat)(bs:L8)(hl:bs.length=len)(h:len<=48)(w:World)(hw:Gt w)(hby:BytesAt w a bs):
 CLS 38 [.slice a len cap].toArray w (λe w'=>e=.returned (.tuple #[NV (FRs bs bs.length),.bool true])/\Grow w w'):=by
 subst hl;exact (yb a cap bs w hw hby).mono λe w' ⟨he,hg⟩=>⟨by rw[he,if_neg om],hg⟩
theorem ow(x:Zp)(n:L6)(hn:n.length=6):PUR 189 [EV x,NV n] (EV (x^V n 6)):=by
 intro w hw;refine Hf func189 O hw<|λhGF=>Xp<|Bx 2 hGF O<|λb2=>Bx 3 hGF O<|λb3=>Al 4 hGF zv52<|λb4=>aa<|Xp<|bO 3 O O isAgg25 sizeOf25 (by first|(simp;done)|simp[hn]) O O<|Ca O (mr _ (by first|(simp;done)|simp[hn]))<|Al 5 hGF zv29<|λb5=>aA 5 hGF O O O sizeOf29 (by first|(simp;done)|simp[hn]) (by first|(simp;done)|simp[hn]) (bL _) O<|aa<|Xd []<|bO 2 O O isAgg52 sizeOf52 (by first|(simp;done)|simp[hn]) O O<|bB (l:=0) (h':=48) O underlying29 sizeOf5 O O om om O O<|Cc O ent226 (λw hC hG=>Sd x _ _ (BYs n 48) (by first|(simp;done)|simp[hn]) w hG (hC.own 5 _ _ _ O).1)<|aA 4 hGF O O O sizeOf52 (by first|(simp;done)|simp[hn]) (by first|(simp;done)|simp[hn]) (bi _) O<|aa<|ak<|Rr<|?_
 exact au 4 O O O isAgg52 sizeOf52 (by first|(simp;done)|simp[hn]) (λw hw=>⟨by rw[rn n hn 48 O],ac hw⟩)
theorem CA(x:Zp):PUR 135 [EV x] (EV (x^(PP-2))):=by
 intro w hw;refine Hf func135 O hw<|λhGF=>Xp<|Bx 1 hGF O<|λb1=>Al 2 hGF zv52<|λb2=>aa<|Xp<|La 1 O O bq<|kv hGF isAgg25 sizeOf25 sm (λ_ h=>h.g4) O O<|Ca O (ow _ _ sm)<|Sa 2 hGF O O O bq<|aa<|ak<|Rr<|?_;exact au 2 O O O isAgg52 sizeOf52 sm (λw hw=>⟨by rw[<-Ju],ac hw⟩)
theorem Cn(x:Zp):PUR 289 [EV x] (.bool (decide (x.val % 2=1))):=by
 intro w hw;refine Hf func289 O hw<|λhGF=>Xp<|Bx 1 hGF O<|λb1=>Asg O<|aa<|Xp<|La 1 O O bq<|Ca O (jV _)<|jP U64 0 (0) O O underlying25 sizeOf24 isAgg24 om om sm O O<|Bnr O O (λ_=>ew _ _ _ dc)<|Bnr O O (λ_=>bu _ _ _)<|Asg O<|aa<|ak<|Rr<|?_;exact aO O O (λw hw=>⟨by rw[<-TC]<;>rfl,ac hw⟩)
theorem gK(x:Zp):PUR 89 [EV x] (.bool (decide (hf<x.val))):=by
 intro w hw;refine Hf func89 O hw<|λhGF=>Xp<|Bx 1 hGF O<|λb1=>Asg O<|aa<|Xd []<|kv hGF isAgg25 sizeOf25 sm (λ_ h=>h.g2) O O<|La 1 O O bq<|Ca O (jV _)<|Ca O (ly _ _ sm sm)<|Asg O<|aa<|ak<|Rr<|?_;exact aO O O (λw hw=>⟨by rw[<-EQ],ac hw⟩)
theorem KX(x:Zp):PUR 189 [EV x,NV RTP] (EV (SQr x)):=by
 have h:=ow x RTP O;rw[KM]at h;exact h
theorem mm(x:Zp):PUR 172 [EV x] (.tuple #[EV (SQ x),.bool (decide (SQr x*SQr x=x))]):=by
 intro w hw;refine Hf func172 O hw<|λhGF=>Xp<|Bx 1 hGF O<|λb1=>Al 2 hGF zv52<|λb2=>Asg O<|aa<|Xp<|La 1 O O bq<|kv hGF isAgg25 sizeOf25 sm (λ_ h=>h.g6) O O<|Ca O (KX x)<|Al 4 hGF zv52<|λb4=>Sa 4 hGF O O O bq<|aa<|ah<|Xd []<|La 4 O O bq<|Ca O (jR _)<|La 1 O O bq<|Ca O (oh _ _)<|aU O (λ_=>aF _) O O<|aa<|?_;refine bE O (λhc=> ?_) (λhc=> ?_)
 ·have hs: ¬SQr x*SQr x=x:=by simpa using hc
  refine Xp<|eJ zv52 underlying52 (mf sizeOf25) O O<|Sa 2 hGF O O O bq<|Asg O<|aa<|ak<|Rr<|?_;exact aG 2 O O O O isAgg52 sizeOf52 sm (λw hw=>⟨by rw[SQ,if_neg hs,decide_eq_false hs,<-iZ]<;>rfl,ac hw⟩)
 ·have hs:SQr x*SQr x=x:=by simpa using hc
  clear hc;refine aq<|ah<|Xp<|La 4 O O bq<|Ca O (gK _)<|aa<|?_;refine bE O (λhc=> ?_) (λhc=> ?_)
  ·simp only[decide_eq_true_eq]at hc
   refine Xq<|La 4 O O bq<|Ca O (dQ _)<|Sa 4 hGF O O O bq<|aa<|Xp<|La 4 O O bq<|Sa 2 hGF O O O bq<|Asg O<|aa<|ak<|Rr<|?_;exact aG 2 O O O O isAgg52 sizeOf52 sm (λw hw=>⟨by rw[SQ,if_pos hs,SQn,if_pos hc,decide_eq_true hs]<;>rfl,ac hw⟩)
  ·simp only[decide_eq_false_iff_not]at hc
   refine aq<|Xp<|La 4 O O bq<|Sa 2 hGF O O O bq<|Asg O<|aa<|ak<|Rr<|?_;exact aG 2 O O O O isAgg52 sizeOf52 sm (λw hw=>⟨by rw[SQ,if_pos hs,SQn,if_neg hc,decide_eq_true hs]<;>rfl,ac hw⟩)
theorem dR(e:Option Addr)(cap:Nat)(bs:L8)(w:World)(hw:Gt w)(hby:BytesAt w e bs):
 CLS 90 [.slice e bs.length cap].toArray w (λr w'=>r=.returned (.tuple #[EV (FV bs),.bool (FO bs)])/\Grow w w'):=by
 refine Hf func90 O hw<|λhGF=>Xp<|Al 2 hGF zv52<|λb2=>Asg O<|aa<|ah<|Xp<|Mv O<|bD O (λ_=>aV underlying22 _ _ _ _) O O<|Bnr O O (λ_=>bt _ _ _)<|aa<|?_;refine bE O (λhc=> ?_) (λhc=> ?_)
 ·have hc: ¬bs.length=48:=by simp at hc;omega
  refine Xp<|eJ zv52 underlying52 (mf sizeOf25) O O<|Sa 2 hGF O O O bq<|Asg O<|aa<|ak<|Rr<|?_;exact aG 2 O O O O isAgg52 sizeOf52 sm (λw hw=>⟨by rw[FV,FO,if_neg (λh=>hc h.1),decide_eq_false (λh=>hc h.1),<-iZ]<;>rfl,ac hw⟩)
 ·have h48:bs.length=48:=by simp at hc;omega
  clear hc;refine aq<|Xp<|Mv O<|Cc O ent38 (λw' hC hG=>ou e bs.length cap bs O om w' hG (hby.grow (ac hC)))<|Mv O<|Ext O O<|Ext O O<|Al 4 hGF zv25<|λb4=>Sa 4 hGF O O O bT<|Asg O<|aa<|ah<|Xp<|Mv O<|aU O (λ_=>aF _) O O<|Mv O<|La 4 O O bT<|kv hGF isAgg25 sizeOf25 sm (λ_ h=>h.g3) O O<|Ca O (ly _ _ sm sm)<|aU O (λ_=>aF _) O O<|Pk O O O<|aa<|?_;refine bE O (λhc=> ?_) (λhc=> ?_)
  ·have e0:V (FRs bs bs.length) 6=BN bs 48:=by rw[mv bs om,h48]
   have hl: ¬BN bs 48<PP:=by rw[p9,gv,e0]at hc;simpa using hc
   clear hc;refine Xp<|eJ zv52 underlying52 (mf sizeOf25) O O<|Sa 2 hGF O O O bq<|Asg O<|aa<|ak<|Rr<|?_;exact aG 2 O O O O isAgg52 sizeOf52 sm (λw hw=>⟨by rw[FV,FO,if_neg (λh=>hl h.2),decide_eq_false (λh=>hl h.2),<-iZ]<;>rfl,ac hw⟩)
  ·have e0:V (FRs bs bs.length) 6=BN bs 48:=by rw[mv bs om,h48]
   have hl:BN bs 48<PP:=by rw[p9,gv,e0]at hc;simpa using hc
   clear hc;refine aq<|Xp<|La 4 O O bT<|Ca O (mc _ sm)<|Sa 2 hGF O O O bq<|Asg O<|aa<|ak<|Rr<|?_;exact aG 2 O O O O isAgg52 sizeOf52 sm (λw hw=>⟨by rw[FV,FO,if_pos ⟨h48,hl⟩,decide_eq_true ⟨h48,hl⟩,mv bs om,h48]<;>rfl,ac hw⟩)
structure WSt(w:World)(bs:L8) where
 (k:Nat) (a:Option Addr) (c:Nat)
 hk:k<=bs.length
 hc:bs.length-k<=c
 hb:BytesAt w a (bs.drop k)
 hm:k=0\/(bs.length-k) % 48=0
theorem nS(bs:L8)(k cut:Nat)(h:cut<=bs.length-k):((bs.drop k).take cut).length=cut:=by
 rw[List.length_take,List.length_drop];omega
theorem yJ(y:Zp):PUR 137 [EV y,NV TWO] (EV (y*RZ)):=R0▸ij y RZ
theorem wl(bs:L8)(h:bs.length<=48):PUR 139 [NV (FRs bs bs.length)] (EV (zp (BN bs bs.length))):=mv bs h▸mc (FRs bs bs.length) (aM _ _)
theorem wA(e:Option Addr)(cap:Nat)(bs:L8)(hlen:bs.length<=1000000)(hcap:bs.length<=cap)(w:World)(hw:Gt w)(hby:BytesAt w e bs):
 CLS 262 [.slice e bs.length cap].toArray w (λr w'=>r=.returned (EV (ZB bs))/\Grow w w'):=by
 refine Hf func262 O hw<|λhGF=>Xp<|Al 2 hGF zv52<|λb2=>aa<|Xp<|Al 3 hGF zv52<|λb3=>aa<|ah<|am<|cb (ι:=WSt w bs) (λx=>[(0,.slice x.a (bs.length-x.k) x.c),(2,pnt b2),(3,pnt b3)]) (λx=>[(2,b2,(List.replicate 6 0#64).map U64,52),(3,b3,(fe (zp (BN bs x.k))).map U64,52)]) (λx=>(bs.length-x.k)) ⟨0,e,cap,Nat.zero_le _,hcap,hby,.inl O⟩ hGF trv ⟨rfl,by rw[BN,K4,iZ];rfl,trivial⟩<|λx=>ah<|Xp<|Mv O<|bD O (λ_=>aV underlying22 _ _ _ _) O O<|Bnr O O (λ_=>cm _ _ _)<|aa<|?_
 refine bE O (λhc=> ?_) (λhc=> ?_)
 ·have hn:0<(bs.length-x.k):=by simp at hc;omega
  clear hc;have hlenx:=x.hk;have hcut:=E6 hn;have hnext:BytesAt w (if x.c=(((bs.length-x.k)-1) % 48+1)then x.a else x.a.map (·.add ((((bs.length-x.k)-1) % 48+1)*1))) (bs.drop (x.k+(((bs.length-x.k)-1) % 48+1))):=by
   have:=x.hb.drop (cap:=x.c) (l:=(((bs.length-x.k)-1) % 48+1)) (by rw[List.length_drop];exact x.hc) om
   rw[List.drop_drop]at this;exact this
  have hstep:zp (BN bs x.k)*RZ+zp (BN ((bs.drop x.k).take (((bs.length-x.k)-1) % 48+1)) ((bs.drop x.k).take (((bs.length-x.k)-1) % 48+1)).length)=zp (BN bs (x.k+(((bs.length-x.k)-1) % 48+1))):=by
   rw[nS bs x.k _ hcut.2.1,Lf];exact Cd bs x.k _ (kT id (TQ hn) x.hm)
  refine aq<|am<|Xp<|Mv O<|bD O (λ_=>aV underlying22 _ _ _ _) O O<|Bnr (v:=I (((bs.length-x.k)-1:Nat):Int)) O O (λ_=>(bf _ _ _ oi).trans (by rw[show ((bs.length-x.k:Nat):Int)-1=((bs.length-x.k-1:Nat):Int) by omega]))<|de (v:=I ((((bs.length-x.k)-1) % 48:Nat):Int)) O O (λ_=>rfl) (λ_=>d7 _ _ _ dc) O O<|de (v:=I (((((bs.length-x.k)-1) % 48+1):Nat):Int)) O O (λ_=>rfl) (λ_=>az _ _ _ oi) O O<|Asg O<|aa<|Xp<|Mv O<|Mv O<|mF (l:=0) (h':=(((bs.length-x.k)-1) % 48+1)) O underlying22 sizeOf5 O O ⟨Nat.zero_le _,Nat.le_trans hcut.2.1 x.hc⟩ O O<|qi O O ent38 (λw' hC hG=>ou _ (((bs.length-x.k)-1) % 48+1) _ ((bs.drop x.k).take (((bs.length-x.k)-1) % 48+1)) (nS bs x.k _ hcut.2.1) hcut.2.2 w' hG ((x.hb.cut 0 (((bs.length-x.k)-1) % 48+1) (by rw[List.length_drop];exact x.hc)).grow (ac hC))) O O<|Mv O<|Ext O O<|Ext O O<|Al 5 hGF zv25<|λb5=>Sa 5 hGF O O O bT<|Asg O<|aa<|Xd []<|La 3 O O bq<|kv hGF isAgg25 sizeOf25 sm (λ_ h=>h.g5) O O<|cn O sm underlying52 O sizeOf25 zv52 O O<|Ca O (yJ _)<|La 5 O O bT<|Ca O (wl ((bs.drop x.k).take (((bs.length-x.k)-1) % 48+1)) (by rw[nS bs x.k _ hcut.2.1];exact hcut.2.2))<|Ca O (sn _ _)<|Sa 3 hGF O O O bq<|aa<|Xq<|Mv O<|Mv O<|mF (l:=(((bs.length-x.k)-1) % 48+1)) (h':=(bs.length-x.k)) O underlying22 sizeOf5 O O ⟨hcut.2.1,x.hc⟩ O O<|Asg O<|aa<|?_
  repeat (refine aW ?_)
  exact aQ<|⟨rfl,⟨x.k+(((bs.length-x.k)-1) % 48+1),_,x.c-(((bs.length-x.k)-1) % 48+1),by have:=x.hk;omega,by have:=x.hc;omega,hnext,.inr (by rw[Nat.sub_add_eq];exact hcut.1)⟩,_,by show bs.length-(x.k+(((bs.length-x.k)-1) % 48+1))<bs.length-x.k;omega,rfl,⟨congrArg (λn=>some (Value.slice _ n _)) (Nat.sub_sub bs.length x.k (((bs.length-x.k)-1) % 48+1)),rfl,rfl,trivial⟩,⟨rfl,by rw[<-hstep];rfl,trivial⟩⟩
 ·have hn:x.k=bs.length:=by simp at hc;have:=x.hk;omega
  clear hc;refine a6<|Xp<|La 3 O O bq<|Sa 2 hGF O O O bq<|aa<|ak<|Rr<|?_;exact au 2 O O O isAgg52 sizeOf52 sm (λw hw=>⟨by rw[hn];rfl,ac hw⟩)
end
end Go.Proofs.YtfgacclgjklgnaaGreatDoor
