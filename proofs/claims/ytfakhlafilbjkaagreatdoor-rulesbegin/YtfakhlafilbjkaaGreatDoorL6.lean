/- L6 -/
import Derived.Test.YtfakhlafilbjkaaGreatDoorL1
import Derived.Test.YtfakhlafilbjkaaGreatDoorM1
set_option maxRecDepth 100000
set_option maxHeartbeats 1000000
namespace Go.Proofs.YtfakhlafilbjkaaGreatDoor
open Go.Proofs.Tryz
section
open Go.RowKit
theorem pF(a:BitVec 64){P:Program}{w:World}:(Op.unary .neg (U64 a)).run P w=.ok (U64 (-a)) w:=by
 show (Op.intArith .sub .u64 0 (a.toNat:Int)).run P w=_;simp only[Op.intArith,Sem.run_pure];have h:=a.isLt;congr 2;simp only[BitVec.toNat_neg];congr 1;simp only[IntKind.wrap,IntKind.signed,IntKind.bits,Bool.false_and];simp;omega
theorem lP(n:BitVec 64):PUR 287 [U64 n] (U64 (IV n 5)):=by
 intro w hw;refine Hf func287 O hw<|λhGF=>Xp<|Asg O<|aa<|Xp<|Mv O<|Asg O<|aa<|ah<|Xp<|Mv O<|aa<|au<|bW (ι:={i:Nat // i<=5}) (λx=>[(0,U64 n),(2,U64 0),(3,U64 (IV n x.1)),(5,I (x.1:Int))]) (λx=>[]) (λx=>5-x.1) ⟨0,om⟩ hGF trv trivial<|?_;rintro ⟨i,hi⟩;dsimp only;refine Xp<|Bnr O O (λ_=>aI _ _ _)<|aa<|ah<|?_;refine cx O (λhc=> ?_) (λhc=> ?_)
 ·simp only[decide_eq_true_eq]at hc
  refine aw<|ah<|au<|Xq<|Mv O<|Mv O<|Mv O<|Bnr O O (λ_=>cy _ _ _)<|Bnr O O (λ_=>je _ _ _)<|Bnr O O (λ_=>cy _ _ _)<|Asg O<|aa<|Xq<|Bnr O O (λ_=>ay _ _ _ aG)<|Mv O<|aa<|?_
  repeat (refine bh ?_)
  exact aY<|⟨rfl,⟨i+1,om⟩,_,by show 5-(i+1)<5-i;omega,rfl,trv,trivial⟩
 ·obtain rfl:i=5:=by simp at hc;omega
  refine bv<|Xp<|Mv O<|Asg O<|aa<|ao<|Rr<|?_;exact ar O O (λw hw=>⟨rfl,ae hw⟩)
theorem GN:(prog.info? 22).map (·.size)=some 1:=kr
theorem ye(a:L6)(h:a.length=6):lay 0 (a.map U64) ((List.replicate 12 0#64).map U64)=(a++List.replicate 6 0).map U64:=by
 rw[iy _ _ _ (by simp[h])]
 simp[h]
theorem ns(a b m:L6)(ha:a.length=6)(hb:b.length=6)(hm:m.length=6):PUR 239 [bj (a),bj (b),bj (m)] (bj (lS a b m)):=by
 intro w hw;refine Hf func239 O hw ?_;intro hGF;by_cases h0:m.getD 0 0 % 2=0
 ·refine Xp<|Bx 3 hGF O<|λb3=>Bx 4 hGF O<|λb4=>Bx 5 hGF O<|λb5=>Al 6 hGF zv119<|λb6=>aa<|ah<|Xp<|Ia (0) O O underlying119 sizeOf22<|Lmq 5 U64 0 O O isAgg22 (by rw[hm];omega)<|Bnr O O (λ_=>fg _ _ _ aC)<|Bnr (v:=.bool true) O O (λw=>(bA _ _ _).trans (congrArg (λb=>Result.ok (Value.bool b) w) (beq_iff_eq.2 h0)))<|aa<|aQ O<|Xp<|ew zv119 underlying119 sizeOf22 O O<|Sw 6 hGF O O O bU List.length_replicate<|aa<|ao<|Rr<|?_
  exact aF 6 O O O isAgg119 sizeOf119 (by rw[List.length_map,List.length_replicate]) (λw hw=>⟨by rw[lS,if_pos h0];rfl,ae hw⟩)
 cases h1:LT a m 6 with
 |true=>
  refine Xp<|Bx 3 hGF O<|λb3=>Bx 4 hGF O<|λb4=>Bx 5 hGF O<|λb5=>Al 6 hGF zv119<|λb6=>aa<|ah<|Xp<|Ia (0) O O underlying119 sizeOf22<|Lmq 5 U64 0 O O isAgg22 (by rw[hm];omega)<|Bnr O O (λ_=>fg _ _ _ aC)<|Bnr (v:=.bool false) O O (λw=>(bA _ _ _).trans (congrArg (λb=>Result.ok (Value.bool b) w) (beq_eq_false_iff_ne.2 h0)))<|aa<|aH O<|aw<|ah<|Xp<|Lw 3 O O bU ha<|Lw 5 O O bU hm<|Ca O (kS a m ha hm)<|bV (v:=.bool false) O (λ_=>(bP _).trans (by rw[h1];rfl)) O O<|aa<|aH O<|aw<|Xp<|Ia (0) O O underlying119 sizeOf22<|Lmq 5 U64 0 O O isAgg22 (by rw[hm];omega)<|Ca O (lP _)<|bV O (λ_=>pF _) O O<|Asg O<|?_
  generalize hcl: -(IV (m.getD 0 0) 5)=cl;refine aa<|Xp<|Al 9 hGF zv119<|λb9=>aa<|Xp<|Asg O<|aa<|ah<|Xp<|Lw 3 O O bU ha<|Mv O<|aa<|au<|bW (ι:={i:Nat // i<=6}) (λx=>[(4,pnt b4),(5,pnt b5),(6,pnt b6),(8,U64 cl),(9,pnt b9),(10,U64 (MO a b m cl x.1).2),(38,bj (a)),(39,I (x.1:Int))]) (λx=>[(4,b4,b.map U64,119),(5,b5,m.map U64,119),(6,b6,(List.replicate 6 0#64).map U64,119),(9,b9,(MO a b m cl x.1).1.map U64,119)]) (λx=>6-x.1) ⟨0,om⟩ hGF trv trv<|?_;rintro ⟨i,hi⟩;dsimp only;refine Xp<|Bnr O O (λ_=>aI _ _ _)<|aa<|ah<|?_;refine cx O (λhc=> ?_) (λhc=> ?_)
  ·simp only[decide_eq_true_eq]at hc
   refine aw<|ah<|au<|Xp<|kQ U64 0 (i) O O underlying119 sizeOf22 isAgg22 om om (ha) O O<|Asg O<|aa<|Xp<|Asg O<|Asg O<|aa<|ah<|Xp<|Lw 4 O O bU hb<|Mv O<|aa<|au<|bW (ι:={i:Nat // i<=6}) (λx=>[(4,pnt b4),(5,pnt b5),(6,pnt b6),(8,U64 cl),(9,pnt b9),(10,U64 (MO a b m cl i).2),(38,bj (a)),(39,I (i:Int)),(12,U64 (a.getD i 0)),(13,U64 (MJ (a.getD i 0) b (MO a b m cl i).1 x.1).2),(14,U64 0),(42,bj (b)),(43,I (x.1:Int))]) (λx=>[(4,b4,b.map U64,119),(5,b5,m.map U64,119),(6,b6,(List.replicate 6 0#64).map U64,119),(9,b9,(MJ (a.getD i 0) b (MO a b m cl i).1 x.1).1.map U64,119)]) (λx=>6-x.1) ⟨0,om⟩ hGF trv trv<|?_;rintro ⟨j,hj⟩;dsimp only;refine Xp<|Bnr O O (λ_=>aI _ _ _)<|aa<|ah<|?_;refine cx O (λhc=> ?_) (λhc=> ?_)
   ·simp only[decide_eq_true_eq]at hc
    refine aw<|ah<|au<|Xp<|Mv O<|kQ U64 0 (j) O O underlying119 sizeOf22 isAgg22 om om (hb) O O<|Asg O<|Asg O<|aa<|Xq<|Mv O<|Mv O<|Mv O<|Mv O<|Ia (j) O O underlying119 sizeOf22<|Lmq 9 U64 0 O O isAgg22 (by rw[kE,eT];omega)<|Mv O<|Ca O (fW _ _ _ _)<|Mv O<|Exq O O<|Exq O O<|Ia (j) O O underlying119 sizeOf22<|bO 9 U64 hGF O O O sizeOf22 O (by rw[kE,eT];omega) O<|Asg O<|aa<|Xq<|Bnr O O (λ_=>ay _ _ _ aG)<|Mv O<|aa<|?_
    repeat (refine bh ?_)
    exact aY<|⟨rfl,⟨j+1,om⟩,_,by show 6-(j+1)<6-j;omega,rfl,trv,trv⟩
   ·obtain rfl:j=6:=by simp at hc;omega
    generalize hS:MJ (a.getD i 0) b (MO a b m cl i).1 6=S1;have hSl:S1.1.length=6:=by rw[<-hS,kE,eT]
    refine bv<|Xp<|Mv O<|Mv O<|bL O O (λw=>dR _ _ _ aC w) O O<|Mv O<|Exq O O<|Exq O O<|Asg O<|Asg O<|aa<|Xp<|Ia (0) O O underlying119 sizeOf22<|Lmq 9 U64 0 O O isAgg22 (by rw[hSl];omega)<|Mv O<|Bnr O O (λ_=>cy _ _ _)<|Asg O<|aa<|Xp<|Mv O<|Ia (0) O O underlying119 sizeOf22<|Lmq 5 U64 0 O O isAgg22 (by rw[hm];omega)<|Ia (0) O O underlying119 sizeOf22<|Lmq 9 U64 0 O O isAgg22 (by rw[hSl];omega)<|Ca O (fW _ _ _ _)<|Mv O<|Exq O O<|Exq O O<|Asg O<|aa<|ah<|Xp<|Asg O<|aa<|au<|bW (ι:={i:Nat // i<=5}) (λx=>[(4,pnt b4),(5,pnt b5),(6,pnt b6),(8,U64 cl),(9,pnt b9),(10,U64 (ADC (MO a b m cl i).2 S1.2 0).1),(38,bj (a)),(39,I (i:Int)),(14,U64 (ADC (MO a b m cl i).2 S1.2 0).2),(17,U64 (S1.1.getD 0 0*cl)),(13,U64 (MR (S1.1.getD 0 0*cl) m S1.1 x.1).2),(18,I ((x.1+1:Nat):Int))]) (λx=>[(4,b4,b.map U64,119),(5,b5,m.map U64,119),(6,b6,(List.replicate 6 0#64).map U64,119),(9,b9,(MR (S1.1.getD 0 0*cl) m S1.1 x.1).1.map U64,119)]) (λx=>5-x.1) ⟨0,om⟩ hGF trv trv<|?_
    rintro ⟨r,hr⟩;dsimp only;refine ah<|Xp<|Mv O<|Bnr O O (λ_=>aI _ _ _)<|aa<|?_;refine cx O (λhc=> ?_) (λhc=> ?_)
    ·simp only[decide_eq_true_eq]at hc
     refine aw<|ah<|au<|Xe []<|Mv O<|Bnr (v:=I (r:Int)) O O (λ_=>(bC _ _ _ aG).trans (by rw[show (((r+1:Nat):Int)-1)=(r:Int) by omega]))<|Mv O<|Mv O<|Ia ((r+1)) O O underlying119 sizeOf22<|Lmq 5 U64 0 O O isAgg22 (by rw[hm];omega)<|Mv O<|Ia ((r+1)) O O underlying119 sizeOf22<|Lmq 9 U64 0 O O isAgg22 (by rw[jv,hSl];omega)<|Mv O<|Ca O (fW _ _ _ _)<|Mv O<|Exq O O<|Exq O O<|Ia (r) O O underlying119 sizeOf22<|bO 9 U64 hGF O O O sizeOf22 O (by rw[jv,hSl];omega) O<|Asg O<|aa<|Xq<|Mv O<|Bnr O O (λ_=>ay _ _ _ aG)<|Asg O<|aa<|?_
     repeat (refine bh ?_)
     exact aY<|⟨rfl,⟨r+1,om⟩,_,by show 5-(r+1)<5-r;omega,rfl,trv,trv⟩
    ·obtain rfl:r=5:=by simp at hc;omega
     generalize hM:MR (S1.1.getD 0 0*cl) m S1.1 5=R1;have hRl:R1.1.length=6:=by rw[<-hM,jv,hSl]
     refine bv<|Xp<|Mv O<|Mv O<|bL O O (λw=>dR _ _ _ aC w) O O<|Mv O<|Exq O O<|Exq O O<|Ia (5) O O underlying119 sizeOf22<|bO 9 U64 hGF O O O sizeOf22 O (by rw[hRl];omega) O<|Asg O<|aa<|Xq<|Mv O<|Mv O<|Bnr O O (λ_=>aM _ _ _)<|Asg O<|aa<|Xq<|Bnr O O (λ_=>ay _ _ _ aG)<|Mv O<|aa<|?_
     repeat (refine bh ?_)
     exact aY<|⟨rfl,⟨i+1,om⟩,_,by show 6-(i+1)<6-i;omega,rfl,⟨rfl,rfl,rfl,rfl,rfl,by rw[nZ a b m cl i hS hM];rfl,rfl,rfl,trivial⟩,⟨rfl,rfl,rfl,by rw[nZ a b m cl i hS hM];rfl,trivial⟩⟩
  ·obtain rfl:i=6:=by simp at hc;omega
   refine bv<|Xp<|Lw 9 O O bU (eT _ _ _ _ _)<|Mv O<|Lw 5 O O bU hm<|Ca O (pA _ _ _ (eT _ _ _ _ _) hm)<|Sw 6 hGF O O O bU (jU _ _ _ (eT _ _ _ _ _))<|aa<|ao<|Rr<|?_;exact aF 6 O O O isAgg119 sizeOf119 (by rw[List.length_map];exact jU _ _ _ (eT _ _ _ _ _)) (λw hw=>⟨by rw[lS,if_neg h0,if_pos h1,MN,hcl],ae hw⟩)
 |false=>
  refine Xp<|Bx 3 hGF O<|λb3=>Bx 4 hGF O<|λb4=>Bx 5 hGF O<|λb5=>Al 6 hGF zv119<|λb6=>aa<|ah<|Xp<|Ia (0) O O underlying119 sizeOf22<|Lmq 5 U64 0 O O isAgg22 (by rw[hm];omega)<|Bnr O O (λ_=>fg _ _ _ aC)<|Bnr (v:=.bool false) O O (λw=>(bA _ _ _).trans (congrArg (λb=>Result.ok (Value.bool b) w) (beq_eq_false_iff_ne.2 h0)))<|aa<|aH O<|aw<|ah<|Xp<|Lw 3 O O bU ha<|Lw 5 O O bU hm<|Ca O (kS a m ha hm)<|bV (v:=.bool true) O (λ_=>(bP _).trans (by rw[h1];rfl)) O O<|aa<|aQ O<|Xp<|Al 7 hGF zv342<|λb7=>aa<|Xd []<|ct (l:=0) (h':=12) O underlying342 sizeOf22 O O om om O O<|ct (l:=0) (h':=6) O underlying119 sizeOf22 O O om om O O<|vX (cs:=a.map U64) 7 hGF O O O underlying58 GN (by rw[List.length_map,ha];rfl) (λw' h j v hv=>by rw[Addr.add_mid];exact av (n:=3) O w' h j v hv) (be _) (by rw[List.length_map,List.length_map,ha];decide) O O<|?_
  rw[ye a ha];refine aa<|Xq<|aq 7 O O isAgg342 sizeOf342 (by rw[List.length_map,List.length_append,ha,List.length_replicate]) O O<|Lw 5 O O bU hm<|Ca O (Aj (a++List.replicate 6 0) m (by rw[List.length_append,ha];rfl) hm)<|ai 3 hGF O O O sizeOf119 (by rw[List.length_map,rH _ _]) (by rw[List.length_map,ha]) (be _) O<|aa<|Xp<|Ia (0) O O underlying119 sizeOf22<|Lmq 5 U64 0 O O isAgg22 (by rw[hm];omega)<|Ca O (lP _)<|bV O (λ_=>pF _) O O<|Asg O<|?_
  generalize hcl: -(IV (m.getD 0 0) 5)=cl;refine aa<|Xp<|Al 9 hGF zv119<|λb9=>aa<|Xp<|Asg O<|aa<|ah<|Xp<|Lw 3 O O bU (rH _ _)<|Mv O<|aa<|au<|bW (ι:={i:Nat // i<=6}) (λx=>[(4,pnt b4),(5,pnt b5),(6,pnt b6),(8,U64 cl),(9,pnt b9),(10,U64 (MO (MOD (a++List.replicate 6 0) m) b m cl x.1).2),(38,bj ((MOD (a++List.replicate 6 0) m))),(39,I (x.1:Int))]) (λx=>[(4,b4,b.map U64,119),(5,b5,m.map U64,119),(6,b6,(List.replicate 6 0#64).map U64,119),(9,b9,(MO (MOD (a++List.replicate 6 0) m) b m cl x.1).1.map U64,119)]) (λx=>6-x.1) ⟨0,om⟩ hGF trv trv<|?_;rintro ⟨i,hi⟩;dsimp only;refine Xp<|Bnr O O (λ_=>aI _ _ _)<|aa<|ah<|?_;refine cx O (λhc=> ?_) (λhc=> ?_)
  ·simp only[decide_eq_true_eq]at hc
   refine aw<|ah<|au<|Xp<|kQ U64 0 (i) O O underlying119 sizeOf22 isAgg22 om om (rH _ _) O O<|Asg O<|aa<|Xp<|Asg O<|Asg O<|aa<|ah<|Xp<|Lw 4 O O bU hb<|Mv O<|aa<|au<|bW (ι:={i:Nat // i<=6}) (λx=>[(4,pnt b4),(5,pnt b5),(6,pnt b6),(8,U64 cl),(9,pnt b9),(10,U64 (MO (MOD (a++List.replicate 6 0) m) b m cl i).2),(38,bj ((MOD (a++List.replicate 6 0) m))),(39,I (i:Int)),(12,U64 ((MOD (a++List.replicate 6 0) m).getD i 0)),(13,U64 (MJ ((MOD (a++List.replicate 6 0) m).getD i 0) b (MO (MOD (a++List.replicate 6 0) m) b m cl i).1 x.1).2),(14,U64 0),(42,bj (b)),(43,I (x.1:Int))]) (λx=>[(4,b4,b.map U64,119),(5,b5,m.map U64,119),(6,b6,(List.replicate 6 0#64).map U64,119),(9,b9,(MJ ((MOD (a++List.replicate 6 0) m).getD i 0) b (MO (MOD (a++List.replicate 6 0) m) b m cl i).1 x.1).1.map U64,119)]) (λx=>6-x.1) ⟨0,om⟩ hGF trv trv<|?_;rintro ⟨j,hj⟩;dsimp only;refine Xp<|Bnr O O (λ_=>aI _ _ _)<|aa<|ah<|?_;refine cx O (λhc=> ?_) (λhc=> ?_)
   ·simp only[decide_eq_true_eq]at hc
    refine aw<|ah<|au<|Xp<|Mv O<|kQ U64 0 (j) O O underlying119 sizeOf22 isAgg22 om om (hb) O O<|Asg O<|Asg O<|aa<|Xq<|Mv O<|Mv O<|Mv O<|Mv O<|Ia (j) O O underlying119 sizeOf22<|Lmq 9 U64 0 O O isAgg22 (by rw[kE,eT];omega)<|Mv O<|Ca O (fW _ _ _ _)<|Mv O<|Exq O O<|Exq O O<|Ia (j) O O underlying119 sizeOf22<|bO 9 U64 hGF O O O sizeOf22 O (by rw[kE,eT];omega) O<|Asg O<|aa<|Xq<|Bnr O O (λ_=>ay _ _ _ aG)<|Mv O<|aa<|?_
    repeat (refine bh ?_)
    exact aY<|⟨rfl,⟨j+1,om⟩,_,by show 6-(j+1)<6-j;omega,rfl,trv,trv⟩
   ·obtain rfl:j=6:=by simp at hc;omega
    generalize hS:MJ ((MOD (a++List.replicate 6 0) m).getD i 0) b (MO (MOD (a++List.replicate 6 0) m) b m cl i).1 6=S1;have hSl:S1.1.length=6:=by rw[<-hS,kE,eT]
    refine bv<|Xp<|Mv O<|Mv O<|bL O O (λw=>dR _ _ _ aC w) O O<|Mv O<|Exq O O<|Exq O O<|Asg O<|Asg O<|aa<|Xp<|Ia (0) O O underlying119 sizeOf22<|Lmq 9 U64 0 O O isAgg22 (by rw[hSl];omega)<|Mv O<|Bnr O O (λ_=>cy _ _ _)<|Asg O<|aa<|Xp<|Mv O<|Ia (0) O O underlying119 sizeOf22<|Lmq 5 U64 0 O O isAgg22 (by rw[hm];omega)<|Ia (0) O O underlying119 sizeOf22<|Lmq 9 U64 0 O O isAgg22 (by rw[hSl];omega)<|Ca O (fW _ _ _ _)<|Mv O<|Exq O O<|Exq O O<|Asg O<|aa<|ah<|Xp<|Asg O<|aa<|au<|bW (ι:={i:Nat // i<=5}) (λx=>[(4,pnt b4),(5,pnt b5),(6,pnt b6),(8,U64 cl),(9,pnt b9),(10,U64 (ADC (MO (MOD (a++List.replicate 6 0) m) b m cl i).2 S1.2 0).1),(38,bj ((MOD (a++List.replicate 6 0) m))),(39,I (i:Int)),(14,U64 (ADC (MO (MOD (a++List.replicate 6 0) m) b m cl i).2 S1.2 0).2),(17,U64 (S1.1.getD 0 0*cl)),(13,U64 (MR (S1.1.getD 0 0*cl) m S1.1 x.1).2),(18,I ((x.1+1:Nat):Int))]) (λx=>[(4,b4,b.map U64,119),(5,b5,m.map U64,119),(6,b6,(List.replicate 6 0#64).map U64,119),(9,b9,(MR (S1.1.getD 0 0*cl) m S1.1 x.1).1.map U64,119)]) (λx=>5-x.1) ⟨0,om⟩ hGF trv trv<|?_
    rintro ⟨r,hr⟩;dsimp only;refine ah<|Xp<|Mv O<|Bnr O O (λ_=>aI _ _ _)<|aa<|?_;refine cx O (λhc=> ?_) (λhc=> ?_)
    ·simp only[decide_eq_true_eq]at hc
     refine aw<|ah<|au<|Xe []<|Mv O<|Bnr (v:=I (r:Int)) O O (λ_=>(bC _ _ _ aG).trans (by rw[show (((r+1:Nat):Int)-1)=(r:Int) by omega]))<|Mv O<|Mv O<|Ia ((r+1)) O O underlying119 sizeOf22<|Lmq 5 U64 0 O O isAgg22 (by rw[hm];omega)<|Mv O<|Ia ((r+1)) O O underlying119 sizeOf22<|Lmq 9 U64 0 O O isAgg22 (by rw[jv,hSl];omega)<|Mv O<|Ca O (fW _ _ _ _)<|Mv O<|Exq O O<|Exq O O<|Ia (r) O O underlying119 sizeOf22<|bO 9 U64 hGF O O O sizeOf22 O (by rw[jv,hSl];omega) O<|Asg O<|aa<|Xq<|Mv O<|Bnr O O (λ_=>ay _ _ _ aG)<|Asg O<|aa<|?_
     repeat (refine bh ?_)
     exact aY<|⟨rfl,⟨r+1,om⟩,_,by show 5-(r+1)<5-r;omega,rfl,trv,trv⟩
    ·obtain rfl:r=5:=by simp at hc;omega
     generalize hM:MR (S1.1.getD 0 0*cl) m S1.1 5=R1;have hRl:R1.1.length=6:=by rw[<-hM,jv,hSl]
     refine bv<|Xp<|Mv O<|Mv O<|bL O O (λw=>dR _ _ _ aC w) O O<|Mv O<|Exq O O<|Exq O O<|Ia (5) O O underlying119 sizeOf22<|bO 9 U64 hGF O O O sizeOf22 O (by rw[hRl];omega) O<|Asg O<|aa<|Xq<|Mv O<|Mv O<|Bnr O O (λ_=>aM _ _ _)<|Asg O<|aa<|Xq<|Bnr O O (λ_=>ay _ _ _ aG)<|Mv O<|aa<|?_
     repeat (refine bh ?_)
     exact aY<|⟨rfl,⟨i+1,om⟩,_,by show 6-(i+1)<6-i;omega,rfl,⟨rfl,rfl,rfl,rfl,rfl,by rw[nZ (MOD (a++List.replicate 6 0) m) b m cl i hS hM];rfl,rfl,rfl,trivial⟩,⟨rfl,rfl,rfl,by rw[nZ (MOD (a++List.replicate 6 0) m) b m cl i hS hM];rfl,trivial⟩⟩
  ·obtain rfl:i=6:=by simp at hc;omega
   refine bv<|Xp<|Lw 9 O O bU (eT _ _ _ _ _)<|Mv O<|Lw 5 O O bU hm<|Ca O (pA _ _ _ (eT _ _ _ _ _) hm)<|Sw 6 hGF O O O bU (jU _ _ _ (eT _ _ _ _ _))<|aa<|ao<|Rr<|?_;exact aF 6 O O O isAgg119 sizeOf119 (by rw[List.length_map];exact jU _ _ _ (eT _ _ _ _ _)) (λw hw=>⟨by rw[lS,if_neg h0,if_neg (by rw[h1];decide),MN,hcl],ae hw⟩)
end
section
open Go.RowKit
theorem PLl:PL.length=6:=rfl
theorem mE:TWO.length=6:=rfl
theorem mB:ONE.length=6:=rfl
theorem N1l:N1.length=6:=rfl
theorem mw:IVP.length=6:=rfl
theorem mF:HFP.length=6:=rfl
theorem mo:RTP.length=6:=rfl
attribute [local simp] dZ fJ bR bz dw cG cH ce ef PLl mE mB N1l mw mF mo
abbrev EV(x:Zp):Value:=bj (fe x)
abbrev NV(n:L6):Value:=bj n
theorem zv189(w:World):(zeroValue 189).run prog w=.ok (bj (List.replicate 6 (0#64))) w:=(zeroValue189 w).trans aE
theorem zQ(op:BinOp)(x y:Operand)(xs ys:Array Value)(w:World):(eqGuard op 119 x y (.agg xs) (.agg ys)).run prog w=.ok () w:=run_eqGuard_agg w op 119 x y xs ys kr
theorem BS(xs ys:L6)(h:xs.length=6)(h':ys.length=6)(w:World):(binOp .eql 119 (bj xs) (bj ys)).run prog w=.ok (.bool (decide (xs=ys))) w:=p6 underlying119 underlying22 sizeOf22 isAgg22 xs ys h h' w
theorem qJ(x y:Zp):decide (fe x=fe y)=decide (x=y):=decide_eq_decide.2 HJ
theorem Fq{x y:BitVec 64}(h:(x==y)=true):x=y:=beq_iff_eq.1 h
theorem Fz{x y:BitVec 64}(h:(x==y)=false): ¬x=y:=beq_eq_false_iff_ne.1 h
theorem ent190:aL prog 190:=λ_ _=>kr
theorem ent244:aL prog 244:=λ_ _=>kr
theorem ent194:aL prog 194:=λ_ _=>kr
theorem ent292:aL prog 292:=λ_ _=>kr
theorem ent321:aL prog 321:=λ_ _=>kr
theorem bF(x y:Zp):PUR 290 [EV x,EV y] (EV (x*y)):=by
 intro w hw;refine Hf func290 O hw<|λhGF=>Xp<|Bx 2 hGF O<|λb2=>Bx 3 hGF O<|λb3=>Al 4 hGF zv189<|λb4=>aa<|Xp<|Fa 0 O underlying189 O sizeOf119<|La 2 O O bU<|Fa 0 O underlying189 O sizeOf119<|La 3 O O bU<|lM hGF isAgg119 sizeOf119 aB (λ_ h=>h.g0) O O<|Ca O (ns _ _ _ aB aB aB)<|du O aB underlying189 O sizeOf119 zv189 O O<|Sa 4 hGF O O O aW<|aa<|ao<|Rr<|?_;exact aF 4 O O O isAgg189 sizeOf189 aB (λw hw=>⟨by rw[DU],ae hw⟩)
theorem qc(n:L6)(hn:n.length=6):PUR 212 [NV n] (EV (zp (V n 6))):=by
 intro w hw;refine Hf func212 O hw<|λhGF=>Xp<|Bx 1 hGF O<|λb1=>Al 2 hGF zv189<|λb2=>aa<|Xp<|lM hGF isAgg119 sizeOf119 (by first|(simp;done)|simp[hn]) (λ_ h=>h.g2) O O<|aq 1 O O isAgg119 sizeOf119 (by first|(simp;done)|simp[hn]) O O<|lM hGF isAgg119 sizeOf119 (by first|(simp;done)|simp[hn]) (λ_ h=>h.g0) O O<|Ca O (ns _ _ _ (by first|(simp;done)|simp[hn]) (by first|(simp;done)|simp[hn]) (by first|(simp;done)|simp[hn]))<|du O (by first|(simp;done)|simp[hn]) underlying189 O sizeOf119 zv189 O O<|ai 2 hGF O O O sizeOf189 (by first|(simp;done)|simp[hn]) (by first|(simp;done)|simp[hn]) (be _) O<|aa<|ao<|Rr<|?_
 exact aF 2 O O O isAgg189 sizeOf189 (by first|(simp;done)|simp[hn]) (λw hw=>⟨by rw[A9],ae hw⟩)
theorem sK(x:Zp):PUR 293 [EV x] (NV (nm x)):=by
 intro w hw;refine Hf func293 O hw<|λhGF=>Xp<|Bx 1 hGF O<|λb1=>Al 2 hGF zv119<|λb2=>aa<|Xp<|Fa 0 O underlying189 O sizeOf119<|La 1 O O bU<|gS 1 O underlying119 sizeOf22 zv119 O O<|lM hGF isAgg119 sizeOf119 aB (λ_ h=>h.g0) O O<|Ca O (ns _ _ _ aB aB aB)<|Sa 2 hGF O O O bU<|aa<|ao<|Rr<|?_;exact aF 2 O O O isAgg119 sizeOf119 aB (λw hw=>⟨by rw[<-AK];rfl,ae hw⟩)
theorem v9(n:BitVec 64): ∀k,V (n::List.replicate 5 0) (k+1)=n.toNat
 |0=>by rw[u3,V,Nat.mul_zero,Nat.pow_zero,Nat.mul_one,Nat.zero_add];rfl
 |k+1=>by
  have h0:(n::List.replicate 5 (0:BitVec 64)).getD (k+1) 0=0:=by
   rw[List.getD_eq_getElem?_getD,List.getElem?_cons_succ,List.getElem?_replicate];split<;>rfl
  rw[u3,v9 n k,h0,show (0:BitVec 64).toNat=0 from O,Nat.zero_mul,Nat.add_zero]
theorem DR(n:BitVec 64):V (n::List.replicate 5 0) 6=n.toNat:=v9 n 5
theorem tX(n:BitVec 64):PUR 232 [U64 n] (EV (zp n.toNat)):=by
 intro w hw;refine Hf func232 O hw<|λhGF=>Xp<|Al 2 hGF zv189<|λb2=>aa<|Xp<|Mv O<|gS n O underlying119 sizeOf22 zv119 O O<|Ca O (qc _ aB)<|Sa 2 hGF O O O aW<|aa<|ao<|Rr<|?_;exact aF 2 O O O isAgg189 sizeOf189 aB (λw hw=>⟨by rw[DR],ae hw⟩)
theorem f6(x y:Zp):PUR 244 [EV x,EV y] (.bool (decide (x=y))):=by
 intro w hw;refine Hf func244 O hw<|λhGF=>Xp<|Bx 2 hGF O<|λb2=>Bx 3 hGF O<|λb3=>Asg O<|aa<|Xp<|Fa 0 O underlying189 O sizeOf119<|La 2 O O bU<|Fa 0 O underlying189 O sizeOf119<|La 3 O O bU<|dv O O (λ_=>zQ _ _ _ _ _ _) (λw=>BS _ _ aB aB w) O O<|Asg O<|aa<|ao<|Rr<|?_;exact ar O O (λw hw=>⟨by rw[qJ],ae hw⟩)
theorem ed(x:Zp):PUR 194 [EV x] (.bool (decide (x=0))):=by
 intro w hw;refine Hf func194 O hw<|λhGF=>Xp<|Bx 1 hGF O<|λb1=>Asg O<|aa<|Xp<|Fa 0 O underlying189 O sizeOf119<|La 1 O O bU<|ew zv119 underlying119 sizeOf22 O O<|dv O O (λ_=>zQ _ _ _ _ _ _) (λw=>BS _ _ aB aB w) O O<|Asg O<|aa<|ao<|Rr<|?_;exact ar O O (λw hw=>⟨by rw[<-yw,qJ],ae hw⟩)
theorem kR(x y:Zp):PUR 241 [EV x,EV y] (EV (x+y)):=by
 intro w hw;refine Hf func241 O hw<|λhGF=>Xp<|Bx 2 hGF O<|λb2=>Bx 3 hGF O<|λb3=>Al 4 hGF zv189<|λb4=>aa<|Xp<|Fa 0 O underlying189 O sizeOf119<|La 2 O O bU<|Fa 0 O underlying189 O sizeOf119<|La 3 O O bU<|Ca O (pI _ _ aB aB)<|Mv O<|Exq O O<|Exq O O<|Al 5 hGF zv119<|λb5=>Sa 5 hGF O O O bU<|Asg O<|aa<|Xp<|La 5 O O bU<|lM hGF isAgg119 sizeOf119 aB (λ_ h=>h.g0) O O<|Ca O (kv _ _ aB aB)<|Mv O<|Exq O O<|Exq O O<|Al 7 hGF zv119<|λb7=>Sa 7 hGF O O O bU<|Asg O<|aa<|ah<|Xp<|Mv O<|Bnr O O (λ_=>bA _ _ _)<|aa<|?_;refine cx O (λhc=> ?_) (λhc=> ?_)
 ·refine Xp<|La 5 O O bU<|du O aB underlying189 O sizeOf119 zv189 O O<|Sa 4 hGF O O O aW<|aa<|ao<|Rr<|?_
  exact aF 4 O O O isAgg189 sizeOf189 aB (λw hw=>⟨by rw[Ep (GA (Fq hc))],ae hw⟩)
 ·refine aw<|Xp<|La 7 O O bU<|du O aB underlying189 O sizeOf119 zv189 O O<|Sa 4 hGF O O O aW<|aa<|ao<|Rr<|?_
  exact aF 4 O O O isAgg189 sizeOf189 aB (λw hw=>⟨by rw[B1 (AJ (qo _ _ _) (Fz hc))],ae hw⟩)
theorem ri(x y:Zp):PUR 233 [EV x,EV y] (EV (x-y)):=by
 intro w hw;refine Hf func233 O hw<|λhGF=>Xp<|Bx 2 hGF O<|λb2=>Bx 3 hGF O<|λb3=>Al 4 hGF zv189<|λb4=>aa<|Xp<|Fa 0 O underlying189 O sizeOf119<|La 2 O O bU<|Fa 0 O underlying189 O sizeOf119<|La 3 O O bU<|Ca O (kv _ _ aB aB)<|Mv O<|Exq O O<|Exq O O<|Al 5 hGF zv119<|λb5=>Sa 5 hGF O O O bU<|Asg O<|aa<|ah<|Xp<|Mv O<|Bnr O O (λ_=>bA _ _ _)<|aa<|?_;refine cx O (λhc=> ?_) (λhc=> ?_)
 ·refine Xq<|La 5 O O bU<|lM hGF isAgg119 sizeOf119 aB (λ_ h=>h.g0) O O<|Ca O (pI _ _ aB aB)<|Mv O<|Exq O O<|Exq O O<|Sa 5 hGF O O O bU<|aa<|Xp<|La 5 O O bU<|du O aB underlying189 O sizeOf119 zv189 O O<|Sa 4 hGF O O O aW<|aa<|ao<|Rr<|?_
  exact aF 4 O O O isAgg189 sizeOf189 aB (λw hw=>⟨by rw[Dr (Fq hc)],ae hw⟩)
 ·refine aw<|Xp<|La 5 O O bU<|du O aB underlying189 O sizeOf119 zv189 O O<|Sa 4 hGF O O O aW<|aa<|ao<|Rr<|?_
  exact aF 4 O O O isAgg189 sizeOf189 aB (λw hw=>⟨by rw[AV (AJ (qo _ _ _) (Fz hc))],ae hw⟩)
theorem nv(x:Zp):PUR 203 [EV x] (EV (-x)):=by
 intro w hw;refine Hf func203 O hw<|λhGF=>Xp<|Bx 1 hGF O<|λb1=>Al 2 hGF zv189<|λb2=>aa<|Xp<|iO zv189 underlying189 (rY sizeOf119) O O<|La 1 O O aW<|Ca O ((show PUR 233 [NV (List.replicate 6 0#64),EV x] (EV (0-x)) by rw[<-yw];exact ri 0 x))<|Sa 2 hGF O O O aW<|aa<|ao<|Rr<|?_
 exact aF 2 O O O isAgg189 sizeOf189 aB (λw hw=>⟨by rw[show (0:Zp)-x= -x by grind],ae hw⟩)
theorem bX(x:Zp):PUR 243 [EV x] (EV (x*x)):=by
 intro w hw;refine Hf func243 O hw<|λhGF=>Xp<|Bx 1 hGF O<|λb1=>Al 2 hGF zv189<|λb2=>aa<|Xp<|La 1 O O aW<|La 1 O O aW<|Ca O (bF _ _)<|Sa 2 hGF O O O aW<|aa<|ao<|Rr<|?_;exact aF 2 O O O isAgg189 sizeOf189 aB (λw hw=>⟨rfl,ae hw⟩)
end
section
open Go.RowKit
theorem ent341:aL prog 341:=λ_ _=>kr
attribute [local simp] dZ fJ bR bz dw cG cH ce ef PLl mE mB N1l mw mF mo eQ gt
theorem zv366(w:World):(zeroValue 366).run prog w=.ok (bj (FL (λ_=>List.replicate 6 0#64) 16)) w:=(zeroValue366 w).trans aE
theorem q6:PUR 232 [U64 1#64] (EV 1):=tX 1#64
theorem tR(x:Zp):PUR 320 [EV x] (bj (SP x 16)):=by
 intro w hw;refine Hf func320 O hw<|λhGF=>Xp<|Bx 1 hGF O<|λb1=>Al 2 hGF zv366<|λb2=>aa<|Xp<|Ca O (q6)<|yr O aB aC underlying366 sizeOf189 zv366 O O<|Al 3 hGF zv366<|λb3=>Sa 3 hGF O O O v7<|aa<|ah<|Xp<|Asg O<|aa<|au<|bW (ι:={i:Nat // 1<=i/\i<=16}) (λy=>[(1,pnt b1),(2,pnt b2),(3,pnt b3),(4,I (y.1:Int))]) (λy=>[(1,b1,(fe x).map U64,189),(2,b2,(FL (λ_=>List.replicate 6 0#64) 16).map U64,366),(3,b3,(SP x y.1).map U64,366)]) (λy=>16-y.1) ⟨1,om⟩ hGF trv ⟨rfl,rfl,by rw[<-Gy];rfl,trivial⟩<|?_
 rintro ⟨i,hi⟩;dsimp only;refine ah<|Xp<|Mv O<|Bnr O O (λ_=>aI _ _ _)<|aa<|?_;refine cx O (λhc=> ?_) (λhc=> ?_)
 ·simp only[decide_eq_true_eq]at hc
  refine aw<|ah<|au<|Xe []<|Mv O<|Mv O<|Bnr O O (λ_=>bC _ _ _ aG)<|iw (i-1) (6*(i-1)) O O underlying366 sizeOf189 om om om O O<|bp 3 ((fe (x^(i-1))).map U64) O O isAgg189 sizeOf189 aB (sC x i (i-1) om om _ O) O O<|La 1 O O aW<|Ca O (bF _ _)<|iw (i) (6*(i)) O O underlying366 sizeOf189 om om om O O<|dP 3 ((SP x (i+1)).map U64) hGF O O O sizeOf189 aB (be _) (by rw[List.length_map,List.length_map,dZ,gt];omega) (DF x i om om _ O) O<|aa<|Xq<|Mv O<|Bnr O O (λ_=>ay _ _ _ aG)<|Asg O<|aa<|?_
  repeat (refine bh ?_)
  exact aY<|⟨rfl,⟨i+1,om⟩,_,by show 16-(i+1)<16-i;omega,rfl,trv,trv⟩
 ·obtain rfl:i=16:=by simp at hc;omega
  refine bv<|Xp<|La 3 O O v7<|Sa 2 hGF O O O v7<|aa<|ao<|Rr<|?_;exact aF 2 O O O isAgg366 sizeOf366 aB (λw hw=>⟨rfl,ae hw⟩)
def RdD(bb:Nat)(e:Option Addr)(cap:Nat)(bs:L8):Cls:=λW=>W.cell? ⟨bb,0,none⟩=some (.slice e bs.length cap)/\BytesAt W e bs
def NB(bs:L8):List (List Value):=(List.range (2*bs.length)).map λm=>[U8 (NBv bs m)]
theorem uT(bs:L8):(NB bs).length=2*bs.length:=by simp[NB]
theorem uI(bs:L8)(m:Nat)(h:m<2*bs.length):(NB bs)[m]? =some [U8 (NBv bs m)]:=by
 rw[NB,List.getElem?_map,List.getElem?_range h];rfl
theorem Kl(bs:L8)(m:Nat)(x:List Value)(h:(NB bs)[m]? =some x):m<2*bs.length/\x=[U8 (NBv bs m)]:=by
 have hm:m<2*bs.length:=by
  rcases Nat.lt_or_ge m (2*bs.length)with h'|h'
  ·exact h'
  ·rw[List.getElem?_eq_none (by rw[uT];exact h')]at h;cases h
 rw[uI bs m hm]at h;exact ⟨hm,(Option.some.inj h).symm⟩
theorem MF(bs:L8)(i:Nat)(h:i<bs.length):(NB bs)[2*i]? =some [U8 (bs.getD i 0>>>4)]:=by
 rw[uI bs _ om,NBv,if_pos om,show 2*i / 2=i by omega]
theorem Kk(bs:L8)(i:Nat)(h:i<bs.length):(NB bs)[2*i+1]? =some [U8 (bs.getD i 0 % 16#8)]:=by
 rw[uI bs _ om,NBv,if_neg om,show (2*i+1) / 2=i by omega]
theorem qv(sv:Value)(hs:sv.cells= #[sv])(w:World)(hw:Gt w):CLS 321 [sv].toArray w (λe w'=> ∃b1,e=.returned (.func (.func 341) #[] #[pnt b1])/\Grow w w'/\w.heap.size<=b1/\OwnB w' b1 [sv] 123):=by
 refine Hf func321 O hw<|λhGF=>Xp<|gH 1 hGF O O O<|λb1=>Asg O<|aa<|Xp<|dV O O O O<|Asg O<|aa<|ao<|Rr<|?_;exact ar O O (λw hw=>⟨b1,rfl,ae hw,(hw.own 1 b1 _ _ O).2.elim id False.elim,(by have:=(hw.own 1 b1 _ _ O).1;rw[hs]at this;exact this)⟩)
theorem tQ(bb:Nat)(e:Option Addr)(cap:Nat)(bs:L8)(hlen:bs.length<=1000000):jH prog Gt 341 [pnt bb] (NB bs) (RdD bb e cap bs):=by
 intro l J Jx hJ hJx hRd hGx hY w hj;have okJ: ∀k,BOk Gt (Bi w (λY=>J Y k)):=λk=>⟨λ_ _ _ h=>(hRd _ _ _ h.rid).1,hJ k⟩;have okX: ∀k,BOk Gt (Bi w (λY=>Jx Y k)):=λk=>⟨λ_ _ _ h=>hGx _ _ _ h.rid,hJx k⟩;have c1: ∀k L w',Hp (Bi w (λY=>J Y k)) L w'->RdD bb e cap bs w':=λk L w' h=>(hRd _ _ _ h.rid).2;have hby:=(hRd _ _ _ hj).2.2;refine eM (G:=Gt) func341 O O (Hp (Bi w (λY=>J Y 0)) []) (cO (Bi w _) hj (hJ 0)) (aU (okJ 0))<|Xp<|aT O isAgg123 (λw h=>(c1 _ _ w h).1) O O<|bB O (λ_=>aO underlying123 _ _ _ _) O O<|Mv O<|aa<|au<|j0 (ι:={i:Nat // i<=bs.length}) (λx=>[(0,.func (.yield l) #[] #[]),(1,pnt bb),(5,.slice e bs.length cap),(6,I (bs.length:Int)),(7,I (x.1:Int))]) (λx=>Bi w (λY=>J Y (2*x.1))) (λx=>[]) (λx=>bs.length-x.1) ⟨0,Nat.zero_le _⟩ (λ_=>okJ _) O trv trivial<|?_;rintro ⟨i,hi⟩;dsimp only;refine Xp<|Bnr O O (λ_=>aI _ _ _)<|aa<|ah<|?_;refine cx O (λhc=> ?_) (λhc=> ?_)
 ·simp only[decide_eq_true_eq]at hc
  have hi2:i<bs.length:=om;refine aw<|ah<|au<|Xp<|?_;obtain ⟨ad,rfl,_⟩:=hby i _ (gm U8 bs 0 i om);refine io i O O underlying123 sizeOf5 O om O O<|aT O isAgg5 (λw' h=>by obtain ⟨ad',e',hc'⟩:=(c1 _ _ w' h).2 i _ (gm U8 bs 0 i om);cases e';exact hc') O O<|Asg O<|aa<|yW (E:=EE []) 4<|Mv O<|Mv O<|Bnr (v:=U8 (bs.getD i 0>>>4)) O O (λ_=>uF _ _ 4#64)<|?_
  refine e5 (hY.b (k:=2*i) (MF bs i om) w) (okJ _) (okX _) O O O O O ?_ ?_
  ·refine aa ?_
   refine ⟨EE [], ?_⟩;refine bV O (λ_=>bP _) O O<|Mv O<|Mv O<|Mv O<|Bnr (v:=U8 (bs.getD i 0 % 16#8)) O O (λ_=>vi _ _ 16#8 aC)<|?_;refine e5 (hY.b (k:=2*i+1) (Kk bs i om) w) (okJ _) (okX _) O O O O O ?_ ?_
   ·refine bV O (λ_=>bP _) O O<|Pk O O O<|aa<|aH O<|aw<|Xq<|Bnr O O (λ_=>ay _ _ _ aG)<|Mv O<|aa<|?_
    rw[show 2*i+1+1=2*(i+1) by omega]
    repeat (refine bh ?_)
    exact aY<|⟨rfl,⟨i+1,om⟩,_,by show bs.length-(i+1)<bs.length-i;omega,rfl,trv,trivial⟩
   ·refine bV O (λ_=>bP _) O O<|Pk O O O<|aa<|aQ O<|ao<|Rr<|?_
    repeat (first|refine iT ?_|refine iq ?_|refine ip O ?_|refine da ?_|refine db ?_)
    exact em O (λw hw=>⟨⟨_,rfl⟩,.inr ⟨_,di (hJx _) hw.rid⟩⟩)
  ·refine aa ?_
   refine ⟨EE [3000000], ?_⟩;refine bV O (λ_=>bP _) O O<|Mv O<|Sk<|Sk<|Sk<|Sk<|Sk<|Pk O O O<|aa<|aQ O<|ao<|Rr<|?_
   repeat (first|refine iT ?_|refine iq ?_|refine ip O ?_|refine da ?_|refine db ?_)
   exact em O (λw hw=>⟨⟨_,rfl⟩,.inr ⟨_,di (hJx _) hw.rid⟩⟩)
 ·simp only[decide_eq_false_iff_not]at hc
  obtain rfl:i=bs.length:=om;refine bv ?_
  repeat (first|refine iT ?_|refine iq ?_|refine ip O ?_|refine da ?_|refine db ?_)
  refine ec O (λw hw=>⟨⟨_,rfl⟩,.inl ?_⟩);have:=di (hJ _) hw.rid;rw[uT];exact this
end
section
open Go.RowKit
attribute [local simp] dZ fJ bR bz dw cG cH ce ef PLl mE mB N1l mw mF mo eQ gt
theorem uP(x:Zp)(e:Option Addr)(cap:Nat)(bs:L8)(hlen:bs.length<=1000000)(w:World)(hw:Gt w)(hby:BytesAt w e bs):
 CLS 292 [EV x,.slice e bs.length cap].toArray w (λr w'=>r=.returned (EV (x^BN bs bs.length))/\Grow w w'):=by
 have hGF:BOk Gt (pl w):=gt_low.plain hw;refine fc (G:=Gt) func292 O O (Hp (pl w) []) (cO (pl w) trivial aJ) (aU hGF)<|am (E:=EE [321])<|Bx 2 hGF O<|λb2=>Al 4 hGF zv189<|λb4=>aa<|am (E:=EE [321])<|La 2 O O aW<|Ca O (tR _)<|Al 5 hGF zv366<|λb5=>Sa 5 hGF O O O v7<|aa<|am (E:=EE [321])<|iw 0 0 O O underlying366 sizeOf189 O aC O O O<|bp 5 ((fe (x^0)).map U64) O O isAgg189 sizeOf189 aB (sC x 16 0 aC aC 0 O) O O<|Al 6 hGF zv189<|λb6=>Sa 6 hGF O O O aW<|aa<|ah<|am (E:=EE [321])<|Mv O<|?_;refine cn O O ent321 O O (λw' hw'=>(qv _ O w' (hGF.g _ _ _ hw')).mono λe' w'' h=> ?_);obtain ⟨c1,rfl,hg,h1,ho⟩:=h;refine ⟨_,_,rfl,aU hGF,hw'.news aJ hg [(33,c1,[.slice e bs.length cap],123)] ?_ cE, ?_⟩
 ·intro n' b' c' t' hl
  rcases bx hl with ⟨_,e⟩|⟨_,hl⟩
  ·cases e;exact ⟨h1,ho⟩
  ·cases hl
 clear hw' hg h1 ho;refine aa<|au<|?_;refine j1 (λ_=>pl w) (λ_ _=>pl w) (λ_=>hGF) (λ_ _=>hGF) (λ_=>rfl) (λ_ _=>rfl) O O ent341 (tQ c1 e cap bs hlen) (λx hx=>by obtain ⟨k,hk,rfl⟩:=List.mem_map.1 hx;rfl) O (λk=>[(2,b2,(fe x).map U64,189),(4,b4,(List.replicate 6 0#64).map U64,189),(5,b5,(SP x 16).map U64,366),(6,b6,(fe (x^DN bs k)).map U64,189),(33,c1,[.slice e bs.length cap],123)]) (λ_ _ _=>False) ⟨rfl,rfl,rfl,by rw[DN];rfl,rfl,trivial⟩ (λk _ w' h=>⟨dC (n:=33) O O w' h,hby.grow (h.below (λ_ h=>h))⟩) ?_ ?_ (λ_ _ _ _ _ h=>h.elim)
 ·intro k v hx R hR
  obtain ⟨hk,rfl⟩:=Kl bs k v hx;have hlt:=Ht bs k;refine cv (E:=EE [321])<|Asg O<|aa<|?_;refine ⟨rfl,_,rfl, ?_⟩;refine au<|ah<|am (E:=EE [321])<|Mv O<|aa<|au<|bW (ι:={i:Nat // i<=4}) (λj=>[(5,pnt b5),(6,pnt b6),(7,U8 (NBv bs k)),(15,I (j.1:Int))]) (λj=>[(2,b2,(fe x).map U64,189),(4,b4,(List.replicate 6 0#64).map U64,189),(5,b5,(SP x 16).map U64,366),(6,b6,(fe (x^(2^j.1*DN bs k))).map U64,189),(33,c1,[.slice e bs.length cap],123)]) (λj=>4-j.1) ⟨0,om⟩ (hR (pl w) O hGF).2.1 trv ⟨rfl,rfl,rfl,by rw[Nat.pow_zero,Nat.one_mul];rfl,rfl,trivial⟩<|?_
  rintro ⟨j,hj⟩;dsimp only;refine am (E:=EE [321])<|Bnr O O (λ_=>aI _ _ _)<|aa<|ah<|?_;refine cx O (λhc=> ?_) (λhc=> ?_)
  ·simp only[decide_eq_true_eq]at hc
   refine aw<|ah<|au<|cv (E:=EE [321])<|La 6 O O aW<|Ca O (bX _)<|ai 6 (hR (pl w) O hGF).2.1 O O O sizeOf189 aB aB (be _) O<|aa<|cv (E:=EE [321])<|Bnr O O (λ_=>ay _ _ _ aG)<|Mv O<|aa<|?_
   repeat (refine bh ?_)
   exact aY<|⟨rfl,⟨j+1,om⟩,_,by show 4-(j+1)<4-j;omega,rfl,trv,⟨rfl,rfl,rfl,by rw[<-Eb];rfl,rfl,trivial⟩⟩
  ·obtain rfl:j=4:=by simp at hc;omega
   refine bv<|Xe [321]<|La 6 O O aW<|Mv O<|Dq (6*(NBv bs k).toNat) O O underlying366 sizeOf189 hlt om O O<|bp 5 ((fe (x^(NBv bs k).toNat)).map U64) O O isAgg189 sizeOf189 aB (sC x 16 _ hlt (Nat.le_refl _) _ O) O O<|Ca O (Ak x bs k▸bF (x^(2^4*DN bs k)) (x^(NBv bs k).toNat))<|ai 6 (hR (pl w) O hGF).2.1 O O O sizeOf189 aB aB (be _) O<|aa<|?_
   repeat (refine bh ?_)
   exact ⟨_,rfl,trv⟩
 ·intro D hD
  rw[uT,Cs];refine am (E:=EE [321])<|La 6 O O aW<|Sa 4 hD O O O aW<|aa<|ao<|Rr<|?_;exact iD (.inl O) aJ (aF 4 O O O isAgg189 sizeOf189 aB (λw hw=>⟨rfl,ae hw⟩))
end
def hf:Nat:=(PP-1) / 2
def rg:Nat:=(PP+1) / 4
theorem Hk:PP % 4=3:=by decide+kernel
theorem Gz:2*hf+1=PP:=by have:=Hk;unfold hf;omega
theorem zq(x:Zp):LT HFP (nm x) 6=decide (hf<x.val):=by rw[pW,LK,DE];rfl
def SQr(x:Zp):Zp:=x^rg
def SQn(x:Zp):Zp:=if hf<(SQr x).val then-(SQr x)else SQr x
def SQ(x:Zp):Zp:=if SQr x*SQr x=x then SQn x else 0
def FO(bs:L8):Bool:=decide (bs.length=48/\BN bs 48<PP)
def FV(bs:L8):Zp:=if bs.length=48/\BN bs 48<PP then zp (BN bs 48)else 0
section
open Go.RowKit
attribute [local simp] dZ fJ bR bz dw cG cH ce ef PLl mE mB N1l mw mF mo eQ gt
theorem IQ(x:Zp)(b:Nat)(t:TypeId)(bs:L8)(h48:bs.length=48)(w:World)(hw:Gt w)(ho:OwnB w b (bs.map U8) t):
 CLS 292 [EV x,.slice (spt b) 48 48].toArray w (λr w'=>r=.returned (EV (x^BN bs 48))/\Grow w w'):=by
 have h:=uP x (spt b) 48 bs om w hw (BytesAt.range ho.range);rw[h48]at h;exact h
theorem tp(a:Option Addr)(len cap:Nat)(bs:L8)(hl:bs.length=len)(h:len<=48)(w:World)(hw:Gt w)(hby:BytesAt w a bs):
 CLS 210 [.slice a len cap].toArray w (λe w'=>e=.returned (.tuple #[NV (FRs bs bs.length),.bool true])/\Grow w w'):=by
 subst hl;exact (vI a cap bs w hw hby).mono λe w' ⟨he,hg⟩=>⟨by rw[he,if_neg om],hg⟩
theorem ux(x:Zp)(n:L6)(hn:n.length=6):PUR 242 [EV x,NV n] (EV (x^V n 6)):=by
 intro w hw;refine Hf func242 O hw<|λhGF=>Xp<|Bx 2 hGF O<|λb2=>Bx 3 hGF O<|λb3=>Al 4 hGF zv189<|λb4=>aa<|Xp<|aq 3 O O isAgg119 sizeOf119 (by first|(simp;done)|simp[hn]) O O<|Ca O (sG _ (by first|(simp;done)|simp[hn]))<|Al 5 hGF zv32<|λb5=>ai 5 hGF O O O sizeOf32 (by first|(simp;done)|simp[hn]) (by first|(simp;done)|simp[hn]) (bg _) O<|aa<|Xd []<|aq 2 O O isAgg189 sizeOf189 (by first|(simp;done)|simp[hn]) O O<|ct (l:=0) (h':=48) O underlying32 sizeOf5 O O om om O O<|Cc O ent292 (λw hC hG=>IQ x _ _ (BYs n 48) (by first|(simp;done)|simp[hn]) w hG (hC.own 5 _ _ _ O).1)<|ai 4 hGF O O O sizeOf189 (by first|(simp;done)|simp[hn]) (by first|(simp;done)|simp[hn]) (be _) O<|aa<|ao<|Rr<|?_
 exact aF 4 O O O isAgg189 sizeOf189 (by first|(simp;done)|simp[hn]) (λw hw=>⟨by rw[HK n hn 48 O],ae hw⟩)
theorem tF(x:Zp):PUR 245 [EV x] (.bool (decide (hf<x.val))):=by
 intro w hw;refine Hf func245 O hw<|λhGF=>Xp<|Bx 1 hGF O<|λb1=>Asg O<|aa<|Xd []<|lM hGF isAgg119 sizeOf119 aB (λ_ h=>h.g4) O O<|La 1 O O aW<|Ca O (sK _)<|Ca O (kS _ _ aB aB)<|Asg O<|aa<|ao<|Rr<|?_;exact ar O O (λw hw=>⟨by rw[<-zq],ae hw⟩)
theorem Dt(x:Zp):PUR 242 [EV x,NV RTP] (EV (SQr x)):=by
 have h:=ux x RTP O;rw[CM]at h;exact h
theorem pB(x:Zp):PUR 214 [EV x] (.tuple #[EV (SQ x),.bool (decide (SQr x*SQr x=x))]):=by
 intro w hw;refine Hf func214 O hw<|λhGF=>Xp<|Bx 1 hGF O<|λb1=>Al 2 hGF zv189<|λb2=>Asg O<|aa<|Xp<|La 1 O O aW<|lM hGF isAgg119 sizeOf119 aB (λ_ h=>h.g3) O O<|Ca O (Dt x)<|Al 4 hGF zv189<|λb4=>Sa 4 hGF O O O aW<|aa<|ah<|Xd []<|La 4 O O aW<|Ca O (bX _)<|La 1 O O aW<|Ca O (f6 _ _)<|bV O (λ_=>bP _) O O<|aa<|?_;refine cx O (λhc=> ?_) (λhc=> ?_)
 ·have hs: ¬SQr x*SQr x=x:=by simpa using hc
  refine Xp<|iO zv189 underlying189 (rY sizeOf119) O O<|Sa 2 hGF O O O aW<|Asg O<|aa<|ao<|Rr<|?_;exact co 2 O O O O isAgg189 sizeOf189 aB (λw hw=>⟨by rw[SQ,if_neg hs,decide_eq_false hs,<-yw]<;>rfl,ae hw⟩)
 ·have hs:SQr x*SQr x=x:=by simpa using hc
  clear hc;refine aw<|ah<|Xp<|La 4 O O aW<|Ca O (tF _)<|aa<|?_;refine cx O (λhc=> ?_) (λhc=> ?_)
  ·simp only[decide_eq_true_eq]at hc
   refine Xq<|La 4 O O aW<|Ca O (nv _)<|Sa 4 hGF O O O aW<|aa<|Xp<|La 4 O O aW<|Sa 2 hGF O O O aW<|Asg O<|aa<|ao<|Rr<|?_;exact co 2 O O O O isAgg189 sizeOf189 aB (λw hw=>⟨by rw[SQ,if_pos hs,SQn,if_pos hc,decide_eq_true hs]<;>rfl,ae hw⟩)
  ·simp only[decide_eq_false_iff_not]at hc
   refine aw<|Xp<|La 4 O O aW<|Sa 2 hGF O O O aW<|Asg O<|aa<|ao<|Rr<|?_;exact co 2 O O O O isAgg189 sizeOf189 aB (λw hw=>⟨by rw[SQ,if_pos hs,SQn,if_neg hc,decide_eq_true hs]<;>rfl,ae hw⟩)
theorem km(e:Option Addr)(cap:Nat)(bs:L8)(w:World)(hw:Gt w)(hby:BytesAt w e bs):
 CLS 190 [.slice e bs.length cap].toArray w (λr w'=>r=.returned (.tuple #[EV (FV bs),.bool (FO bs)])/\Grow w w'):=by
 refine Hf func190 O hw<|λhGF=>Xp<|Al 2 hGF zv189<|λb2=>Asg O<|aa<|ah<|Xp<|Mv O<|bB O (λ_=>aO underlying123 _ _ _ _) O O<|Bnr O O (λ_=>cJ _ _ _)<|aa<|?_;refine cx O (λhc=> ?_) (λhc=> ?_)
 ·have hc: ¬bs.length=48:=by simp at hc;omega
  refine Xp<|iO zv189 underlying189 (rY sizeOf119) O O<|Sa 2 hGF O O O aW<|Asg O<|aa<|ao<|Rr<|?_;exact co 2 O O O O isAgg189 sizeOf189 aB (λw hw=>⟨by rw[FV,FO,if_neg (λh=>hc h.1),decide_eq_false (λh=>hc h.1),<-yw]<;>rfl,ae hw⟩)
 ·have h48:bs.length=48:=by simp at hc;omega
  clear hc;refine aw<|Xp<|Mv O<|Cc O ent210 (λw' hC hG=>tp e bs.length cap bs O om w' hG (hby.grow (ae hC)))<|Mv O<|Exq O O<|Exq O O<|Al 4 hGF zv119<|λb4=>Sa 4 hGF O O O bU<|Asg O<|aa<|ah<|Xp<|Mv O<|bV O (λ_=>bP _) O O<|Mv O<|La 4 O O bU<|lM hGF isAgg119 sizeOf119 aB (λ_ h=>h.g0) O O<|Ca O (kS _ _ aB aB)<|bV O (λ_=>bP _) O O<|Pk O O O<|aa<|?_;refine cx O (λhc=> ?_) (λhc=> ?_)
  ·have e0:V (FRs bs bs.length) 6=BN bs 48:=by rw[wE bs om,h48]
   have hl: ¬BN bs 48<PP:=by rw[pW,im,e0]at hc;simpa using hc
   clear hc;refine Xp<|iO zv189 underlying189 (rY sizeOf119) O O<|Sa 2 hGF O O O aW<|Asg O<|aa<|ao<|Rr<|?_;exact co 2 O O O O isAgg189 sizeOf189 aB (λw hw=>⟨by rw[FV,FO,if_neg (λh=>hl h.2),decide_eq_false (λh=>hl h.2),<-yw]<;>rfl,ae hw⟩)
  ·have e0:V (FRs bs bs.length) 6=BN bs 48:=by rw[wE bs om,h48]
   have hl:BN bs 48<PP:=by rw[pW,im,e0]at hc;simpa using hc
   clear hc;refine aw<|Xp<|La 4 O O bU<|Ca O (qc _ aB)<|Sa 2 hGF O O O aW<|Asg O<|aa<|ao<|Rr<|?_;exact co 2 O O O O isAgg189 sizeOf189 aB (λw hw=>⟨by rw[FV,FO,if_pos ⟨h48,hl⟩,decide_eq_true ⟨h48,hl⟩,wE bs om,h48]<;>rfl,ae hw⟩)
end
section
open Go.RowKit
attribute [local simp] dZ fJ bR bz dw cG cH ce ef PLl mE mB N1l mw mF mo eQ gt
end
section
open Go.RowKit
attribute [local simp] dZ fJ bR bz dw cG cH ce ef PLl mE mB N1l mw mF mo eQ gt
theorem ent8:aL prog 8:=λ_ _=>kr
end
theorem EB{a:Zp}(h:a≠0):(-a).val=PP-a.val:=by
 have h0:a.val≠0:=λe=>h (Fin.ext e);have hl:=a.isLt;have e:zp (PP-a.val)+a=0:=by
  have:zp (PP-a.val)+zp a.val=0:=by rw[<-lw,show PP-a.val+a.val=PP by omega,zD]
  rw[F7]at this;exact this
 have e2: -a=zp (PP-a.val):=by grind
 rw[e2,f9,Nat.mod_eq_of_lt om]
theorem KA{a:Zp}(h:SQr a*SQr a=a):SQ a*SQ a=a:=by
 rw[SQ,if_pos h,SQn];split
 ·grind
 ·exact h
theorem tc{a:Zp}(h:SQr a*SQr a=a): ¬hf<(SQ a).val:=by
 rw[SQ,if_pos h,SQn];split
 ·rename_i h1
  have h0:SQr a≠0:=λe=>by rw[e]at h1;exact absurd h1 (Nat.not_lt_zero _)
  rw[EB h0];have:=Gz;omega
 ·rename_i h1;exact h1
abbrev W2:=Zp×Zp
def ad2(x y:W2):W2:=(x.1+y.1,x.2+y.2)
def ng2(x:W2):W2:=(-x.1,-x.2)
def ml2(x y:W2):W2:=(x.1*y.1-x.2*y.2,x.1*y.2+x.2*y.1)
def on2:W2:=(1,0)
def ze2:W2:=(0,0)
theorem ko{x y:W2}(h1:x.1=y.1)(h2:x.2=y.2):x=y:=Prod.ext h1 h2
def R2:Rg W2 where
 zero:=ze2
 one:=on2
 add:=ad2
 mul:=ml2
 neg:=ng2
 add_assoc:=λa b c=>ko (by simp only[ad2];grind) (by simp only[ad2];grind)
 add_comm:=λa b=>ko (by simp only[ad2];grind) (by simp only[ad2];grind)
 add_zero:=λa=>ko (by simp only[ad2,ze2];grind) (by simp only[ad2,ze2];grind)
 add_neg:=λa=>ko (by simp only[ad2,ng2,ze2];grind) (by simp only[ad2,ng2,ze2];grind)
 mul_assoc:=λa b c=>ko (by simp only[ml2];grind) (by simp only[ml2];grind)
 mul_comm:=λa b=>ko (by simp only[ml2];grind) (by simp only[ml2];grind)
 mul_one:=λa=>ko (by simp only[ml2,on2];grind) (by simp only[ml2,on2];grind)
 mul_add:=λa b c=>ko (by simp only[ml2,ad2];grind) (by simp only[ml2,ad2];grind)
/-! ### -1 is no square -/
theorem z_m0(a:Zp):a*0=0:=by grind
/-! ### Powers -/
def pw2(x:W2)(n:Nat):W2:=R2.pw x n
theorem z_0m(a:Zp):0*a=0:=by grind
/-! ### Roots -/
/-! ### Equality, signs -/
/-! ### Powers by digits -/
def fe2(x:W2):L6:=fe x.1++fe x.2
theorem jp(x:W2):(fe2 x).length=12:=by rw[fe2,List.length_append,dZ,dZ]
def SP2(x:W2)(i:Nat):L6:=FM (λj=>if j<i then fe2 (pw2 x j)else fe2 ze2) 16
theorem i7(x:W2)(i:Nat):(SP2 x i).length=192:=jR _ _
/-! ### Roots -/
section
open Go.RowKit
attribute [local simp] dZ fJ bR bz dw cG cH ce ef PLl mE mB N1l mw mF mo eQ gt jp i7 jR
theorem e2{a b c d:Zp}(h1:a=c)(h2:b=d):Ending.returned (bj (fe a++fe b))=.returned (bj (fe c++fe d)):=by rw[h1,h2]
theorem rb{a b:Bool}(h:a=b):Ending.returned (.bool a)=.returned (.bool b):=by rw[h]
end
section
open Go.RowKit
attribute [local simp] dZ fJ bR bz dw cG cH ce ef PLl mE mB N1l mw mF mo eQ gt jp i7 jR
end
def XI:W2:=(1,1)
abbrev W6:=W2×W2×W2
def K6:Rg W6:=Rg.cub R2 XI
def VV:W6:=(ze2,on2,ze2)
abbrev W12:=W6×W6
def K12:Rg W12:=Rg.quad K6 VV
def th:Nat:=(PP-1) / 3
def sx:Nat:=(PP-1) / 6
/-! ### The power of p -/
def wk(k:Nat):W12:=K12.pw ((ze2,ze2,ze2),(on2,ze2,ze2)) k
/-! ### Six parts, as the reference multiplies them -/
section
variable {α:Type} [DecidableEq α] (C:Ec α)
end
/-! ### Over p -/
def RZp:Rg Zp where
 zero:=0
 one:=1
 add:=λa b=>a+b
 mul:=λa b=>a*b
 neg:=λa=> -a
 add_assoc:=λa b c=>by grind
 add_comm:=λa b=>by grind
 add_zero:=λa=>by grind
 add_neg:=λa=>by grind
 mul_assoc:=λa b c=>by grind
 mul_comm:=λa b=>by grind
 mul_one:=λa=>by grind
 mul_add:=λa b c=>by grind
def E1:Ec Zp where
 R:=RZp
 iv:=λa=>a^(PP-2)
 b:=zp 4
 hi:=λ_ h=>H9 h
 h2:=by decide+kernel
 h3:=by decide+kernel
 hb:=by decide+kernel
structure Em{α β:Type}(C:Ec α)(D:Ec β) where
 f:α->β
 h0:f C.R.zero=D.R.zero
 ha: ∀a b,f (C.R.add a b)=D.R.add (f a) (f b)
 hm: ∀a b,f (C.R.mul a b)=D.R.mul (f a) (f b)
 hn: ∀a,f (C.R.neg a)=D.R.neg (f a)
 hi: ∀a b,f a=f b->a=b
 hb:f C.b=D.b
section
variable {α β:Type} {C:Ec α} {D:Ec β} (e:Em C D)
def Em.q(p:α×α):β×β:=(e.f p.1,e.f p.2)
def Em.p:Pt α->Pt β
 |none=>none
 |some p=>some (e.q p)
theorem Em.sub(a b:α):e.f (C.sub a b)=D.sub (e.f a) (e.f b):=by rw[Ec.sub,Ec.sub,e.ha,e.hn]
theorem Em.on{p:α×α}(h:C.on p):D.on (e.q p):=by
 have:=congrArg e.f h;rw[e.hm,e.ha,e.hm,e.hm,e.hb]at this;exact this
theorem Em.onP{P:Pt α}(h:C.onP P):D.onP (e.p P):=by
 cases P with
 |none=>trivial
 |some p=>exact e.on h
theorem Em.sl{p q:α×α}{s:α}(h:C.Sl p q s):D.Sl (e.q p) (e.q q) (e.f s):=by
 have h1:=congrArg e.f h.1;have h2:=congrArg e.f h.2;rw[e.hm,e.sub,e.sub]at h1;rw[e.hm,e.ha,e.ha,e.ha,e.hm,e.hm,e.hm]at h2;exact ⟨h1,h2⟩
theorem Em.opp{p q:α×α}:D.opp (e.q p) (e.q q)↔C.opp p q:=
 ⟨λh=>⟨e.hi _ _ h.1,e.hi _ _ (by rw[e.ha,e.h0];exact h.2)⟩,λh=>⟨congrArg e.f h.1,by
  have:=congrArg e.f h.2;rw[e.ha,e.h0]at this;exact this⟩⟩
theorem Em.th(p q:α×α)(s:α):D.th (e.q p) (e.q q) (e.f s)=e.q (C.th p q s):=by
 have hx:D.x3 (e.q p) (e.q q) (e.f s)=e.f (C.x3 p q s):=by rw[Ec.x3,Ec.x3,e.sub,e.sub,e.hm];rfl
 refine Prod.ext hx ?_;show D.sub (D.R.mul (e.f s) (D.sub (e.f p.1) (D.x3 (e.q p) (e.q q) (e.f s)))) (e.f p.2)=e.f (C.sub (C.R.mul s (C.sub p.1 (C.x3 p q s))) p.2);rw[hx,e.sub,e.hm,e.sub]
theorem Em.ne(P:Pt α):e.p (C.ne P)=D.ne (e.p P):=by
 cases P with
 |none=>rfl
 |some p=>exact congrArg some (Prod.ext O (e.hn _))
theorem Em.inj{P Q:Pt α}(h:e.p P=e.p Q):P=Q:=by
 cases P with
 |none=>
  cases Q with
  |none=>rfl
  |some q=>cases h
 |some p=>
  cases Q with
  |none=>cases h
  |some q=>
   have h:=Option.some.inj h;exact congrArg some (Prod.ext (e.hi _ _ (congrArg Prod.fst h)) (e.hi _ _ (congrArg Prod.snd h)))
theorem Em.jr{J:α×α×α}{P:Pt α}(h:C.jr J P):D.jr (e.f J.1,e.f J.2.1,e.f J.2.2) (e.p P):=by
 cases P with
 |none=>exact (congrArg e.f h).trans e.h0
 |some p=>
  refine ⟨λh'=>h.1 (e.hi _ _ (h'.trans e.h0.symm)), ?_, ?_⟩
  ·have:=congrArg e.f h.2.1
   rw[e.hm,Ec.z2,e.hm]at this;exact this
  ·have:=congrArg e.f h.2.2
   rw[e.hm,Ec.z3,e.hm,e.hm]at this;exact this
end
section
variable {α β:Type} [DecidableEq α] [DecidableEq β] {C:Ec α} {D:Ec β} (e:Em C D)
theorem Em.ad{P Q:Pt α}(hP:C.onP P)(hQ:C.onP Q):e.p (C.ad P Q)=D.ad (e.p P) (e.p Q):=by
 cases P with
 |none=>rfl
 |some p=>
  cases Q with
  |none=>rw[C.ad_nr];exact (D.ad_nr _).symm
  |some q=>
   by_cases ho:C.opp p q
   ·rw[C.ad_opp ho];exact (D.ad_opp (e.opp.2 ho)).symm
   ·obtain ⟨s,hs⟩:=C.sl_is hP hQ ho
    rw[C.ad_sl hP hQ ho hs];exact ((D.ad_sl (e.on hP) (e.on hQ) (λh=>ho (e.opp.1 h)) (e.sl hs)).trans (congrArg some (e.th p q s))).symm
theorem Em.times{P:Pt α}(hP:C.onP P): ∀n,e.p (C.times P n)=D.times (e.p P) n
 |0=>rfl
 |n+1=>by
  show e.p (C.ad (C.times P n) P)=D.ad (D.times (e.p P) n) (e.p P);rw[e.ad (C.times_on hP n) hP,Em.times hP n]
end
theorem LR(a:Zp):a+0=a:=by grind
section
variable {α:Type} (C:Ec α)
theorem Ec.jr_z{J:α×α×α}{P:Pt α}(h:C.jr J P):J.2.2=C.R.zero↔P=none:=by
 cases P with
 |none=>exact ⟨λ_=>rfl,λ_=>h⟩
 |some p=>exact ⟨λe=>absurd e h.1,λe=>by cases e⟩
theorem Ec.jr_at(p:α×α)(h1:C.R.one≠C.R.zero):C.jr (p.1,p.2,C.R.one) (some p):=by
 refine ⟨h1, ?_, ?_⟩
 ·show p.1=C.R.mul p.1 (C.R.mul C.R.one C.R.one)
  rw[C.R.mul_one,C.R.mul_one]
 ·show p.2=C.R.mul p.2 (C.R.mul (C.R.mul C.R.one C.R.one) C.R.one)
  rw[C.R.mul_one,C.R.mul_one,C.R.mul_one]
end
section
variable {α:Type} [DecidableEq α] (C:Ec α)
end
end Go.Proofs.YtfakhlafilbjkaaGreatDoor
