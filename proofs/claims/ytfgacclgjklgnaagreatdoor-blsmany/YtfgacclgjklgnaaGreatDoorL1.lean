/- L1 -/
import Derived.Test.YtfgacclgjklgnaaGreatDoorL0
import Derived.Test.YtfgacclgjklgnaaGreatDoorX3
import Derived.Test.YtfgacclgjklgnaaGreatDoorXW
import Derived.Test.YtfgacclgjklgnaaGreatDoorM0
import Derived.Test.YtfgacclgjklgnaaGreatDoorM1
import Derived.Test.YtfgacclgjklgnaaGreatDoorX5
set_option maxRecDepth 100000
set_option maxHeartbeats 1000000
namespace Go.Proofs.YtfgacclgjklgnaaGreatDoor
open Go.Proofs.Tryz
section
open Go.RowKit
end
section
open Go.RowKit
def AB(t:L6)(c:BitVec 64):Nat→L6×BitVec 64
 |0=>(t.set 0 (ADC (t.getD 0 0) c 0).1,(ADC (t.getD 0 0) c 0).2)
 |j+1=>((AB t c j).1.set (j+1) (ADC ((AB t c j).1.getD (j+1) 0) 0 (AB t c j).2).1,(ADC ((AB t c j).1.getD (j+1) 0) 0 (AB t c j).2).2)
def WDs(bs:L8)(m:L6):Nat→L6
 |0=>List.replicate 6 0
 |i+1=>MOD (AB (MU (WDs bs m i) (256#64::List.replicate 5 0) 6) ((bs.getD i 0).setWidth 64) 11).1 m
theorem nM(bs:L8)(m:L6): ∀i,(WDs bs m i).length=6
 |0=>rfl
 |_+1=>n9 _ _
end
section
open Go.RowKit
def eB(bs:L8)(i:Nat):BitVec 8:=(bs.getD (i / 8) 0>>>(7-i % 8)) &&& 1#8
end
section
open Go.RowKit
end
section
open Go.RowKit
end
section
open Go.RowKit
theorem oO(a:BitVec 64){P:Program}{w:World}:(Op.unary .neg (U64 a)).run P w=.ok (U64 (-a)) w:=by
 show (Op.intArith .sub .u64 0 (a.toNat:Int)).run P w=_
 simp only[Op.intArith,Sem.run_pure]
 have h:=a.isLt
 congr 2
 simp only[BitVec.toNat_neg]
 congr 1
 simp only[IntKind.wrap,IntKind.signed,IntKind.bits,Bool.false_and]
 simp
 omega
theorem lI(n:BitVec 64):PUR 81 [U64 n] (U64 (IV n 5)):=by
 intro w hw
 refine Hf func81 rfl hw<|fun hGF=>Xp<|Asg rfl<|aa<|Xp<|Mv rfl<|Asg rfl<|aa<|ah<|Xp<|Mv rfl<|aa<|aj<|cE (ι:={i:Nat // i≤5}) (fun x=>[(0,U64 n),(2,U64 0),(3,U64 (IV n x.1)),(5,I (x.1:Int))]) (fun x=>[]) (fun x=>5-x.1) ⟨0,om⟩ hGF trv trivial<|?_
 rintro ⟨i,hi⟩
 dsimp only
 refine Xp<|Bnr rfl rfl (fun _=>aC _ _ _)<|aa<|ah<|?_
 refine bX rfl (fun hc=> ?_) (fun hc=> ?_)
 ·simp only[decide_eq_true_eq]at hc
  refine ap<|ah<|aj<|Xq<|Mv rfl<|Mv rfl<|Mv rfl<|Bnr rfl rfl (fun _=>cJ _ _ _)<|Bnr rfl rfl (fun _=>nk _ _ _)<|Bnr rfl rfl (fun _=>cJ _ _ _)<|Asg rfl<|aa<|Xq<|Bnr rfl rfl (fun _=>ay _ _ _ oi)<|Mv rfl<|aa<|?_
  repeat (refine aY ?_)
  exact aU<|⟨rfl,⟨i+1,om⟩,_,by show 5-(i+1)<5-i;omega,rfl,trv,trivial⟩
 ·obtain rfl:i=5:=by simp at hc;omega
  refine a8<|Xp<|Mv rfl<|Asg rfl<|aa<|am<|Rr<|?_
  exact aH rfl rfl (fun w hw=>⟨rfl,ae hw⟩)
theorem M8:(prog.info? 24).map (·.size)=some 1:=kr
theorem AO(a:L6)(h:a.length=6):lay 0 (a.map U64) ((List.replicate 12 0#64).map U64)=(a++List.replicate 6 0).map U64:=by
 rw[ir _ _ _ (by simp[h])]
 simp[h]
theorem mw(a b m:L6)(ha:a.length=6)(hb:b.length=6)(hm:m.length=6):PUR 39 [aR (a),aR (b),aR (m)] (aR (ma a b m)):=by
 intro w hw
 refine Hf func39 rfl hw ?_
 intro hGF
 by_cases h0:m.getD 0 0 % 2=0
 ·refine Xp<|Bx 3 hGF rfl<|fun b3=>Bx 4 hGF rfl<|fun b4=>Bx 5 hGF rfl<|fun b5=>Al 6 hGF zv25<|fun b6=>aa<|ah<|Xp<|Ia (0) rfl rfl underlying25 sizeOf24<|Lm 5 U64 0 rfl rfl isAgg24 (by rw[hm];omega)<|Bnr rfl rfl (fun _=>d9 _ _ _ dc)<|Bnr (v:=.bool true) rfl rfl (fun w=>(bU _ _ _).trans (congrArg (fun b=>Result.ok (Value.bool b) w) (beq_iff_eq.2 h0)))<|aa<|aQ rfl<|Xp<|e9 zv25 underlying25 sizeOf24 rfl rfl<|Sw 6 hGF rfl rfl rfl bL List.length_replicate<|aa<|am<|Rr<|?_
  exact az 6 rfl rfl rfl isAgg25 sizeOf25 (by rw[List.length_map,List.length_replicate]) (fun w hw=>⟨by rw[ma,if_pos h0];rfl,ae hw⟩)
 cases h1:LT a m 6 with
 |true=>
  refine Xp<|Bx 3 hGF rfl<|fun b3=>Bx 4 hGF rfl<|fun b4=>Bx 5 hGF rfl<|fun b5=>Al 6 hGF zv25<|fun b6=>aa<|ah<|Xp<|Ia (0) rfl rfl underlying25 sizeOf24<|Lm 5 U64 0 rfl rfl isAgg24 (by rw[hm];omega)<|Bnr rfl rfl (fun _=>d9 _ _ _ dc)<|Bnr (v:=.bool false) rfl rfl (fun w=>(bU _ _ _).trans (congrArg (fun b=>Result.ok (Value.bool b) w) (beq_eq_false_iff_ne.2 h0)))<|aa<|au rfl<|ap<|ah<|Xp<|Lw 3 rfl rfl bL ha<|Lw 5 rfl rfl bL hm<|Ca rfl (ko a m ha hm)<|a5 (v:=.bool false) rfl (fun _=>(aL _).trans (by rw[h1];rfl)) rfl rfl<|aa<|au rfl<|ap<|Xp<|Ia (0) rfl rfl underlying25 sizeOf24<|Lm 5 U64 0 rfl rfl isAgg24 (by rw[hm];omega)<|Ca rfl (lI _)<|a5 rfl (fun _=>oO _) rfl rfl<|Asg rfl<|?_
  generalize hcl: -(IV (m.getD 0 0) 5)=cl
  refine aa<|Xp<|Al 9 hGF zv25<|fun b9=>aa<|Xp<|Asg rfl<|aa<|ah<|Xp<|Lw 3 rfl rfl bL ha<|Mv rfl<|aa<|aj<|cE (ι:={i:Nat // i≤6}) (fun x=>[(4,pnt b4),(5,pnt b5),(6,pnt b6),(8,U64 cl),(9,pnt b9),(10,U64 (MO a b m cl x.1).2),(38,aR (a)),(39,I (x.1:Int))]) (fun x=>[(4,b4,b.map U64,25),(5,b5,m.map U64,25),(6,b6,(List.replicate 6 0#64).map U64,25),(9,b9,(MO a b m cl x.1).1.map U64,25)]) (fun x=>6-x.1) ⟨0,om⟩ hGF trv trv<|?_
  rintro ⟨i,hi⟩
  dsimp only
  refine Xp<|Bnr rfl rfl (fun _=>aC _ _ _)<|aa<|ah<|?_
  refine bX rfl (fun hc=> ?_) (fun hc=> ?_)
  ·simp only[decide_eq_true_eq]at hc
   refine ap<|ah<|aj<|Xp<|iX U64 0 (i) rfl rfl underlying25 sizeOf24 isAgg24 om om (ha) rfl rfl<|Asg rfl<|aa<|Xp<|Asg rfl<|Asg rfl<|aa<|ah<|Xp<|Lw 4 rfl rfl bL hb<|Mv rfl<|aa<|aj<|cE (ι:={i:Nat // i≤6}) (fun x=>[(4,pnt b4),(5,pnt b5),(6,pnt b6),(8,U64 cl),(9,pnt b9),(10,U64 (MO a b m cl i).2),(38,aR (a)),(39,I (i:Int)),(12,U64 (a.getD i 0)),(13,U64 (MJ (a.getD i 0) b (MO a b m cl i).1 x.1).2),(14,U64 0),(42,aR (b)),(43,I (x.1:Int))]) (fun x=>[(4,b4,b.map U64,25),(5,b5,m.map U64,25),(6,b6,(List.replicate 6 0#64).map U64,25),(9,b9,(MJ (a.getD i 0) b (MO a b m cl i).1 x.1).1.map U64,25)]) (fun x=>6-x.1) ⟨0,om⟩ hGF trv trv<|?_
   rintro ⟨j,hj⟩
   dsimp only
   refine Xp<|Bnr rfl rfl (fun _=>aC _ _ _)<|aa<|ah<|?_
   refine bX rfl (fun hc=> ?_) (fun hc=> ?_)
   ·simp only[decide_eq_true_eq]at hc
    refine ap<|ah<|aj<|Xp<|Mv rfl<|iX U64 0 (j) rfl rfl underlying25 sizeOf24 isAgg24 om om (hb) rfl rfl<|Asg rfl<|Asg rfl<|aa<|Xq<|Mv rfl<|Mv rfl<|Mv rfl<|Mv rfl<|Ia (j) rfl rfl underlying25 sizeOf24<|Lm 9 U64 0 rfl rfl isAgg24 (by rw[ka,dQ];omega)<|Mv rfl<|Ca rfl (eY _ _ _ _)<|Mv rfl<|Ext rfl rfl<|Ext rfl rfl<|Ia (j) rfl rfl underlying25 sizeOf24<|bv 9 U64 hGF rfl rfl rfl sizeOf24 rfl (by rw[ka,dQ];omega) rfl<|Asg rfl<|aa<|Xq<|Bnr rfl rfl (fun _=>ay _ _ _ oi)<|Mv rfl<|aa<|?_
    repeat (refine aY ?_)
    exact aU<|⟨rfl,⟨j+1,om⟩,_,by show 6-(j+1)<6-j;omega,rfl,trv,trv⟩
   ·obtain rfl:j=6:=by simp at hc;omega
    generalize hS:MJ (a.getD i 0) b (MO a b m cl i).1 6=S1
    have hSl:S1.1.length=6:=by rw[←hS,ka,dQ]
    refine a8<|Xp<|Mv rfl<|Mv rfl<|ik rfl rfl (fun w=>ou _ _ _ dc w) rfl rfl<|Mv rfl<|Ext rfl rfl<|Ext rfl rfl<|Asg rfl<|Asg rfl<|aa<|Xp<|Ia (0) rfl rfl underlying25 sizeOf24<|Lm 9 U64 0 rfl rfl isAgg24 (by rw[hSl];omega)<|Mv rfl<|Bnr rfl rfl (fun _=>cJ _ _ _)<|Asg rfl<|aa<|Xp<|Mv rfl<|Ia (0) rfl rfl underlying25 sizeOf24<|Lm 5 U64 0 rfl rfl isAgg24 (by rw[hm];omega)<|Ia (0) rfl rfl underlying25 sizeOf24<|Lm 9 U64 0 rfl rfl isAgg24 (by rw[hSl];omega)<|Ca rfl (eY _ _ _ _)<|Mv rfl<|Ext rfl rfl<|Ext rfl rfl<|Asg rfl<|aa<|ah<|Xp<|Asg rfl<|aa<|aj<|cE (ι:={i:Nat // i≤5}) (fun x=>[(4,pnt b4),(5,pnt b5),(6,pnt b6),(8,U64 cl),(9,pnt b9),(10,U64 (ADC (MO a b m cl i).2 S1.2 0).1),(38,aR (a)),(39,I (i:Int)),(14,U64 (ADC (MO a b m cl i).2 S1.2 0).2),(17,U64 (S1.1.getD 0 0*cl)),(13,U64 (MR (S1.1.getD 0 0*cl) m S1.1 x.1).2),(18,I ((x.1+1:Nat):Int))]) (fun x=>[(4,b4,b.map U64,25),(5,b5,m.map U64,25),(6,b6,(List.replicate 6 0#64).map U64,25),(9,b9,(MR (S1.1.getD 0 0*cl) m S1.1 x.1).1.map U64,25)]) (fun x=>5-x.1) ⟨0,om⟩ hGF trv trv<|?_
    rintro ⟨r,hr⟩
    dsimp only
    refine ah<|Xp<|Mv rfl<|Bnr rfl rfl (fun _=>aC _ _ _)<|aa<|?_
    refine bX rfl (fun hc=> ?_) (fun hc=> ?_)
    ·simp only[decide_eq_true_eq]at hc
     refine ap<|ah<|aj<|Xe []<|Mv rfl<|Bnr (v:=I (r:Int)) rfl rfl (fun _=>(bq _ _ _ oi).trans (by rw[show (((r+1:Nat):Int)-1)=(r:Int) by omega]))<|Mv rfl<|Mv rfl<|Ia ((r+1)) rfl rfl underlying25 sizeOf24<|Lm 5 U64 0 rfl rfl isAgg24 (by rw[hm];omega)<|Mv rfl<|Ia ((r+1)) rfl rfl underlying25 sizeOf24<|Lm 9 U64 0 rfl rfl isAgg24 (by rw[iy,hSl];omega)<|Mv rfl<|Ca rfl (eY _ _ _ _)<|Mv rfl<|Ext rfl rfl<|Ext rfl rfl<|Ia (r) rfl rfl underlying25 sizeOf24<|bv 9 U64 hGF rfl rfl rfl sizeOf24 rfl (by rw[iy,hSl];omega) rfl<|Asg rfl<|aa<|Xq<|Mv rfl<|Bnr rfl rfl (fun _=>ay _ _ _ oi)<|Asg rfl<|aa<|?_
     repeat (refine aY ?_)
     exact aU<|⟨rfl,⟨r+1,om⟩,_,by show 5-(r+1)<5-r;omega,rfl,trv,trv⟩
    ·obtain rfl:r=5:=by simp at hc;omega
     generalize hM:MR (S1.1.getD 0 0*cl) m S1.1 5=R1
     have hRl:R1.1.length=6:=by rw[←hM,iy,hSl]
     refine a8<|Xp<|Mv rfl<|Mv rfl<|ik rfl rfl (fun w=>ou _ _ _ dc w) rfl rfl<|Mv rfl<|Ext rfl rfl<|Ext rfl rfl<|Ia (5) rfl rfl underlying25 sizeOf24<|bv 9 U64 hGF rfl rfl rfl sizeOf24 rfl (by rw[hRl];omega) rfl<|Asg rfl<|aa<|Xq<|Mv rfl<|Mv rfl<|Bnr rfl rfl (fun _=>dq _ _ _)<|Asg rfl<|aa<|Xq<|Bnr rfl rfl (fun _=>ay _ _ _ oi)<|Mv rfl<|aa<|?_
     repeat (refine aY ?_)
     exact aU<|⟨rfl,⟨i+1,om⟩,_,by show 6-(i+1)<6-i;omega,rfl,⟨rfl,rfl,rfl,rfl,rfl,by rw[n8 a b m cl i hS hM];rfl,rfl,rfl,trivial⟩,⟨rfl,rfl,rfl,by rw[n8 a b m cl i hS hM];rfl,trivial⟩⟩
  ·obtain rfl:i=6:=by simp at hc;omega
   refine a8<|Xp<|Lw 9 rfl rfl bL (dQ _ _ _ _ _)<|Mv rfl<|Lw 5 rfl rfl bL hm<|Ca rfl (oo _ _ _ (dQ _ _ _ _ _) hm)<|Sw 6 hGF rfl rfl rfl bL (jf _ _ _ (dQ _ _ _ _ _))<|aa<|am<|Rr<|?_
   exact az 6 rfl rfl rfl isAgg25 sizeOf25 (by rw[List.length_map];exact jf _ _ _ (dQ _ _ _ _ _)) (fun w hw=>⟨by rw[ma,if_neg h0,if_pos h1,MN,hcl],ae hw⟩)
 |false=>
  refine Xp<|Bx 3 hGF rfl<|fun b3=>Bx 4 hGF rfl<|fun b4=>Bx 5 hGF rfl<|fun b5=>Al 6 hGF zv25<|fun b6=>aa<|ah<|Xp<|Ia (0) rfl rfl underlying25 sizeOf24<|Lm 5 U64 0 rfl rfl isAgg24 (by rw[hm];omega)<|Bnr rfl rfl (fun _=>d9 _ _ _ dc)<|Bnr (v:=.bool false) rfl rfl (fun w=>(bU _ _ _).trans (congrArg (fun b=>Result.ok (Value.bool b) w) (beq_eq_false_iff_ne.2 h0)))<|aa<|au rfl<|ap<|ah<|Xp<|Lw 3 rfl rfl bL ha<|Lw 5 rfl rfl bL hm<|Ca rfl (ko a m ha hm)<|a5 (v:=.bool true) rfl (fun _=>(aL _).trans (by rw[h1];rfl)) rfl rfl<|aa<|aQ rfl<|Xp<|Al 7 hGF zv142<|fun b7=>aa<|Xd []<|ce (l:=0) (h':=12) rfl underlying142 sizeOf24 rfl rfl om om rfl rfl<|ce (l:=0) (h':=6) rfl underlying25 sizeOf24 rfl rfl om om rfl rfl<|xS (cs:=a.map U64) 7 hGF rfl rfl rfl underlying67 M8 (by rw[List.length_map,ha];rfl) (fun w' h j v hv=>by rw[Addr.add_mid];exact aM (n:=3) rfl w' h j v hv) (bj _) (by rw[List.length_map,List.length_map,ha];decide) rfl rfl<|?_
  rw[AO a ha]
  refine aa<|Xq<|cf 7 rfl rfl isAgg142 sizeOf142 (by rw[List.length_map,List.length_append,ha,List.length_replicate]) rfl rfl<|Lw 5 rfl rfl bL hm<|Ca rfl (Fh (a++List.replicate 6 0) m (by rw[List.length_append,ha];rfl) hm)<|aw 3 hGF rfl rfl rfl sizeOf25 (by rw[List.length_map,n9 _ _]) (by rw[List.length_map,ha]) (bj _) rfl<|aa<|Xp<|Ia (0) rfl rfl underlying25 sizeOf24<|Lm 5 U64 0 rfl rfl isAgg24 (by rw[hm];omega)<|Ca rfl (lI _)<|a5 rfl (fun _=>oO _) rfl rfl<|Asg rfl<|?_
  generalize hcl: -(IV (m.getD 0 0) 5)=cl
  refine aa<|Xp<|Al 9 hGF zv25<|fun b9=>aa<|Xp<|Asg rfl<|aa<|ah<|Xp<|Lw 3 rfl rfl bL (n9 _ _)<|Mv rfl<|aa<|aj<|cE (ι:={i:Nat // i≤6}) (fun x=>[(4,pnt b4),(5,pnt b5),(6,pnt b6),(8,U64 cl),(9,pnt b9),(10,U64 (MO (MOD (a++List.replicate 6 0) m) b m cl x.1).2),(38,aR ((MOD (a++List.replicate 6 0) m))),(39,I (x.1:Int))]) (fun x=>[(4,b4,b.map U64,25),(5,b5,m.map U64,25),(6,b6,(List.replicate 6 0#64).map U64,25),(9,b9,(MO (MOD (a++List.replicate 6 0) m) b m cl x.1).1.map U64,25)]) (fun x=>6-x.1) ⟨0,om⟩ hGF trv trv<|?_
  rintro ⟨i,hi⟩
  dsimp only
  refine Xp<|Bnr rfl rfl (fun _=>aC _ _ _)<|aa<|ah<|?_
  refine bX rfl (fun hc=> ?_) (fun hc=> ?_)
  ·simp only[decide_eq_true_eq]at hc
   refine ap<|ah<|aj<|Xp<|iX U64 0 (i) rfl rfl underlying25 sizeOf24 isAgg24 om om (n9 _ _) rfl rfl<|Asg rfl<|aa<|Xp<|Asg rfl<|Asg rfl<|aa<|ah<|Xp<|Lw 4 rfl rfl bL hb<|Mv rfl<|aa<|aj<|cE (ι:={i:Nat // i≤6}) (fun x=>[(4,pnt b4),(5,pnt b5),(6,pnt b6),(8,U64 cl),(9,pnt b9),(10,U64 (MO (MOD (a++List.replicate 6 0) m) b m cl i).2),(38,aR ((MOD (a++List.replicate 6 0) m))),(39,I (i:Int)),(12,U64 ((MOD (a++List.replicate 6 0) m).getD i 0)),(13,U64 (MJ ((MOD (a++List.replicate 6 0) m).getD i 0) b (MO (MOD (a++List.replicate 6 0) m) b m cl i).1 x.1).2),(14,U64 0),(42,aR (b)),(43,I (x.1:Int))]) (fun x=>[(4,b4,b.map U64,25),(5,b5,m.map U64,25),(6,b6,(List.replicate 6 0#64).map U64,25),(9,b9,(MJ ((MOD (a++List.replicate 6 0) m).getD i 0) b (MO (MOD (a++List.replicate 6 0) m) b m cl i).1 x.1).1.map U64,25)]) (fun x=>6-x.1) ⟨0,om⟩ hGF trv trv<|?_
   rintro ⟨j,hj⟩
   dsimp only
   refine Xp<|Bnr rfl rfl (fun _=>aC _ _ _)<|aa<|ah<|?_
   refine bX rfl (fun hc=> ?_) (fun hc=> ?_)
   ·simp only[decide_eq_true_eq]at hc
    refine ap<|ah<|aj<|Xp<|Mv rfl<|iX U64 0 (j) rfl rfl underlying25 sizeOf24 isAgg24 om om (hb) rfl rfl<|Asg rfl<|Asg rfl<|aa<|Xq<|Mv rfl<|Mv rfl<|Mv rfl<|Mv rfl<|Ia (j) rfl rfl underlying25 sizeOf24<|Lm 9 U64 0 rfl rfl isAgg24 (by rw[ka,dQ];omega)<|Mv rfl<|Ca rfl (eY _ _ _ _)<|Mv rfl<|Ext rfl rfl<|Ext rfl rfl<|Ia (j) rfl rfl underlying25 sizeOf24<|bv 9 U64 hGF rfl rfl rfl sizeOf24 rfl (by rw[ka,dQ];omega) rfl<|Asg rfl<|aa<|Xq<|Bnr rfl rfl (fun _=>ay _ _ _ oi)<|Mv rfl<|aa<|?_
    repeat (refine aY ?_)
    exact aU<|⟨rfl,⟨j+1,om⟩,_,by show 6-(j+1)<6-j;omega,rfl,trv,trv⟩
   ·obtain rfl:j=6:=by simp at hc;omega
    generalize hS:MJ ((MOD (a++List.replicate 6 0) m).getD i 0) b (MO (MOD (a++List.replicate 6 0) m) b m cl i).1 6=S1
    have hSl:S1.1.length=6:=by rw[←hS,ka,dQ]
    refine a8<|Xp<|Mv rfl<|Mv rfl<|ik rfl rfl (fun w=>ou _ _ _ dc w) rfl rfl<|Mv rfl<|Ext rfl rfl<|Ext rfl rfl<|Asg rfl<|Asg rfl<|aa<|Xp<|Ia (0) rfl rfl underlying25 sizeOf24<|Lm 9 U64 0 rfl rfl isAgg24 (by rw[hSl];omega)<|Mv rfl<|Bnr rfl rfl (fun _=>cJ _ _ _)<|Asg rfl<|aa<|Xp<|Mv rfl<|Ia (0) rfl rfl underlying25 sizeOf24<|Lm 5 U64 0 rfl rfl isAgg24 (by rw[hm];omega)<|Ia (0) rfl rfl underlying25 sizeOf24<|Lm 9 U64 0 rfl rfl isAgg24 (by rw[hSl];omega)<|Ca rfl (eY _ _ _ _)<|Mv rfl<|Ext rfl rfl<|Ext rfl rfl<|Asg rfl<|aa<|ah<|Xp<|Asg rfl<|aa<|aj<|cE (ι:={i:Nat // i≤5}) (fun x=>[(4,pnt b4),(5,pnt b5),(6,pnt b6),(8,U64 cl),(9,pnt b9),(10,U64 (ADC (MO (MOD (a++List.replicate 6 0) m) b m cl i).2 S1.2 0).1),(38,aR ((MOD (a++List.replicate 6 0) m))),(39,I (i:Int)),(14,U64 (ADC (MO (MOD (a++List.replicate 6 0) m) b m cl i).2 S1.2 0).2),(17,U64 (S1.1.getD 0 0*cl)),(13,U64 (MR (S1.1.getD 0 0*cl) m S1.1 x.1).2),(18,I ((x.1+1:Nat):Int))]) (fun x=>[(4,b4,b.map U64,25),(5,b5,m.map U64,25),(6,b6,(List.replicate 6 0#64).map U64,25),(9,b9,(MR (S1.1.getD 0 0*cl) m S1.1 x.1).1.map U64,25)]) (fun x=>5-x.1) ⟨0,om⟩ hGF trv trv<|?_
    rintro ⟨r,hr⟩
    dsimp only
    refine ah<|Xp<|Mv rfl<|Bnr rfl rfl (fun _=>aC _ _ _)<|aa<|?_
    refine bX rfl (fun hc=> ?_) (fun hc=> ?_)
    ·simp only[decide_eq_true_eq]at hc
     refine ap<|ah<|aj<|Xe []<|Mv rfl<|Bnr (v:=I (r:Int)) rfl rfl (fun _=>(bq _ _ _ oi).trans (by rw[show (((r+1:Nat):Int)-1)=(r:Int) by omega]))<|Mv rfl<|Mv rfl<|Ia ((r+1)) rfl rfl underlying25 sizeOf24<|Lm 5 U64 0 rfl rfl isAgg24 (by rw[hm];omega)<|Mv rfl<|Ia ((r+1)) rfl rfl underlying25 sizeOf24<|Lm 9 U64 0 rfl rfl isAgg24 (by rw[iy,hSl];omega)<|Mv rfl<|Ca rfl (eY _ _ _ _)<|Mv rfl<|Ext rfl rfl<|Ext rfl rfl<|Ia (r) rfl rfl underlying25 sizeOf24<|bv 9 U64 hGF rfl rfl rfl sizeOf24 rfl (by rw[iy,hSl];omega) rfl<|Asg rfl<|aa<|Xq<|Mv rfl<|Bnr rfl rfl (fun _=>ay _ _ _ oi)<|Asg rfl<|aa<|?_
     repeat (refine aY ?_)
     exact aU<|⟨rfl,⟨r+1,om⟩,_,by show 5-(r+1)<5-r;omega,rfl,trv,trv⟩
    ·obtain rfl:r=5:=by simp at hc;omega
     generalize hM:MR (S1.1.getD 0 0*cl) m S1.1 5=R1
     have hRl:R1.1.length=6:=by rw[←hM,iy,hSl]
     refine a8<|Xp<|Mv rfl<|Mv rfl<|ik rfl rfl (fun w=>ou _ _ _ dc w) rfl rfl<|Mv rfl<|Ext rfl rfl<|Ext rfl rfl<|Ia (5) rfl rfl underlying25 sizeOf24<|bv 9 U64 hGF rfl rfl rfl sizeOf24 rfl (by rw[hRl];omega) rfl<|Asg rfl<|aa<|Xq<|Mv rfl<|Mv rfl<|Bnr rfl rfl (fun _=>dq _ _ _)<|Asg rfl<|aa<|Xq<|Bnr rfl rfl (fun _=>ay _ _ _ oi)<|Mv rfl<|aa<|?_
     repeat (refine aY ?_)
     exact aU<|⟨rfl,⟨i+1,om⟩,_,by show 6-(i+1)<6-i;omega,rfl,⟨rfl,rfl,rfl,rfl,rfl,by rw[n8 (MOD (a++List.replicate 6 0) m) b m cl i hS hM];rfl,rfl,rfl,trivial⟩,⟨rfl,rfl,rfl,by rw[n8 (MOD (a++List.replicate 6 0) m) b m cl i hS hM];rfl,trivial⟩⟩
  ·obtain rfl:i=6:=by simp at hc;omega
   refine a8<|Xp<|Lw 9 rfl rfl bL (dQ _ _ _ _ _)<|Mv rfl<|Lw 5 rfl rfl bL hm<|Ca rfl (oo _ _ _ (dQ _ _ _ _ _) hm)<|Sw 6 hGF rfl rfl rfl bL (jf _ _ _ (dQ _ _ _ _ _))<|aa<|am<|Rr<|?_
   exact az 6 rfl rfl rfl isAgg25 sizeOf25 (by rw[List.length_map];exact jf _ _ _ (dQ _ _ _ _ _)) (fun w hw=>⟨by rw[ma,if_neg h0,if_neg (by rw[h1];decide),MN,hcl],ae hw⟩)
end
section
open Go.RowKit
theorem PLl:PL.length=6:=rfl
theorem cv:TWO.length=6:=rfl
theorem cw:ONE.length=6:=rfl
theorem N1l:N1.length=6:=rfl
theorem cu:IVP.length=6:=rfl
theorem cr:HFP.length=6:=rfl
theorem cq:RTP.length=6:=rfl
attribute [local simp] aV ba aT aO aD bd aK aJ aA PLl cv cw N1l cu cr cq
abbrev EV(x:Zp):Value:=aR (fe x)
abbrev NV(n:L6):Value:=aR n
theorem zv52(w:World):(zeroValue 52).run prog w=.ok (aR (List.replicate 6 (0#64))) w:=(zeroValue52 w).trans rr
theorem JO(op:BinOp)(x y:Operand)(xs ys:Array Value)(w:World):(eqGuard op 25 x y (.agg xs) (.agg ys)).run prog w=.ok () w:=run_eqGuard_agg w op 25 x y xs ys kr
theorem Lt(xs ys:L6)(h:xs.length=6)(h':ys.length=6)(w:World):(binOp .eql 25 (aR xs) (aR ys)).run prog w=.ok (.bool (decide (xs=ys))) w:=uW underlying25 underlying24 sizeOf24 isAgg24 xs ys h h' w
theorem ri(x y:Zp):decide (fe x=fe y)=decide (x=y):=decide_eq_decide.2 EA
theorem Lc{x y:BitVec 64}(h:(x==y)=true):x=y:=beq_iff_eq.1 h
theorem Lu{x y:BitVec 64}(h:(x==y)=false): ¬x=y:=beq_eq_false_iff_ne.1 h
theorem ent140:ai prog 140:=fun _ _=>kr
theorem ent90:ai prog 90:=fun _ _=>kr
theorem ent262:ai prog 262:=fun _ _=>kr
theorem ent209:ai prog 209:=fun _ _=>kr
theorem ent63:ai prog 63:=fun _ _=>kr
theorem ent201:ai prog 201:=fun _ _=>kr
theorem ent191:ai prog 191:=fun _ _=>kr
theorem ent173:ai prog 173:=fun _ _=>kr
theorem ent137:ai prog 137:=fun _ _=>kr
theorem ent136:ai prog 136:=fun _ _=>kr
theorem ent135:ai prog 135:=fun _ _=>kr
theorem ent226:ai prog 226:=fun _ _=>kr
theorem ent258:ai prog 258:=fun _ _=>kr
theorem ent172:ai prog 172:=fun _ _=>kr
theorem ent289:ai prog 289:=fun _ _=>kr
theorem ent89:ai prog 89:=fun _ _=>kr
theorem gA(x y:Zp):PUR 137 [EV x,EV y] (EV (x*y)):=by
 intro w hw
 refine Hf func137 rfl hw<|fun hGF=>Xp<|Bx 2 hGF rfl<|fun b2=>Bx 3 hGF rfl<|fun b3=>Al 4 hGF zv52<|fun b4=>aa<|Xp<|Fa 0 rfl underlying52 rfl sizeOf25<|La 2 rfl rfl bL<|Fa 0 rfl underlying52 rfl sizeOf25<|La 3 rfl rfl bL<|ju hGF isAgg25 sizeOf25 sm (fun _ h=>h.g3) rfl rfl<|Ca rfl (mw _ _ _ sm sm sm)<|dN rfl sm underlying52 rfl sizeOf25 zv52 rfl rfl<|Sa 4 hGF rfl rfl rfl bp<|aa<|am<|Rr<|?_
 exact az 4 rfl rfl rfl isAgg52 sizeOf52 sm (fun w hw=>⟨by rw[Jk],ae hw⟩)
theorem kR(n:L6)(hn:n.length=6):PUR 139 [NV n] (EV (zp (V n 6))):=by
 intro w hw
 refine Hf func139 rfl hw<|fun hGF=>Xp<|Bx 1 hGF rfl<|fun b1=>Al 2 hGF zv52<|fun b2=>aa<|Xp<|ju hGF isAgg25 sizeOf25 (by first|(simp;done)|simp[hn]) (fun _ h=>h.g5) rfl rfl<|cf 1 rfl rfl isAgg25 sizeOf25 (by first|(simp;done)|simp[hn]) rfl rfl<|ju hGF isAgg25 sizeOf25 (by first|(simp;done)|simp[hn]) (fun _ h=>h.g3) rfl rfl<|Ca rfl (mw _ _ _ (by first|(simp;done)|simp[hn]) (by first|(simp;done)|simp[hn]) (by first|(simp;done)|simp[hn]))<|dN rfl (by first|(simp;done)|simp[hn]) underlying52 rfl sizeOf25 zv52 rfl rfl<|aw 2 hGF rfl rfl rfl sizeOf52 (by first|(simp;done)|simp[hn]) (by first|(simp;done)|simp[hn]) (bj _) rfl<|aa<|am<|Rr<|?_
 exact az 2 rfl rfl rfl isAgg52 sizeOf52 (by first|(simp;done)|simp[hn]) (fun w hw=>⟨by rw[F6],ae hw⟩)
theorem i5(x:Zp):PUR 138 [EV x] (NV (nm x)):=by
 intro w hw
 refine Hf func138 rfl hw<|fun hGF=>Xp<|Bx 1 hGF rfl<|fun b1=>Al 2 hGF zv25<|fun b2=>aa<|Xp<|Fa 0 rfl underlying52 rfl sizeOf25<|La 1 rfl rfl bL<|mT 1 rfl underlying25 sizeOf24 zv25 rfl rfl<|ju hGF isAgg25 sizeOf25 sm (fun _ h=>h.g3) rfl rfl<|Ca rfl (mw _ _ _ sm sm sm)<|Sa 2 hGF rfl rfl rfl bL<|aa<|am<|Rr<|?_
 exact az 2 rfl rfl rfl isAgg25 sizeOf25 sm (fun w hw=>⟨by rw[←C7];rfl,ae hw⟩)
theorem xN(n:BitVec 64): ∀k,V (n::List.replicate 5 0) (k+1)=n.toNat
 |0=>by rw[qb,V,Nat.mul_zero,Nat.pow_zero,Nat.mul_one,Nat.zero_add];rfl
 |k+1=>by
  have h0:(n::List.replicate 5 (0:BitVec 64)).getD (k+1) 0=0:=by
   rw[List.getD_eq_getElem?_getD,List.getElem?_cons_succ,List.getElem?_replicate]
   split<;>rfl
  rw[qb,xN n k,h0,show (0:BitVec 64).toNat=0 from rfl,Nat.zero_mul,Nat.add_zero]
theorem HJ(n:BitVec 64):V (n::List.replicate 5 0) 6=n.toNat:=xN n 5
theorem dK(n:BitVec 64):PUR 140 [U64 n] (EV (zp n.toNat)):=by
 intro w hw
 refine Hf func140 rfl hw<|fun hGF=>Xp<|Al 2 hGF zv52<|fun b2=>aa<|Xp<|Mv rfl<|mT n rfl underlying25 sizeOf24 zv25 rfl rfl<|Ca rfl (kR _ sm)<|Sa 2 hGF rfl rfl rfl bp<|aa<|am<|Rr<|?_
 exact az 2 rfl rfl rfl isAgg52 sizeOf52 sm (fun w hw=>⟨by rw[HJ],ae hw⟩)
theorem nf(x y:Zp):PUR 209 [EV x,EV y] (.bool (decide (x=y))):=by
 intro w hw
 refine Hf func209 rfl hw<|fun hGF=>Xp<|Bx 2 hGF rfl<|fun b2=>Bx 3 hGF rfl<|fun b3=>Asg rfl<|aa<|Xp<|Fa 0 rfl underlying52 rfl sizeOf25<|La 2 rfl rfl bL<|Fa 0 rfl underlying52 rfl sizeOf25<|La 3 rfl rfl bL<|dY rfl rfl (fun _=>JO _ _ _ _ _ _) (fun w=>Lt _ _ sm sm w) rfl rfl<|Asg rfl<|aa<|am<|Rr<|?_
 exact aH rfl rfl (fun w hw=>⟨by rw[ri],ae hw⟩)
theorem sR(x:Zp):PUR 63 [EV x] (.bool (decide (x=0))):=by
 intro w hw
 refine Hf func63 rfl hw<|fun hGF=>Xp<|Bx 1 hGF rfl<|fun b1=>Asg rfl<|aa<|Xp<|Fa 0 rfl underlying52 rfl sizeOf25<|La 1 rfl rfl bL<|e9 zv25 underlying25 sizeOf24 rfl rfl<|dY rfl rfl (fun _=>JO _ _ _ _ _ _) (fun w=>Lt _ _ sm sm w) rfl rfl<|Asg rfl<|aa<|am<|Rr<|?_
 exact aH rfl rfl (fun w hw=>⟨by rw[←kF,ri],ae hw⟩)
theorem qU(x y:Zp):PUR 201 [EV x,EV y] (EV (x+y)):=by
 intro w hw
 refine Hf func201 rfl hw<|fun hGF=>Xp<|Bx 2 hGF rfl<|fun b2=>Bx 3 hGF rfl<|fun b3=>Al 4 hGF zv52<|fun b4=>aa<|Xp<|Fa 0 rfl underlying52 rfl sizeOf25<|La 2 rfl rfl bL<|Fa 0 rfl underlying52 rfl sizeOf25<|La 3 rfl rfl bL<|Ca rfl (lv _ _ sm sm)<|Mv rfl<|Ext rfl rfl<|Ext rfl rfl<|Al 5 hGF zv25<|fun b5=>Sa 5 hGF rfl rfl rfl bL<|Asg rfl<|aa<|Xp<|La 5 rfl rfl bL<|ju hGF isAgg25 sizeOf25 sm (fun _ h=>h.g3) rfl rfl<|Ca rfl (iS _ _ sm sm)<|Mv rfl<|Ext rfl rfl<|Ext rfl rfl<|Al 7 hGF zv25<|fun b7=>Sa 7 hGF rfl rfl rfl bL<|Asg rfl<|aa<|ah<|Xp<|Mv rfl<|Bnr rfl rfl (fun _=>bU _ _ _)<|aa<|?_
 refine bX rfl (fun hc=> ?_) (fun hc=> ?_)
 ·refine Xp<|La 5 rfl rfl bL<|dN rfl sm underlying52 rfl sizeOf25 zv52 rfl rfl<|Sa 4 hGF rfl rfl rfl bp<|aa<|am<|Rr<|?_
  exact az 4 rfl rfl rfl isAgg52 sizeOf52 sm (fun w hw=>⟨by rw[Ik (Pw (Lc hc))],ae hw⟩)
 ·refine ap<|Xp<|La 7 rfl rfl bL<|dN rfl sm underlying52 rfl sizeOf25 zv52 rfl rfl<|Sa 4 hGF rfl rfl rfl bp<|aa<|am<|Rr<|?_
  exact az 4 rfl rfl rfl isAgg52 sizeOf52 sm (fun w hw=>⟨by rw[CQ (vo (wB _ _ _) (Lu hc))],ae hw⟩)
theorem my(x y:Zp):PUR 191 [EV x,EV y] (EV (x-y)):=by
 intro w hw
 refine Hf func191 rfl hw<|fun hGF=>Xp<|Bx 2 hGF rfl<|fun b2=>Bx 3 hGF rfl<|fun b3=>Al 4 hGF zv52<|fun b4=>aa<|Xp<|Fa 0 rfl underlying52 rfl sizeOf25<|La 2 rfl rfl bL<|Fa 0 rfl underlying52 rfl sizeOf25<|La 3 rfl rfl bL<|Ca rfl (iS _ _ sm sm)<|Mv rfl<|Ext rfl rfl<|Ext rfl rfl<|Al 5 hGF zv25<|fun b5=>Sa 5 hGF rfl rfl rfl bL<|Asg rfl<|aa<|ah<|Xp<|Mv rfl<|Bnr rfl rfl (fun _=>bU _ _ _)<|aa<|?_
 refine bX rfl (fun hc=> ?_) (fun hc=> ?_)
 ·refine Xq<|La 5 rfl rfl bL<|ju hGF isAgg25 sizeOf25 sm (fun _ h=>h.g3) rfl rfl<|Ca rfl (lv _ _ sm sm)<|Mv rfl<|Ext rfl rfl<|Ext rfl rfl<|Sa 5 hGF rfl rfl rfl bL<|aa<|Xp<|La 5 rfl rfl bL<|dN rfl sm underlying52 rfl sizeOf25 zv52 rfl rfl<|Sa 4 hGF rfl rfl rfl bp<|aa<|am<|Rr<|?_
  exact az 4 rfl rfl rfl isAgg52 sizeOf52 sm (fun w hw=>⟨by rw[Jl (Lc hc)],ae hw⟩)
 ·refine ap<|Xp<|La 5 rfl rfl bL<|dN rfl sm underlying52 rfl sizeOf25 zv52 rfl rfl<|Sa 4 hGF rfl rfl rfl bp<|aa<|am<|Rr<|?_
  exact az 4 rfl rfl rfl isAgg52 sizeOf52 sm (fun w hw=>⟨by rw[Gn (vo (wB _ _ _) (Lu hc))],ae hw⟩)
theorem dv(x:Zp):PUR 173 [EV x] (EV (-x)):=by
 intro w hw
 refine Hf func173 rfl hw<|fun hGF=>Xp<|Bx 1 hGF rfl<|fun b1=>Al 2 hGF zv52<|fun b2=>aa<|Xp<|fC zv52 underlying52 (pq sizeOf25) rfl rfl<|La 1 rfl rfl bp<|Ca rfl ((show PUR 191 [NV (List.replicate 6 0#64),EV x] (EV (0-x)) by rw[←kF];exact my 0 x))<|Sa 2 hGF rfl rfl rfl bp<|aa<|am<|Rr<|?_
 exact az 2 rfl rfl rfl isAgg52 sizeOf52 sm (fun w hw=>⟨by rw[show (0:Zp)-x= -x by grind],ae hw⟩)
theorem jj(x:Zp):PUR 136 [EV x] (EV (x*x)):=by
 intro w hw
 refine Hf func136 rfl hw<|fun hGF=>Xp<|Bx 1 hGF rfl<|fun b1=>Al 2 hGF zv52<|fun b2=>aa<|Xp<|La 1 rfl rfl bp<|La 1 rfl rfl bp<|Ca rfl (gA _ _)<|Sa 2 hGF rfl rfl rfl bp<|aa<|am<|Rr<|?_
 exact az 2 rfl rfl rfl isAgg52 sizeOf52 sm (fun w hw=>⟨rfl,ae hw⟩)
theorem dp(x:Zp):PUR 87 [EV x] (.agg ((cI x).map U8).toArray):=by
 intro w hw
 refine Hf func87 rfl hw<|fun hGF=>Xp<|Bx 1 hGF rfl<|fun b1=>Al 2 hGF zv29<|fun b2=>aa<|Xp<|La 1 rfl rfl bp<|Ca rfl (i5 _)<|Ca rfl (lM _ sm)<|aw 2 hGF rfl rfl rfl sizeOf29 sm sm (bC _) rfl<|aa<|am<|Rr<|?_
 exact az 2 rfl rfl rfl isAgg29 sizeOf29 sm (fun w hw=>⟨rfl,ae hw⟩)
end
section
open Go.RowKit
theorem ent281:ai prog 281:=fun _ _=>kr
attribute [local simp] aV ba aT aO aD bd aK aJ aA PLl cv cw N1l cu cr cq a7 bc
theorem zv293(w:World):(zeroValue 293).run prog w=.ok (aR (FL (fun _=>List.replicate 6 0#64) 16)) w:=(zeroValue293 w).trans rr
theorem qW:PUR 140 [U64 1#64] (EV 1):=dK 1#64
theorem u1(x:Zp):PUR 257 [EV x] (aR (SP x 16)):=by
 intro w hw
 refine Hf func257 rfl hw<|fun hGF=>Xp<|Bx 1 hGF rfl<|fun b1=>Al 2 hGF zv293<|fun b2=>aa<|Xp<|Ca rfl (qW)<|AK rfl sm dc underlying293 sizeOf52 zv293 rfl rfl<|Al 3 hGF zv293<|fun b3=>Sa 3 hGF rfl rfl rfl y9<|aa<|ah<|Xp<|Asg rfl<|aa<|aj<|cE (ι:={i:Nat // 1≤i∧i≤16}) (fun y=>[(1,pnt b1),(2,pnt b2),(3,pnt b3),(4,I (y.1:Int))]) (fun y=>[(1,b1,(fe x).map U64,52),(2,b2,(FL (fun _=>List.replicate 6 0#64) 16).map U64,293),(3,b3,(SP x y.1).map U64,293)]) (fun y=>16-y.1) ⟨1,om⟩ hGF trv ⟨rfl,rfl,by rw[←N3];rfl,trivial⟩<|?_
 rintro ⟨i,hi⟩
 dsimp only
 refine ah<|Xp<|Mv rfl<|Bnr rfl rfl (fun _=>aC _ _ _)<|aa<|?_
 refine bX rfl (fun hc=> ?_) (fun hc=> ?_)
 ·simp only[decide_eq_true_eq]at hc
  refine ap<|ah<|aj<|Xe []<|Mv rfl<|Mv rfl<|Bnr rfl rfl (fun _=>bq _ _ _ oi)<|ew (i-1) (6*(i-1)) rfl rfl underlying293 sizeOf52 om om om rfl rfl<|aq 3 ((fe (x^(i-1))).map U64) rfl rfl isAgg52 sizeOf52 sm (rC x i (i-1) om om _ rfl) rfl rfl<|La 1 rfl rfl bp<|Ca rfl (gA _ _)<|ew (i) (6*(i)) rfl rfl underlying293 sizeOf52 om om om rfl rfl<|gz 3 ((SP x (i+1)).map U64) hGF rfl rfl rfl sizeOf52 sm (bj _) (by rw[List.length_map,List.length_map,aV,bc];omega) (Hc x i om om _ rfl) rfl<|aa<|Xq<|Mv rfl<|Bnr rfl rfl (fun _=>ay _ _ _ oi)<|Asg rfl<|aa<|?_
  repeat (refine aY ?_)
  exact aU<|⟨rfl,⟨i+1,om⟩,_,by show 16-(i+1)<16-i;omega,rfl,trv,trv⟩
 ·obtain rfl:i=16:=by simp at hc;omega
  refine a8<|Xp<|La 3 rfl rfl y9<|Sa 2 hGF rfl rfl rfl y9<|aa<|am<|Rr<|?_
  exact az 2 rfl rfl rfl isAgg293 sizeOf293 sm (fun w hw=>⟨rfl,ae hw⟩)
def RdD(bb:Nat)(e:Option Addr)(cap:Nat)(bs:L8):Cls:=fun W=>W.cell? ⟨bb,0,none⟩=some (.slice e bs.length cap)∧BytesAt W e bs
def NB(bs:L8):List (List Value):=(List.range (2*bs.length)).map fun m=>[U8 (NBv bs m)]
theorem wE(bs:L8):(NB bs).length=2*bs.length:=by simp[NB]
theorem ww(bs:L8)(m:Nat)(h:m<2*bs.length):(NB bs)[m]? =some [U8 (NBv bs m)]:=by
 rw[NB,List.getElem?_map,List.getElem?_range h];rfl
theorem TA(bs:L8)(m:Nat)(x:List Value)(h:(NB bs)[m]? =some x):m<2*bs.length∧x=[U8 (NBv bs m)]:=by
 have hm:m<2*bs.length:=by
  rcases Nat.lt_or_ge m (2*bs.length)with h'|h'
  ·exact h'
  ·rw[List.getElem?_eq_none (by rw[wE];exact h')]at h;cases h
 rw[ww bs m hm]at h
 exact ⟨hm,(Option.some.inj h).symm⟩
theorem UT(bs:L8)(i:Nat)(h:i<bs.length):(NB bs)[2*i]? =some [U8 (bs.getD i 0>>>4)]:=by
 rw[ww bs _ om,NBv,if_pos om,show 2*i / 2=i by omega]
theorem RI(bs:L8)(i:Nat)(h:i<bs.length):(NB bs)[2*i+1]? =some [U8 (bs.getD i 0 % 16#8)]:=by
 rw[ww bs _ om,NBv,if_neg om,show (2*i+1) / 2=i by omega]
theorem qz(sv:Value)(hs:sv.cells= #[sv])(w:World)(hw:Gt w):CLS 258 [sv].toArray w (fun e w'=> ∃b1,e=.returned (.func (.func 281) #[] #[pnt b1])∧Grow w w'∧w.heap.size≤b1∧OwnB w' b1 [sv] 22):=by
 refine Hf func258 rfl hw<|fun hGF=>Xp<|fJ 1 hGF rfl rfl rfl<|fun b1=>Asg rfl<|aa<|Xp<|eK rfl rfl rfl rfl<|Asg rfl<|aa<|am<|Rr<|?_
 exact aH rfl rfl (fun w hw=>⟨b1,rfl,ae hw,(hw.own 1 b1 _ _ rfl).2.elim id False.elim,(by have:=(hw.own 1 b1 _ _ rfl).1;rw[hs]at this;exact this)⟩)
theorem uD(bb:Nat)(e:Option Addr)(cap:Nat)(bs:L8)(hlen:bs.length≤1000000):el prog Gt 281 [pnt bb] (NB bs) (RdD bb e cap bs):=by
 intro l J Jx hJ hJx hRd hGx hY w hj
 have okJ: ∀k,BOk Gt (Bi w (fun Y=>J Y k)):=fun k=>⟨fun _ _ _ h=>(hRd _ _ _ h.rid).1,hJ k⟩
 have okX: ∀k,BOk Gt (Bi w (fun Y=>Jx Y k)):=fun k=>⟨fun _ _ _ h=>hGx _ _ _ h.rid,hJx k⟩
 have c1: ∀k L w',Hp (Bi w (fun Y=>J Y k)) L w'→RdD bb e cap bs w':=fun k L w' h=>(hRd _ _ _ h.rid).2
 have hby:=(hRd _ _ _ hj).2.2
 refine ca (G:=Gt) func281 rfl rfl (Hp (Bi w (fun Y=>J Y 0)) []) (bK (Bi w _) hj (hJ 0)) (ao (okJ 0))<|Xp<|bu rfl isAgg22 (fun w h=>(c1 _ _ w h).1) rfl rfl<|bk rfl (fun _=>aE underlying22 _ _ _ _) rfl rfl<|Mv rfl<|aa<|aj<|fo (ι:={i:Nat // i≤bs.length}) (fun x=>[(0,.func (.yield l) #[] #[]),(1,pnt bb),(5,.slice e bs.length cap),(6,I (bs.length:Int)),(7,I (x.1:Int))]) (fun x=>Bi w (fun Y=>J Y (2*x.1))) (fun x=>[]) (fun x=>bs.length-x.1) ⟨0,Nat.zero_le _⟩ (fun _=>okJ _) rfl trv trivial<|?_
 rintro ⟨i,hi⟩
 dsimp only
 refine Xp<|Bnr rfl rfl (fun _=>aC _ _ _)<|aa<|ah<|?_
 refine bX rfl (fun hc=> ?_) (fun hc=> ?_)
 ·simp only[decide_eq_true_eq]at hc
  have hi2:i<bs.length:=om
  refine ap<|ah<|aj<|Xp<|?_
  obtain ⟨ad,rfl,_⟩:=hby i _ (gm U8 bs 0 i om)
  refine fK i rfl rfl underlying22 sizeOf5 rfl om rfl rfl<|bu rfl isAgg5 (fun w' h=>by obtain ⟨ad',e',hc'⟩:=(c1 _ _ w' h).2 i _ (gm U8 bs 0 i om);cases e';exact hc') rfl rfl<|Asg rfl<|aa<|zV (E:=EE []) 4<|Mv rfl<|Mv rfl<|Bnr (v:=U8 (bs.getD i 0>>>4)) rfl rfl (fun _=>vv _ _ 4#64)<|?_
  refine cU (hY.b (k:=2*i) (UT bs i om) w) (okJ _) (okX _) rfl rfl rfl rfl rfl ?_ ?_
  ·refine aa ?_
   refine ⟨EE [], ?_⟩
   refine a5 rfl (fun _=>aL _) rfl rfl<|Mv rfl<|Mv rfl<|Mv rfl<|Bnr (v:=U8 (bs.getD i 0 % 16#8)) rfl rfl (fun _=>wg _ _ 16#8 dc)<|?_
   refine cU (hY.b (k:=2*i+1) (RI bs i om) w) (okJ _) (okX _) rfl rfl rfl rfl rfl ?_ ?_
   ·refine a5 rfl (fun _=>aL _) rfl rfl<|Pk rfl rfl rfl<|aa<|au rfl<|ap<|Xq<|Bnr rfl rfl (fun _=>ay _ _ _ oi)<|Mv rfl<|aa<|?_
    rw[show 2*i+1+1=2*(i+1) by omega]
    repeat (refine aY ?_)
    exact aU<|⟨rfl,⟨i+1,om⟩,_,by show bs.length-(i+1)<bs.length-i;omega,rfl,trv,trivial⟩
   ·refine a5 rfl (fun _=>aL _) rfl rfl<|Pk rfl rfl rfl<|aa<|aQ rfl<|am<|Rr<|?_
    repeat (first|refine cX ?_|refine bY ?_|refine cS rfl ?_|refine bf ?_|refine be ?_)
    exact cP rfl (fun w hw=>⟨⟨_,rfl⟩,.inr ⟨_,bz (hJx _) hw.rid⟩⟩)
  ·refine aa ?_
   refine ⟨EE [3000000], ?_⟩
   refine a5 rfl (fun _=>aL _) rfl rfl<|Mv rfl<|Sk<|Sk<|Sk<|Sk<|Sk<|Pk rfl rfl rfl<|aa<|aQ rfl<|am<|Rr<|?_
   repeat (first|refine cX ?_|refine bY ?_|refine cS rfl ?_|refine bf ?_|refine be ?_)
   exact cP rfl (fun w hw=>⟨⟨_,rfl⟩,.inr ⟨_,bz (hJx _) hw.rid⟩⟩)
 ·simp only[decide_eq_false_iff_not]at hc
  obtain rfl:i=bs.length:=om
  refine a8 ?_
  repeat (first|refine cX ?_|refine bY ?_|refine cS rfl ?_|refine bf ?_|refine be ?_)
  refine cn rfl (fun w hw=>⟨⟨_,rfl⟩,.inl ?_⟩)
  have:=bz (hJ _) hw.rid
  rw[wE]
  exact this
end
section
open Go.RowKit
attribute [local simp] aV ba aT aO aD bd aK aJ aA PLl cv cw N1l cu cr cq a7 bc
theorem wv(x:Zp)(e:Option Addr)(cap:Nat)(bs:L8)(hlen:bs.length≤1000000)(w:World)(hw:Gt w)(hby:BytesAt w e bs):
 CLS 226 [EV x,.slice e bs.length cap].toArray w (fun r w'=>r=.returned (EV (x^BN bs bs.length))∧Grow w w'):=by
 have hGF:BOk Gt (pl w):=gt_low.plain hw
 refine bV (G:=Gt) func226 rfl rfl (Hp (pl w) []) (bK (pl w) trivial ak) (ao hGF)<|ac (E:=EE [258])<|Bx 2 hGF rfl<|fun b2=>Al 4 hGF zv52<|fun b4=>aa<|ac (E:=EE [258])<|La 2 rfl rfl bp<|Ca rfl (u1 _)<|Al 5 hGF zv293<|fun b5=>Sa 5 hGF rfl rfl rfl y9<|aa<|ac (E:=EE [258])<|ew 0 0 rfl rfl underlying293 sizeOf52 rfl dc rfl rfl rfl<|aq 5 ((fe (x^0)).map U64) rfl rfl isAgg52 sizeOf52 sm (rC x 16 0 dc dc 0 rfl) rfl rfl<|Al 6 hGF zv52<|fun b6=>Sa 6 hGF rfl rfl rfl bp<|aa<|ah<|ac (E:=EE [258])<|Mv rfl<|?_
 refine cT rfl rfl ent258 rfl rfl (fun w' hw'=>(qz _ rfl w' (hGF.g _ _ _ hw')).mono fun e' w'' h=> ?_)
 obtain ⟨c1,rfl,hg,h1,ho⟩:=h
 refine ⟨_,_,rfl,ao hGF,hw'.news ak hg [(33,c1,[.slice e bs.length cap],22)] ?_ bI, ?_⟩
 ·intro n' b' c' t' hl
  rcases aB hl with ⟨_,e⟩|⟨_,hl⟩
  ·cases e;exact ⟨h1,ho⟩
  ·cases hl
 clear hw' hg h1 ho
 refine aa<|aj<|?_
 refine dS (fun _=>pl w) (fun _ _=>pl w) (fun _=>hGF) (fun _ _=>hGF) (fun _=>rfl) (fun _ _=>rfl) rfl rfl ent281 (uD c1 e cap bs hlen) (fun x hx=>by obtain ⟨k,hk,rfl⟩:=List.mem_map.1 hx;rfl) rfl (fun k=>[(2,b2,(fe x).map U64,52),(4,b4,(List.replicate 6 0#64).map U64,52),(5,b5,(SP x 16).map U64,293),(6,b6,(fe (x^DN bs k)).map U64,52),(33,c1,[.slice e bs.length cap],22)]) (fun _ _ _=>False) ⟨rfl,rfl,rfl,by rw[DN];rfl,rfl,trivial⟩ (fun k _ w' h=>⟨cp (n:=33) rfl rfl w' h,hby.grow (h.below (fun _ h=>h))⟩) ?_ ?_ (fun _ _ _ _ _ h=>h.elim)
 ·intro k v hx R hR
  obtain ⟨hk,rfl⟩:=TA bs k v hx
  have hlt:=Oq bs k
  refine bx (E:=EE [258])<|Asg rfl<|aa<|?_
  refine ⟨rfl,_,rfl, ?_⟩
  refine aj<|ah<|ac (E:=EE [258])<|Mv rfl<|aa<|aj<|cE (ι:={i:Nat // i≤4}) (fun j=>[(5,pnt b5),(6,pnt b6),(7,U8 (NBv bs k)),(15,I (j.1:Int))]) (fun j=>[(2,b2,(fe x).map U64,52),(4,b4,(List.replicate 6 0#64).map U64,52),(5,b5,(SP x 16).map U64,293),(6,b6,(fe (x^(2^j.1*DN bs k))).map U64,52),(33,c1,[.slice e bs.length cap],22)]) (fun j=>4-j.1) ⟨0,om⟩ (hR (pl w) rfl hGF).2.1 trv ⟨rfl,rfl,rfl,by rw[Nat.pow_zero,Nat.one_mul];rfl,rfl,trivial⟩<|?_
  rintro ⟨j,hj⟩
  dsimp only
  refine ac (E:=EE [258])<|Bnr rfl rfl (fun _=>aC _ _ _)<|aa<|ah<|?_
  refine bX rfl (fun hc=> ?_) (fun hc=> ?_)
  ·simp only[decide_eq_true_eq]at hc
   refine ap<|ah<|aj<|bx (E:=EE [258])<|La 6 rfl rfl bp<|Ca rfl (jj _)<|aw 6 (hR (pl w) rfl hGF).2.1 rfl rfl rfl sizeOf52 sm sm (bj _) rfl<|aa<|bx (E:=EE [258])<|Bnr rfl rfl (fun _=>ay _ _ _ oi)<|Mv rfl<|aa<|?_
   repeat (refine aY ?_)
   exact aU<|⟨rfl,⟨j+1,om⟩,_,by show 4-(j+1)<4-j;omega,rfl,trv,⟨rfl,rfl,rfl,by rw[←Hs];rfl,rfl,trivial⟩⟩
  ·obtain rfl:j=4:=by simp at hc;omega
   refine a8<|Xe [258]<|La 6 rfl rfl bp<|Mv rfl<|IG (6*(NBv bs k).toNat) rfl rfl underlying293 sizeOf52 hlt om rfl rfl<|aq 5 ((fe (x^(NBv bs k).toNat)).map U64) rfl rfl isAgg52 sizeOf52 sm (rC x 16 _ hlt (Nat.le_refl _) _ rfl) rfl rfl<|Ca rfl (EL x bs k▸gA (x^(2^4*DN bs k)) (x^(NBv bs k).toNat))<|aw 6 (hR (pl w) rfl hGF).2.1 rfl rfl rfl sizeOf52 sm sm (bj _) rfl<|aa<|?_
   repeat (refine aY ?_)
   exact ⟨_,rfl,trv⟩
 ·intro D hD
  rw[wE,Ep]
  refine ac (E:=EE [258])<|La 6 rfl rfl bp<|Sa 4 hD rfl rfl rfl bp<|aa<|am<|Rr<|?_
  exact cQ (.inl rfl) ak (az 4 rfl rfl rfl isAgg52 sizeOf52 sm (fun w hw=>⟨rfl,ae hw⟩))
end
section
theorem G2(l:L6):(l.getD 0 0).toNat % 2=V l 6 % 2:=by
 have h:=Ln l 6 0 dc
 rw[Nat.testBit_zero,Nat.zero_div,Nat.zero_mod,BitVec.getLsbD,Nat.testBit_zero]at h
 have h':=decide_eq_decide.1 h
 omega
theorem Md(x:Zp):((nm x).getD 0 0 % 2#64==1#64)=decide (x.val % 2=1):=by
 have h:=G2 (nm x)
 rw[HM]at h
 rw[←h]
 by_cases e:(nm x).getD 0 0 % 2#64=1#64
 ·have:=congrArg BitVec.toNat e
  rw[BitVec.toNat_umod]at this
  rw[beq_iff_eq.2 e,decide_eq_true]
  exact this
 ·rw[beq_eq_false_iff_ne.2 e,decide_eq_false]
  intro h'
  apply e
  apply BitVec.eq_of_toNat_eq
  rw[BitVec.toNat_umod]
  exact h'
def hf:Nat:=(PP-1) / 2
def rg:Nat:=(PP+1) / 4
theorem sy:PP % 4=3:=by decide+kernel
theorem mD:1000<PP:=by decide+kernel
theorem ld:2*hf+1=PP:=by have:=sy;unfold hf;omega
theorem Qm:4*rg=PP+1:=by have:=sy;unfold rg;omega
theorem Ow:hf % 2=1:=by have:=sy;have:=ld;omega
theorem Ud:2*rg=hf+1:=by have:=Qm;have:=ld;omega
theorem EP(x:Zp):LT HFP (nm x) 6=decide (hf<x.val):=by rw[oT,HM,HX];rfl
theorem Oz: ∃n,hf=n+1:=⟨hf-1,by have:=ld;have:=mD;omega⟩
def SQr(x:Zp):Zp:=x^rg
def SQn(x:Zp):Zp:=if hf<(SQr x).val then-(SQr x)else SQr x
def SQ(x:Zp):Zp:=if SQr x*SQr x=x then SQn x else 0
def FO(bs:L8):Bool:=decide (bs.length=48∧BN bs 48<PP)
def FV(bs:L8):Zp:=if bs.length=48∧BN bs 48<PP then zp (BN bs 48)else 0
def ZB(bs:L8):Zp:=zp (BN bs bs.length)
theorem Ji{k:Nat}(h:R6=2^k)(hk:k=8*48):R6=256^48:=by rw[DQ,h,hk]
theorem Oy:R6=256^48:=Ji fO rfl
theorem zT(bs:L8)(k cut:Nat)(h:k=0∨cut=48):zp (BN bs k)*RZ+zp (BN (bs.drop k) cut)=zp (BN bs (k+cut)):=by
 rw[DV bs k cut,fI,io]
 rcases h with rfl|rfl
 ·rw[BN,LA];grind
 ·rw[←Oy];rfl
theorem NG{n:Nat}(h0:0<n)(h:n % 48=0):(n-1) % 48+1=48:=om
theorem FC{n:Nat}(h0:0<n):(n-((n-1) % 48+1)) % 48=0∧(n-1) % 48+1≤n∧(n-1) % 48+1≤48:=om
theorem It(bs:L8)(n:Nat):BN (bs.take n) n=BN bs n:=ug n fun i hi=>by
 rw[List.getD_eq_getElem?_getD,List.getD_eq_getElem?_getD,List.getElem?_take,if_pos hi]
end
end Go.Proofs.YtfgacclgjklgnaaGreatDoor
