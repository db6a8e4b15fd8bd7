/-
 The walks of package fp: elements of p.
 The walks of package fp: powers.
 The walks of package fp: powers, inverses, roots, signs.
 The walks of package fp: inverses, roots, signs, bytes.
-/
import Derived.Test.YtodgbdcjjhmnkaaGreatDoorX7
import Derived.Test.YtodgbdcjjhmnkaaGreatDoorX3
import Derived.Test.YtodgbdcjjhmnkaaGreatDoorX6
import Derived.Test.YtodgbdcjjhmnkaaGreatDoorXW
import Derived.Test.YtodgbdcjjhmnkaaGreatDoorX5
set_option maxRecDepth 100000
set_option maxHeartbeats 1000000
namespace Go.Proofs.YtodgbdcjjhmnkaaGreatDoor
open Go.Proofs.Tryz
section
open Go.RowKit
theorem PLl:PL.length=6:=rfl
theorem eK:TWO.length=6:=rfl
theorem eI:ONE.length=6:=rfl
theorem N1l:N1.length=6:=rfl
theorem eP:IVP.length=6:=rfl
theorem eU:HFP.length=6:=rfl
theorem eW:RTP.length=6:=rfl
attribute [local simp] bp bQ aI aB bj bc aX aW bv PLl eK eI N1l eP eU eW
abbrev EV(x:Zp):Value:=.agg ((fe x).map U64).toArray
abbrev NV(n:List (BitVec 64)):Value:=.agg (n.map U64).toArray
theorem zv27(w:World):(zeroValue 27).run Tryz.prog w=.ok (.agg ((List.replicate 6 (0#64)).map U64).toArray) w:=(zeroValue27 w).trans (by rfl)
theorem F2(op:BinOp)(x y:Operand)(xs ys:Array Value)(w:World):(eqGuard op 25 x y (.agg xs) (.agg ys)).run Tryz.prog w=.ok () w:=run_eqGuard_agg w op 25 x y xs ys (by kernel_rfl)
theorem Ge(xs ys:List (BitVec 64))(h:xs.length=6)(h':ys.length=6)(w:World):(binOp .eql 25 (.agg (xs.map U64).toArray) (.agg (ys.map U64).toArray)).run Tryz.prog w=.ok (.bool (decide (xs=ys))) w:=mT underlying25 underlying24 sizeOf24 isAgg24 xs ys h h' w
theorem eQ(x y:Zp):decide (fe x=fe y)=decide (x=y):=decide_eq_decide.2 sF
theorem ET{x y:BitVec 64}(h:(x==y)=true):x=y:=beq_iff_eq.1 h
theorem FZ{x y:BitVec 64}(h:(x==y)=false): ¬x=y:=beq_eq_false_iff_ne.1 h
theorem ent76:am Tryz.prog 76:=fun _ _=>by kernel_rfl
theorem ent87:am Tryz.prog 87:=fun _ _=>by kernel_rfl
theorem ent13:am Tryz.prog 13:=fun _ _=>by kernel_rfl
theorem ent93:am Tryz.prog 93:=fun _ _=>by kernel_rfl
theorem ent77:am Tryz.prog 77:=fun _ _=>by kernel_rfl
theorem ent41:am Tryz.prog 41:=fun _ _=>by kernel_rfl
theorem ent92:am Tryz.prog 92:=fun _ _=>by kernel_rfl
theorem ent74:am Tryz.prog 74:=fun _ _=>by kernel_rfl
theorem ent40:am Tryz.prog 40:=fun _ _=>by kernel_rfl
theorem ent125:am Tryz.prog 125:=fun _ _=>by kernel_rfl
theorem ent95:am Tryz.prog 95:=fun _ _=>by kernel_rfl
theorem ent160:am Tryz.prog 160:=fun _ _=>by kernel_rfl
theorem ent175:am Tryz.prog 175:=fun _ _=>by kernel_rfl
theorem ent80:am Tryz.prog 80:=fun _ _=>by kernel_rfl
theorem ent169:am Tryz.prog 169:=fun _ _=>by kernel_rfl
theorem ent127:am Tryz.prog 127:=fun _ _=>by kernel_rfl
theorem go(x y:Zp):Pure Tryz.prog Gt 40 [EV x,EV y] (EV (x*y)):=by
 intro w hw
 refine Hf func40 rfl hw<|fun hGF=>Xp<|Bx 2 hGF rfl<|fun b2=>Bx 3 hGF rfl<|fun b3=>Al 4 hGF zv27<|fun b4=>aa<|Xp<|Fa 0 rfl underlying27 rfl sizeOf25<|La 2 rfl rfl bD<|Fa 0 rfl underlying27 rfl sizeOf25<|La 3 rfl rfl bD<|iq hGF isAgg25 sizeOf25 (by simp) (fun _ h=>h.g1) rfl rfl<|Ca rfl (kB _ _ _ (by simp) (by simp) (by simp))<|bR rfl (by simp) underlying27 rfl sizeOf25 zv27 rfl rfl<|Sa 4 hGF rfl rfl rfl bU<|aa<|aq<|Rr<|?_
 exact aw 4 rfl rfl rfl isAgg27 sizeOf27 (by simp) (fun w hw=>⟨by rw[D4],ac hw⟩)
theorem jo(n:List (BitVec 64))(hn:n.length=6):Pure Tryz.prog Gt 42 [NV n] (EV (zp (V n 6))):=by
 intro w hw
 refine Hf func42 rfl hw<|fun hGF=>Xp<|Bx 1 hGF rfl<|fun b1=>Al 2 hGF zv27<|fun b2=>aa<|Xp<|iq hGF isAgg25 sizeOf25 (by first|(simp;done)|simp[hn]) (fun _ h=>h.g0) rfl rfl<|cC 1 rfl rfl isAgg25 sizeOf25 (by first|(simp;done)|simp[hn]) rfl rfl<|iq hGF isAgg25 sizeOf25 (by first|(simp;done)|simp[hn]) (fun _ h=>h.g1) rfl rfl<|Ca rfl (kB _ _ _ (by first|(simp;done)|simp[hn]) (by first|(simp;done)|simp[hn]) (by first|(simp;done)|simp[hn]))<|bR rfl (by first|(simp;done)|simp[hn]) underlying27 rfl sizeOf25 zv27 rfl rfl<|aF 2 hGF rfl rfl rfl sizeOf27 (by first|(simp;done)|simp[hn]) (by first|(simp;done)|simp[hn]) (bq _) rfl<|aa<|aq<|Rr<|?_
 exact aw 2 rfl rfl rfl isAgg27 sizeOf27 (by first|(simp;done)|simp[hn]) (fun w hw=>⟨by rw[Ck],ac hw⟩)
theorem g8(x:Zp):Pure Tryz.prog Gt 55 [EV x] (NV (nm x)):=by
 intro w hw
 refine Hf func55 rfl hw<|fun hGF=>Xp<|Bx 1 hGF rfl<|fun b1=>Al 2 hGF zv25<|fun b2=>aa<|Xp<|Fa 0 rfl underlying27 rfl sizeOf25<|La 1 rfl rfl bD<|ep 1 rfl underlying25 sizeOf24 zv25 rfl rfl<|iq hGF isAgg25 sizeOf25 (by simp) (fun _ h=>h.g1) rfl rfl<|Ca rfl (kB _ _ _ (by simp) (by simp) (by simp))<|Sa 2 hGF rfl rfl rfl bD<|aa<|aq<|Rr<|?_
 exact aw 2 rfl rfl rfl isAgg25 sizeOf25 (by simp) (fun w hw=>⟨by rw[←Cq];rfl,ac hw⟩)
theorem vU(n:BitVec 64): ∀k,V (n::List.replicate 5 0) (k+1)=n.toNat
 |0=>by rw[tt,V,Nat.mul_zero,Nat.pow_zero,Nat.mul_one,Nat.zero_add];rfl
 |k+1=>by
  have h0:(n::List.replicate 5 (0:BitVec 64)).getD (k+1) 0=0:=by
   rw[List.getD_eq_getElem?_getD,List.getElem?_cons_succ,List.getElem?_replicate]
   split<;>rfl
  rw[tt,vU n k,h0,show (0:BitVec 64).toNat=0 from rfl,Nat.zero_mul,Nat.add_zero]
theorem lJ(n:BitVec 64):V (n::List.replicate 5 0) 6=n.toNat:=vU n 5
theorem dk(n:BitVec 64):Pure Tryz.prog Gt 76 [U64 n] (EV (zp n.toNat)):=by
 intro w hw
 refine Hf func76 rfl hw<|fun hGF=>Xp<|Al 2 hGF zv27<|fun b2=>aa<|Xp<|Mv rfl<|ep n rfl underlying25 sizeOf24 zv25 rfl rfl<|Ca rfl (jo _ (by simp))<|Sa 2 hGF rfl rfl rfl bU<|aa<|aq<|Rr<|?_
 exact aw 2 rfl rfl rfl isAgg27 sizeOf27 (by simp) (fun w hw=>⟨by rw[lJ],ac hw⟩)
theorem kU(x y:Zp):Pure Tryz.prog Gt 93 [EV x,EV y] (.bool (decide (x=y))):=by
 intro w hw
 refine Hf func93 rfl hw<|fun hGF=>Xp<|Bx 2 hGF rfl<|fun b2=>Bx 3 hGF rfl<|fun b3=>Asg rfl<|aa<|Xp<|Fa 0 rfl underlying27 rfl sizeOf25<|La 2 rfl rfl bD<|Fa 0 rfl underlying27 rfl sizeOf25<|La 3 rfl rfl bD<|bO rfl rfl (fun _=>F2 _ _ _ _ _ _) (fun w=>Ge _ _ (by simp) (by simp) w) rfl rfl<|Asg rfl<|aa<|aq<|Rr<|?_
 exact aQ rfl rfl (fun w hw=>⟨by rw[eQ],ac hw⟩)
theorem pR(x:Zp):Pure Tryz.prog Gt 77 [EV x] (.bool (decide (x=0))):=by
 intro w hw
 refine Hf func77 rfl hw<|fun hGF=>Xp<|Bx 1 hGF rfl<|fun b1=>Asg rfl<|aa<|Xp<|Fa 0 rfl underlying27 rfl sizeOf25<|La 1 rfl rfl bD<|eS zv25 underlying25 sizeOf24 rfl rfl<|bO rfl rfl (fun _=>F2 _ _ _ _ _ _) (fun w=>Ge _ _ (by simp) (by simp) w) rfl rfl<|Asg rfl<|aa<|aq<|Rr<|?_
 exact aQ rfl rfl (fun w hw=>⟨by rw[←ij,eQ],ac hw⟩)
theorem nK(x y:Zp):Pure Tryz.prog Gt 41 [EV x,EV y] (EV (x+y)):=by
 intro w hw
 refine Hf func41 rfl hw<|fun hGF=>Xp<|Bx 2 hGF rfl<|fun b2=>Bx 3 hGF rfl<|fun b3=>Al 4 hGF zv27<|fun b4=>aa<|Xp<|Fa 0 rfl underlying27 rfl sizeOf25<|La 2 rfl rfl bD<|Fa 0 rfl underlying27 rfl sizeOf25<|La 3 rfl rfl bD<|Ca rfl (mi _ _ (by simp) (by simp))<|Mv rfl<|Ext rfl rfl<|Ext rfl rfl<|Al 5 hGF zv25<|fun b5=>Sa 5 hGF rfl rfl rfl bD<|Asg rfl<|aa<|Xp<|La 5 rfl rfl bD<|iq hGF isAgg25 sizeOf25 (by simp) (fun _ h=>h.g1) rfl rfl<|Ca rfl (iF _ _ (by simp) (by simp))<|Mv rfl<|Ext rfl rfl<|Ext rfl rfl<|Al 7 hGF zv25<|fun b7=>Sa 7 hGF rfl rfl rfl bD<|Asg rfl<|aa<|ah<|Xp<|Mv rfl<|Bnr rfl rfl (fun _=>aY _ _ _)<|aa<|?_
 refine ba rfl (fun hc=> ?_) (fun hc=> ?_)
 ·refine Xp<|La 5 rfl rfl bD<|bR rfl (by simp) underlying27 rfl sizeOf25 zv27 rfl rfl<|Sa 4 hGF rfl rfl rfl bU<|aa<|aq<|Rr<|?_
  exact aw 4 rfl rfl rfl isAgg27 sizeOf27 (by simp) (fun w hw=>⟨by rw[ww (zJ (ET hc))],ac hw⟩)
 ·refine au<|Xp<|La 7 rfl rfl bD<|bR rfl (by simp) underlying27 rfl sizeOf25 zv27 rfl rfl<|Sa 4 hGF rfl rfl rfl bU<|aa<|aq<|Rr<|?_
  exact aw 4 rfl rfl rfl isAgg27 sizeOf27 (by simp) (fun w hw=>⟨by rw[rR (td (me _ _ _) (FZ hc))],ac hw⟩)
theorem nN(x y:Zp):Pure Tryz.prog Gt 92 [EV x,EV y] (EV (x-y)):=by
 intro w hw
 refine Hf func92 rfl hw<|fun hGF=>Xp<|Bx 2 hGF rfl<|fun b2=>Bx 3 hGF rfl<|fun b3=>Al 4 hGF zv27<|fun b4=>aa<|Xp<|Fa 0 rfl underlying27 rfl sizeOf25<|La 2 rfl rfl bD<|Fa 0 rfl underlying27 rfl sizeOf25<|La 3 rfl rfl bD<|Ca rfl (iF _ _ (by simp) (by simp))<|Mv rfl<|Ext rfl rfl<|Ext rfl rfl<|Al 5 hGF zv25<|fun b5=>Sa 5 hGF rfl rfl rfl bD<|Asg rfl<|aa<|ah<|Xp<|Mv rfl<|Bnr rfl rfl (fun _=>aY _ _ _)<|aa<|?_
 refine ba rfl (fun hc=> ?_) (fun hc=> ?_)
 ·refine Xq<|La 5 rfl rfl bD<|iq hGF isAgg25 sizeOf25 (by simp) (fun _ h=>h.g1) rfl rfl<|Ca rfl (mi _ _ (by simp) (by simp))<|Mv rfl<|Ext rfl rfl<|Ext rfl rfl<|Sa 5 hGF rfl rfl rfl bD<|aa<|Xp<|La 5 rfl rfl bD<|bR rfl (by simp) underlying27 rfl sizeOf25 zv27 rfl rfl<|Sa 4 hGF rfl rfl rfl bU<|aa<|aq<|Rr<|?_
  exact aw 4 rfl rfl rfl isAgg27 sizeOf27 (by simp) (fun w hw=>⟨by rw[vl (ET hc)],ac hw⟩)
 ·refine au<|Xp<|La 5 rfl rfl bD<|bR rfl (by simp) underlying27 rfl sizeOf25 zv27 rfl rfl<|Sa 4 hGF rfl rfl rfl bU<|aa<|aq<|Rr<|?_
  exact aw 4 rfl rfl rfl isAgg27 sizeOf27 (by simp) (fun w hw=>⟨by rw[rE (td (me _ _ _) (FZ hc))],ac hw⟩)
theorem dK(x:Zp):Pure Tryz.prog Gt 74 [EV x] (EV (-x)):=by
 intro w hw
 refine Hf func74 rfl hw<|fun hGF=>Xp<|Bx 1 hGF rfl<|fun b1=>Al 2 hGF zv27<|fun b2=>aa<|Xp<|dO zv27 underlying27 (kD sizeOf25) rfl rfl<|La 1 rfl rfl bU<|Ca rfl ((show Pure Tryz.prog Gt 92 [NV (List.replicate 6 0#64),EV x] (EV (0-x)) by rw[←ij];exact nN 0 x))<|Sa 2 hGF rfl rfl rfl bU<|aa<|aq<|Rr<|?_
 exact aw 2 rfl rfl rfl isAgg27 sizeOf27 (by simp) (fun w hw=>⟨by rw[show (0:Zp)-x= -x by grind],ac hw⟩)
theorem gL(x:Zp):Pure Tryz.prog Gt 125 [EV x] (EV (x*x)):=by
 intro w hw
 refine Hf func125 rfl hw<|fun hGF=>Xp<|Bx 1 hGF rfl<|fun b1=>Al 2 hGF zv27<|fun b2=>aa<|Xp<|La 1 rfl rfl bU<|La 1 rfl rfl bU<|Ca rfl (go _ _)<|Sa 2 hGF rfl rfl rfl bU<|aa<|aq<|Rr<|?_
 exact aw 2 rfl rfl rfl isAgg27 sizeOf27 (by simp) (fun w hw=>⟨rfl,ac hw⟩)
theorem kV(x:Zp):Pure Tryz.prog Gt 21 [EV x] (.agg ((qe x).map U8).toArray):=by
 intro w hw
 refine Hf func21 rfl hw<|fun hGF=>Xp<|Bx 1 hGF rfl<|fun b1=>Al 2 hGF zv60<|fun b2=>aa<|Xp<|La 1 rfl rfl bU<|Ca rfl (g8 _)<|Ca rfl (jF _ (by simp))<|aF 2 hGF rfl rfl rfl sizeOf60 (by simp) (by simp) (ca _) rfl<|aa<|aq<|Rr<|?_
 exact aw 2 rfl rfl rfl isAgg60 sizeOf60 (by simp) (fun w hw=>⟨rfl,ac hw⟩)
end
section
open Go.RowKit
theorem ent186:am Tryz.prog 186:=fun _ _=>by kernel_rfl
attribute [local simp] bp bQ aI aB bj bc aX aW bv PLl eK eI N1l eP eU eW bJ bV
theorem zv190(w:World):(zeroValue 190).run Tryz.prog w=.ok (.agg ((FL (fun _=>List.replicate 6 0#64) 16).map U64).toArray) w:=(zeroValue190 w).trans (by rfl)
theorem nT:Pure Tryz.prog Gt 76 [U64 1#64] (EV 1):=dk 1#64
theorem rI(x:Zp):Pure Tryz.prog Gt 174 [EV x] (.agg ((SP x 16).map U64).toArray):=by
 intro w hw
 refine Hf func174 rfl hw<|fun hGF=>Xp<|Bx 1 hGF rfl<|fun b1=>Al 2 hGF zv190<|fun b2=>aa<|Xp<|Ca rfl (nT)<|xv rfl (by simp) (by decide) underlying190 sizeOf27 zv190 rfl rfl<|Al 3 hGF zv190<|fun b3=>Sa 3 hGF rfl rfl rfl vC<|aa<|ah<|Xp<|Asg rfl<|aa<|ai<|bg (ι:={i:Nat // 1≤i∧i≤16}) (fun y=>[(1,.pointer (some ⟨b1,0,none⟩)),(2,.pointer (some ⟨b2,0,none⟩)),(3,.pointer (some ⟨b3,0,none⟩)),(4,I (y.1:Int))]) (fun y=>[(1,b1,(fe x).map U64,27),(2,b2,(FL (fun _=>List.replicate 6 0#64) 16).map U64,190),(3,b3,(SP x y.1).map U64,190)]) (fun y=>16-y.1) ⟨1,by omega⟩ hGF ⟨rfl,rfl,rfl,rfl,trivial⟩ ⟨rfl,rfl,by rw[←Ix];rfl,trivial⟩<|?_
 rintro ⟨i,hi⟩
 dsimp only
 refine ah<|Xp<|Mv rfl<|Bnr rfl rfl (fun _=>av _ _ _)<|aa<|?_
 refine ba rfl (fun hc=> ?_) (fun hc=> ?_)
 ·simp only[decide_eq_true_eq]at hc
  refine au<|ah<|ai<|Xe []<|Mv rfl<|Mv rfl<|Bnr rfl rfl (fun _=>aL _ _ _ (by unfold inI;omega))<|sD (i-1) (6*(i-1)) rfl rfl underlying190 sizeOf27 (by omega) (by omega) (by omega) rfl rfl<|db 3 ((fe (x^(i-1))).map U64) rfl rfl isAgg27 sizeOf27 (by simp) (oT x i (i-1) (by omega) (by omega) _ rfl) rfl rfl<|La 1 rfl rfl bU<|Ca rfl (go _ _)<|sD (i) (6*(i)) rfl rfl underlying190 sizeOf27 (by omega) (by omega) (by omega) rfl rfl<|xz 3 ((SP x (i+1)).map U64) hGF rfl rfl rfl sizeOf27 (by simp) (bq _) (by rw[List.length_map,List.length_map,bp,bV];omega) (D0 x i (by omega) (by omega) _ rfl) rfl<|aa<|Xq<|Mv rfl<|Bnr rfl rfl (fun _=>ap _ _ _ (by unfold inI;omega))<|Asg rfl<|aa<|?_
  repeat (refine aJ ?_)
  exact aA<|⟨rfl,⟨i+1,by omega⟩,_,by show 16-(i+1)<16-i;omega,rfl,⟨rfl,rfl,rfl,rfl,trivial⟩,⟨rfl,rfl,rfl,trivial⟩⟩
 ·obtain rfl:i=16:=by simp at hc;omega
  refine aM<|Xp<|La 3 rfl rfl vC<|Sa 2 hGF rfl rfl rfl vC<|aa<|aq<|Rr<|?_
  exact aw 2 rfl rfl rfl isAgg190 sizeOf190 (by simp) (fun w hw=>⟨rfl,ac hw⟩)
def RdD(bb:Nat)(e:Option Addr)(cap:Nat)(bs:List (BitVec 8)):Cls:=fun W=>W.cell? ⟨bb,0,none⟩=some (.slice e bs.length cap)∧BytesAt W e bs
def NB(bs:List (BitVec 8)):List (List Value):=(List.range (2*bs.length)).map fun m=>[U8 (NBv bs m)]
theorem tf(bs:List (BitVec 8)):(NB bs).length=2*bs.length:=by simp[NB]
theorem uh(bs:List (BitVec 8))(m:Nat)(h:m<2*bs.length):(NB bs)[m]? =some [U8 (NBv bs m)]:=by
 rw[NB,List.getElem?_map,List.getElem?_range h];rfl
theorem Ll(bs:List (BitVec 8))(m:Nat)(x:List Value)(h:(NB bs)[m]? =some x):m<2*bs.length∧x=[U8 (NBv bs m)]:=by
 have hm:m<2*bs.length:=by
  rcases Nat.lt_or_ge m (2*bs.length)with h'|h'
  ·exact h'
  ·rw[List.getElem?_eq_none (by rw[tf];exact h')]at h;cases h
 rw[uh bs m hm]at h
 exact ⟨hm,(Option.some.inj h).symm⟩
theorem Ol(bs:List (BitVec 8))(i:Nat)(h:i<bs.length):(NB bs)[2*i]? =some [U8 (bs.getD i 0>>>4)]:=by
 rw[uh bs _ (by omega),NBv,if_pos (by omega),show 2*i / 2=i by omega]
theorem Oi(bs:List (BitVec 8))(i:Nat)(h:i<bs.length):(NB bs)[2*i+1]? =some [U8 (bs.getD i 0 % 16#8)]:=by
 rw[uh bs _ (by omega),NBv,if_neg (by omega),show (2*i+1) / 2=i by omega]
theorem nt(sv:Value)(hs:sv.cells= #[sv])(w:World)(hw:Gt w):Calls Tryz.prog 175 [sv].toArray w (fun e w'=> ∃b1,e=.returned (.func (.func 186) #[] #[.pointer (some ⟨b1,0,none⟩)])∧Grow w w'∧w.heap.size≤b1∧OwnB w' b1 [sv] 22):=by
 refine Hf func175 rfl hw<|fun hGF=>Xp<|kv 1 hGF rfl rfl rfl<|fun b1=>Asg rfl<|aa<|Xp<|iY rfl rfl rfl rfl<|Asg rfl<|aa<|aq<|Rr<|?_
 exact aQ rfl rfl (fun w hw=>⟨b1,rfl,ac hw,(hw.own 1 b1 _ _ rfl).2.elim id False.elim,(by have:=(hw.own 1 b1 _ _ rfl).1;rw[hs]at this;exact this)⟩)
theorem rp(bb:Nat)(e:Option Addr)(cap:Nat)(bs:List (BitVec 8))(hlen:bs.length≤1000000):iI Tryz.prog Gt 186 [.pointer (some ⟨bb,0,none⟩)] (NB bs) (RdD bb e cap bs):=by
 intro l J Jx hJ hJx hRd hGx hY w hj
 have okJ: ∀k,BOk Gt (Bi w (fun Y=>J Y k)):=fun k=>⟨fun _ _ _ h=>(hRd _ _ _ h.rid).1,hJ k⟩
 have okX: ∀k,BOk Gt (Bi w (fun Y=>Jx Y k)):=fun k=>⟨fun _ _ _ h=>hGx _ _ _ h.rid,hJx k⟩
 have c1: ∀k L w',Hp (Bi w (fun Y=>J Y k)) L w'→RdD bb e cap bs w':=fun k L w' h=>(hRd _ _ _ h.rid).2
 have hby:=(hRd _ _ _ hj).2.2
 refine cN (G:=Gt) func186 rfl rfl (Hp (Bi w (fun Y=>J Y 0)) []) (cP (Bi w _) hj (hJ 0)) (az (okJ 0))<|Xp<|bC rfl isAgg22 (fun w h=>(c1 _ _ w h).1) rfl rfl<|aZ rfl (fun _=>aC underlying22 _ _ _ _) rfl rfl<|Mv rfl<|aa<|ai<|jk (ι:={i:Nat // i≤bs.length}) (fun x=>[(0,.func (.yield l) #[] #[]),(1,.pointer (some ⟨bb,0,none⟩)),(5,.slice e bs.length cap),(6,I (bs.length:Int)),(7,I (x.1:Int))]) (fun x=>Bi w (fun Y=>J Y (2*x.1))) (fun x=>[]) (fun x=>bs.length-x.1) ⟨0,Nat.zero_le _⟩ (fun _=>okJ _) rfl ⟨rfl,rfl,rfl,rfl,rfl,trivial⟩ trivial<|?_
 rintro ⟨i,hi⟩
 dsimp only
 refine Xp<|Bnr rfl rfl (fun _=>av _ _ _)<|aa<|ah<|?_
 refine ba rfl (fun hc=> ?_) (fun hc=> ?_)
 ·simp only[decide_eq_true_eq]at hc
  have hi2:i<bs.length:=by omega
  refine au<|ah<|ai<|Xp<|?_
  obtain ⟨ad,rfl,_⟩:=hby i _ (gm U8 bs 0 i (by omega))
  refine iN i rfl rfl underlying22 sizeOf5 rfl (by omega) rfl rfl<|bC rfl isAgg5 (fun w' h=>by obtain ⟨ad',e',hc'⟩:=(c1 _ _ w' h).2 i _ (gm U8 bs 0 i (by omega));cases e';exact hc') rfl rfl<|Asg rfl<|aa<|wN (E:=EE []) 4<|Mv rfl<|Mv rfl<|Bnr (v:=U8 (bs.getD i 0>>>4)) rfl rfl (fun _=>tV _ _ 4#64)<|?_
  refine eB (hY.b (k:=2*i) (Ol bs i (by omega)) w) (okJ _) (okX _) rfl rfl rfl rfl rfl ?_ ?_
  ·refine aa ?_
   refine ⟨EE [], ?_⟩
   refine bT rfl (fun _=>bI _) rfl rfl<|Mv rfl<|Mv rfl<|Mv rfl<|Bnr (v:=U8 (bs.getD i 0 % 16#8)) rfl rfl (fun _=>tU _ _ 16#8 (by decide))<|?_
   refine eB (hY.b (k:=2*i+1) (Oi bs i (by omega)) w) (okJ _) (okX _) rfl rfl rfl rfl rfl ?_ ?_
   ·refine bT rfl (fun _=>bI _) rfl rfl<|Pk rfl rfl rfl<|aa<|aV rfl<|au<|Xq<|Bnr rfl rfl (fun _=>ap _ _ _ (by unfold inI;omega))<|Mv rfl<|aa<|?_
    rw[show 2*i+1+1=2*(i+1) by omega]
    repeat (refine aJ ?_)
    exact aA<|⟨rfl,⟨i+1,by omega⟩,_,by show bs.length-(i+1)<bs.length-i;omega,rfl,⟨rfl,rfl,rfl,rfl,rfl,trivial⟩,trivial⟩
   ·refine bT rfl (fun _=>bI _) rfl rfl<|Pk rfl rfl rfl<|aa<|bf rfl<|aq<|Rr<|?_
    repeat (first|refine eV ?_|refine dw ?_|refine fP rfl ?_|refine ck ?_|refine cn ?_)
    exact fK rfl (fun w hw=>⟨⟨_,rfl⟩,.inr ⟨_,cf (hJx _) hw.rid⟩⟩)
  ·refine aa ?_
   refine ⟨EE [3000000], ?_⟩
   refine bT rfl (fun _=>bI _) rfl rfl<|Mv rfl<|Sk<|Sk<|Sk<|Sk<|Sk<|Pk rfl rfl rfl<|aa<|bf rfl<|aq<|Rr<|?_
   repeat (first|refine eV ?_|refine dw ?_|refine fP rfl ?_|refine ck ?_|refine cn ?_)
   exact fK rfl (fun w hw=>⟨⟨_,rfl⟩,.inr ⟨_,cf (hJx _) hw.rid⟩⟩)
 ·simp only[decide_eq_false_iff_not]at hc
  obtain rfl:i=bs.length:=by omega
  refine aM ?_
  repeat (first|refine eV ?_|refine dw ?_|refine fP rfl ?_|refine ck ?_|refine cn ?_)
  refine cT rfl (fun w hw=>⟨⟨_,rfl⟩,.inl ?_⟩)
  have:=cf (hJ _) hw.rid
  rw[tf]
  exact this
end
section
open Go.RowKit
attribute [local simp] bp bQ aI aB bj bc aX aW bv PLl eK eI N1l eP eU eW bJ bV
theorem s9(x:Zp)(e:Option Addr)(cap:Nat)(bs:List (BitVec 8))(hlen:bs.length≤1000000)(w:World)(hw:Gt w)(hby:BytesAt w e bs):
 Calls Tryz.prog 160 [EV x,.slice e bs.length cap].toArray w (fun r w'=>r=.returned (EV (x^BN bs bs.length))∧Grow w w'):=by
 have hGF:BOk Gt (pl w):=gt_low.plain hw
 refine el (G:=Gt) func160 rfl rfl (Hp (pl w) []) (cP (pl w) trivial ao) (az hGF)<|ae (E:=EE [175])<|Bx 2 hGF rfl<|fun b2=>Al 4 hGF zv27<|fun b4=>aa<|ae (E:=EE [175])<|La 2 rfl rfl bU<|Ca rfl (rI _)<|Al 5 hGF zv190<|fun b5=>Sa 5 hGF rfl rfl rfl vC<|aa<|ae (E:=EE [175])<|sD 0 0 rfl rfl underlying190 sizeOf27 rfl (by decide) rfl rfl rfl<|db 5 ((fe (x^0)).map U64) rfl rfl isAgg27 sizeOf27 (by simp) (oT x 16 0 (by decide) (by decide) 0 rfl) rfl rfl<|Al 6 hGF zv27<|fun b6=>Sa 6 hGF rfl rfl rfl bU<|aa<|ah<|ae (E:=EE [175])<|Mv rfl<|?_
 refine gq rfl rfl ent175 rfl rfl (fun w' hw'=>(nt _ rfl w' (hGF.g _ _ _ hw')).mono fun e' w'' h=> ?_)
 obtain ⟨c1,rfl,hg,h1,ho⟩:=h
 refine ⟨_,_,rfl,az hGF,hw'.news ao hg [(33,c1,[.slice e bs.length cap],22)] ?_ bH, ?_⟩
 ·intro n' b' c' t' hl
  rcases aH hl with ⟨_,e⟩|⟨_,hl⟩
  ·cases e;exact ⟨h1,ho⟩
  ·cases hl
 clear hw' hg h1 ho
 refine aa<|ai<|?_
 refine iS (fun _=>pl w) (fun _ _=>pl w) (fun _=>hGF) (fun _ _=>hGF) (fun _=>rfl) (fun _ _=>rfl) rfl rfl ent186 (rp c1 e cap bs hlen) (fun x hx=>by obtain ⟨k,hk,rfl⟩:=List.mem_map.1 hx;rfl) rfl (fun k=>[(2,b2,(fe x).map U64,27),(4,b4,(List.replicate 6 0#64).map U64,27),(5,b5,(SP x 16).map U64,190),(6,b6,(fe (x^DN bs k)).map U64,27),(33,c1,[.slice e bs.length cap],22)]) (fun _ _ _=>False) ⟨rfl,rfl,rfl,by rw[DN];rfl,rfl,trivial⟩ (fun k _ w' h=>⟨cg (n:=33) rfl rfl w' h,hby.grow (h.below (fun _ h=>h))⟩) ?_ ?_ (fun _ _ _ _ _ h=>h.elim)
 ·intro k v hx R hR
  obtain ⟨hk,rfl⟩:=Ll bs k v hx
  have hlt:=Hx bs k
  refine bM (E:=EE [175])<|Asg rfl<|aa<|?_
  refine ⟨rfl,_,rfl, ?_⟩
  refine ai<|ah<|ae (E:=EE [175])<|Mv rfl<|aa<|ai<|bg (ι:={i:Nat // i≤4}) (fun j=>[(5,.pointer (some ⟨b5,0,none⟩)),(6,.pointer (some ⟨b6,0,none⟩)),(7,U8 (NBv bs k)),(15,I (j.1:Int))]) (fun j=>[(2,b2,(fe x).map U64,27),(4,b4,(List.replicate 6 0#64).map U64,27),(5,b5,(SP x 16).map U64,190),(6,b6,(fe (x^(2^j.1*DN bs k))).map U64,27),(33,c1,[.slice e bs.length cap],22)]) (fun j=>4-j.1) ⟨0,by omega⟩ (hR (pl w) rfl hGF).2.1 ⟨rfl,rfl,rfl,rfl,trivial⟩ ⟨rfl,rfl,rfl,by rw[Nat.pow_zero,Nat.one_mul];rfl,rfl,trivial⟩<|?_
  rintro ⟨j,hj⟩
  dsimp only
  refine ae (E:=EE [175])<|Bnr rfl rfl (fun _=>av _ _ _)<|aa<|ah<|?_
  refine ba rfl (fun hc=> ?_) (fun hc=> ?_)
  ·simp only[decide_eq_true_eq]at hc
   refine au<|ah<|ai<|bM (E:=EE [175])<|La 6 rfl rfl bU<|Ca rfl (gL _)<|aF 6 (hR (pl w) rfl hGF).2.1 rfl rfl rfl sizeOf27 (by simp) (by simp) (bq _) rfl<|aa<|bM (E:=EE [175])<|Bnr rfl rfl (fun _=>ap _ _ _ (by unfold inI;omega))<|Mv rfl<|aa<|?_
   repeat (refine aJ ?_)
   exact aA<|⟨rfl,⟨j+1,by omega⟩,_,by show 4-(j+1)<4-j;omega,rfl,⟨rfl,rfl,rfl,rfl,trivial⟩,⟨rfl,rfl,rfl,by rw[←ED];rfl,rfl,trivial⟩⟩
  ·obtain rfl:j=4:=by simp at hc;omega
   refine aM<|Xe [175]<|La 6 rfl rfl bU<|Mv rfl<|D3 (6*(NBv bs k).toNat) rfl rfl underlying190 sizeOf27 hlt (by omega) rfl rfl<|db 5 ((fe (x^(NBv bs k).toNat)).map U64) rfl rfl isAgg27 sizeOf27 (by simp) (oT x 16 _ hlt (Nat.le_refl _) _ rfl) rfl rfl<|Ca rfl (Ad x bs k▸go (x^(2^4*DN bs k)) (x^(NBv bs k).toNat))<|aF 6 (hR (pl w) rfl hGF).2.1 rfl rfl rfl sizeOf27 (by simp) (by simp) (bq _) rfl<|aa<|?_
   repeat (refine aJ ?_)
   exact ⟨_,rfl,⟨rfl,rfl,rfl,rfl,rfl,trivial⟩⟩
 ·intro D hD
  rw[tf,Cd]
  refine ae (E:=EE [175])<|La 6 rfl rfl bU<|Sa 4 hD rfl rfl rfl bU<|aa<|aq<|Rr<|?_
  exact i4 (.inl rfl) ao (aw 4 rfl rfl rfl isAgg27 sizeOf27 (by simp) (fun w hw=>⟨rfl,ac hw⟩))
end
section
open Go.RowKit
attribute [local simp] bp bQ aI aB bj bc aX aW bv PLl eK eI N1l eP eU eW bJ bV
theorem HR(x:Zp)(b:Nat)(t:TypeId)(bs:List (BitVec 8))(h48:bs.length=48)(w:World)(hw:Gt w)(ho:OwnB w b (bs.map U8) t):
 Calls Tryz.prog 160 [EV x,.slice (some ⟨b,0,none⟩) 48 48].toArray w (fun r w'=>r=.returned (EV (x^BN bs 48))∧Grow w w'):=by
 have h:=s9 x (some ⟨b,0,none⟩) 48 bs (by omega) w hw (BytesAt.range ho.range)
 rw[h48]at h
 exact h
theorem lq(a:Option Addr)(len cap:Nat)(bs:List (BitVec 8))(hl:bs.length=len)(h:len≤48)(w:World)(hw:Gt w)(hby:BytesAt w a bs):
 Calls Tryz.prog 39 [.slice a len cap].toArray w (fun e w'=>e=.returned (.tuple #[NV (FRs bs bs.length),.bool true])∧Grow w w'):=by
 subst hl
 exact (sM a cap bs w hw hby).mono fun e w' ⟨he,hg⟩=>⟨by rw[he,if_neg (by omega)],hg⟩
theorem k4(x:Zp)(n:List (BitVec 64))(hn:n.length=6):Pure Tryz.prog Gt 126 [EV x,NV n] (EV (x^V n 6)):=by
 intro w hw
 refine Hf func126 rfl hw<|fun hGF=>Xp<|Bx 2 hGF rfl<|fun b2=>Bx 3 hGF rfl<|fun b3=>Al 4 hGF zv27<|fun b4=>aa<|Xp<|cC 3 rfl rfl isAgg25 sizeOf25 (by first|(simp;done)|simp[hn]) rfl rfl<|Ca rfl (jF _ (by first|(simp;done)|simp[hn]))<|Al 5 hGF zv60<|fun b5=>aF 5 hGF rfl rfl rfl sizeOf60 (by first|(simp;done)|simp[hn]) (by first|(simp;done)|simp[hn]) (ca _) rfl<|aa<|Xd []<|cC 2 rfl rfl isAgg27 sizeOf27 (by first|(simp;done)|simp[hn]) rfl rfl<|ci (l:=0) (h':=48) rfl underlying60 sizeOf5 rfl rfl (by omega) (by omega) rfl rfl<|Cc rfl ent160 (fun w hC hG=>HR x _ _ (BYs n 48) (by first|(simp;done)|simp[hn]) w hG (hC.own 5 _ _ _ rfl).1)<|aF 4 hGF rfl rfl rfl sizeOf27 (by first|(simp;done)|simp[hn]) (by first|(simp;done)|simp[hn]) (bq _) rfl<|aa<|aq<|Rr<|?_
 exact aw 4 rfl rfl rfl isAgg27 sizeOf27 (by first|(simp;done)|simp[hn]) (fun w hw=>⟨by rw[pD n hn 48 rfl],ac hw⟩)
theorem wD(x:Zp):Pure Tryz.prog Gt 95 [EV x] (EV (x^(PP-2))):=by
 intro w hw
 refine Hf func95 rfl hw<|fun hGF=>Xp<|Bx 1 hGF rfl<|fun b1=>Al 2 hGF zv27<|fun b2=>aa<|Xp<|La 1 rfl rfl bU<|iq hGF isAgg25 sizeOf25 (by simp) (fun _ h=>h.g3) rfl rfl<|Ca rfl (k4 _ _ (by simp))<|Sa 2 hGF rfl rfl rfl bU<|aa<|aq<|Rr<|?_
 exact aw 2 rfl rfl rfl isAgg27 sizeOf27 (by simp) (fun w hw=>⟨by rw[←De],ac hw⟩)
theorem wJ(x:Zp):Pure Tryz.prog Gt 169 [EV x] (.bool (decide (x.val % 2=1))):=by
 intro w hw
 refine Hf func169 rfl hw<|fun hGF=>Xp<|Bx 1 hGF rfl<|fun b1=>Asg rfl<|aa<|Xp<|La 1 rfl rfl bU<|Ca rfl (g8 _)<|fW U64 0 (0) rfl rfl underlying25 sizeOf24 isAgg24 (by omega) (by omega) (by simp) rfl rfl<|Bnr rfl rfl (fun _=>dI _ _ _ (by decide))<|Bnr rfl rfl (fun _=>aY _ _ _)<|Asg rfl<|aa<|aq<|Rr<|?_
 exact aQ rfl rfl (fun w hw=>⟨by rw[←HA]<;>rfl,ac hw⟩)
theorem lf(x:Zp):Pure Tryz.prog Gt 127 [EV x] (.bool (decide (hf<x.val))):=by
 intro w hw
 refine Hf func127 rfl hw<|fun hGF=>Xp<|Bx 1 hGF rfl<|fun b1=>Asg rfl<|aa<|Xd []<|iq hGF isAgg25 sizeOf25 (by simp) (fun _ h=>h.g4) rfl rfl<|La 1 rfl rfl bU<|Ca rfl (g8 _)<|Ca rfl (iQ _ _ (by simp) (by simp))<|Asg rfl<|aa<|aq<|Rr<|?_
 exact aQ rfl rfl (fun w hw=>⟨by rw[←zh],ac hw⟩)
theorem Dw(x:Zp):Pure Tryz.prog Gt 126 [EV x,NV RTP] (EV (SQr x)):=by
 have h:=k4 x RTP rfl
 rw[CR]at h
 exact h
theorem tZ(x:Zp):Pure Tryz.prog Gt 80 [EV x] (.tuple #[EV (SQ x),.bool (decide (SQr x*SQr x=x))]):=by
 intro w hw
 refine Hf func80 rfl hw<|fun hGF=>Xp<|Bx 1 hGF rfl<|fun b1=>Al 2 hGF zv27<|fun b2=>Asg rfl<|aa<|Xp<|La 1 rfl rfl bU<|iq hGF isAgg25 sizeOf25 (by simp) (fun _ h=>h.g2) rfl rfl<|Ca rfl (Dw x)<|Al 4 hGF zv27<|fun b4=>Sa 4 hGF rfl rfl rfl bU<|aa<|ah<|Xd []<|La 4 rfl rfl bU<|Ca rfl (gL _)<|La 1 rfl rfl bU<|Ca rfl (kU _ _)<|bT rfl (fun _=>bI _) rfl rfl<|aa<|?_
 refine ba rfl (fun hc=> ?_) (fun hc=> ?_)
 ·have hs: ¬SQr x*SQr x=x:=by simpa using hc
  refine Xp<|dO zv27 underlying27 (kD sizeOf25) rfl rfl<|Sa 2 hGF rfl rfl rfl bU<|Asg rfl<|aa<|aq<|Rr<|?_
  exact bG 2 rfl rfl rfl rfl isAgg27 sizeOf27 (by simp) (fun w hw=>⟨by rw[SQ,if_neg hs,decide_eq_false hs,←ij]<;>rfl,ac hw⟩)
 ·have hs:SQr x*SQr x=x:=by simpa using hc
  clear hc
  refine au<|ah<|Xp<|La 4 rfl rfl bU<|Ca rfl (lf _)<|aa<|?_
  refine ba rfl (fun hc=> ?_) (fun hc=> ?_)
  ·simp only[decide_eq_true_eq]at hc
   refine Xq<|La 4 rfl rfl bU<|Ca rfl (dK _)<|Sa 4 hGF rfl rfl rfl bU<|aa<|Xp<|La 4 rfl rfl bU<|Sa 2 hGF rfl rfl rfl bU<|Asg rfl<|aa<|aq<|Rr<|?_
   exact bG 2 rfl rfl rfl rfl isAgg27 sizeOf27 (by simp) (fun w hw=>⟨by rw[SQ,if_pos hs,SQn,if_pos hc,decide_eq_true hs]<;>rfl,ac hw⟩)
  ·simp only[decide_eq_false_iff_not]at hc
   refine au<|Xp<|La 4 rfl rfl bU<|Sa 2 hGF rfl rfl rfl bU<|Asg rfl<|aa<|aq<|Rr<|?_
   exact bG 2 rfl rfl rfl rfl isAgg27 sizeOf27 (by simp) (fun w hw=>⟨by rw[SQ,if_pos hs,SQn,if_neg hc,decide_eq_true hs]<;>rfl,ac hw⟩)
theorem lr(e:Option Addr)(cap:Nat)(bs:List (BitVec 8))(w:World)(hw:Gt w)(hby:BytesAt w e bs):
 Calls Tryz.prog 87 [.slice e bs.length cap].toArray w (fun r w'=>r=.returned (.tuple #[EV (FV bs),.bool (FO bs)])∧Grow w w'):=by
 refine Hf func87 rfl hw<|fun hGF=>Xp<|Al 2 hGF zv27<|fun b2=>Asg rfl<|aa<|ah<|Xp<|Mv rfl<|aZ rfl (fun _=>aC underlying22 _ _ _ _) rfl rfl<|Bnr rfl rfl (fun _=>bK _ _ _)<|aa<|?_
 refine ba rfl (fun hc=> ?_) (fun hc=> ?_)
 ·have hc: ¬bs.length=48:=by simp at hc;omega
  refine Xp<|dO zv27 underlying27 (kD sizeOf25) rfl rfl<|Sa 2 hGF rfl rfl rfl bU<|Asg rfl<|aa<|aq<|Rr<|?_
  exact bG 2 rfl rfl rfl rfl isAgg27 sizeOf27 (by simp) (fun w hw=>⟨by rw[FV,FO,if_neg (fun h=>hc h.1),decide_eq_false (fun h=>hc h.1),←ij]<;>rfl,ac hw⟩)
 ·have h48:bs.length=48:=by simp at hc;omega
  clear hc
  refine au<|Xp<|Mv rfl<|Cc rfl ent39 (fun w' hC hG=>lq e bs.length cap bs rfl (by omega) w' hG (hby.grow (ac hC)))<|Mv rfl<|Ext rfl rfl<|Ext rfl rfl<|Al 4 hGF zv25<|fun b4=>Sa 4 hGF rfl rfl rfl bD<|Asg rfl<|aa<|ah<|Xp<|Mv rfl<|bT rfl (fun _=>bI _) rfl rfl<|Mv rfl<|La 4 rfl rfl bD<|iq hGF isAgg25 sizeOf25 (by simp) (fun _ h=>h.g1) rfl rfl<|Ca rfl (iQ _ _ (by simp) (by simp))<|bT rfl (fun _=>bI _) rfl rfl<|Pk rfl rfl rfl<|aa<|?_
  refine ba rfl (fun hc=> ?_) (fun hc=> ?_)
  ·have e0:V (FRs bs bs.length) 6=BN bs 48:=by rw[nL bs (by omega),h48]
   have hl: ¬BN bs 48<PP:=by rw[mZ,ft,e0]at hc;simpa using hc
   clear hc
   refine Xp<|dO zv27 underlying27 (kD sizeOf25) rfl rfl<|Sa 2 hGF rfl rfl rfl bU<|Asg rfl<|aa<|aq<|Rr<|?_
   exact bG 2 rfl rfl rfl rfl isAgg27 sizeOf27 (by simp) (fun w hw=>⟨by rw[FV,FO,if_neg (fun h=>hl h.2),decide_eq_false (fun h=>hl h.2),←ij]<;>rfl,ac hw⟩)
  ·have e0:V (FRs bs bs.length) 6=BN bs 48:=by rw[nL bs (by omega),h48]
   have hl:BN bs 48<PP:=by rw[mZ,ft,e0]at hc;simpa using hc
   clear hc
   refine au<|Xp<|La 4 rfl rfl bD<|Ca rfl (jo _ (by simp))<|Sa 2 hGF rfl rfl rfl bU<|Asg rfl<|aa<|aq<|Rr<|?_
   exact bG 2 rfl rfl rfl rfl isAgg27 sizeOf27 (by simp) (fun w hw=>⟨by rw[FV,FO,if_pos ⟨h48,hl⟩,decide_eq_true ⟨h48,hl⟩,nL bs (by omega),h48]<;>rfl,ac hw⟩)
structure WSt(w:World)(bs:List (BitVec 8)) where
 (k:Nat) (a:Option Addr) (c:Nat)
 hk:k≤bs.length
 hc:bs.length-k≤c
 hb:BytesAt w a (bs.drop k)
 hm:k=0∨(bs.length-k) % 48=0
theorem kK(bs:List (BitVec 8))(k cut:Nat)(h:cut≤bs.length-k):((bs.drop k).take cut).length=cut:=by
 rw[List.length_take,List.length_drop];omega
theorem sO(y:Zp):Pure Tryz.prog Gt 40 [EV y,NV TWO] (EV (y*RZ)):=JM▸go y RZ
theorem r9(bs:List (BitVec 8))(h:bs.length≤48):Pure Tryz.prog Gt 42 [NV (FRs bs bs.length)] (EV (zp (BN bs bs.length))):=nL bs h▸jo (FRs bs bs.length) (aX _ _)
theorem rf(e:Option Addr)(cap:Nat)(bs:List (BitVec 8))(hlen:bs.length≤1000000)(hcap:bs.length≤cap)(w:World)(hw:Gt w)(hby:BytesAt w e bs):
 Calls Tryz.prog 13 [.slice e bs.length cap].toArray w (fun r w'=>r=.returned (EV (ZB bs))∧Grow w w'):=by
 refine Hf func13 rfl hw<|fun hGF=>Xp<|Al 2 hGF zv27<|fun b2=>aa<|Xp<|Al 3 hGF zv27<|fun b3=>aa<|ah<|ai<|bg (ι:=WSt w bs) (fun x=>[(0,.slice x.a (bs.length-x.k) x.c),(2,.pointer (some ⟨b2,0,none⟩)),(3,.pointer (some ⟨b3,0,none⟩))]) (fun x=>[(2,b2,(List.replicate 6 0#64).map U64,27),(3,b3,(fe (zp (BN bs x.k))).map U64,27)]) (fun x=>(bs.length-x.k)) ⟨0,e,cap,Nat.zero_le _,hcap,hby,.inl rfl⟩ hGF ⟨rfl,rfl,rfl,trivial⟩ ⟨rfl,by rw[BN,EA,ij];rfl,trivial⟩<|fun x=>ah<|Xp<|Mv rfl<|aZ rfl (fun _=>aC underlying22 _ _ _ _) rfl rfl<|Bnr rfl rfl (fun _=>aP _ _ _)<|aa<|?_
 refine ba rfl (fun hc=> ?_) (fun hc=> ?_)
 ·have hn:0<(bs.length-x.k):=by simp at hc;omega
  clear hc
  have hlenx:=x.hk
  have hcut:=Cs hn
  have hnext:BytesAt w (if x.c=(((bs.length-x.k)-1) % 48+1)then x.a else x.a.map (·.add ((((bs.length-x.k)-1) % 48+1)*1))) (bs.drop (x.k+(((bs.length-x.k)-1) % 48+1))):=by
   have:=x.hb.drop (cap:=x.c) (l:=(((bs.length-x.k)-1) % 48+1)) (by rw[List.length_drop];exact x.hc) (by omega)
   rw[List.drop_drop]at this
   exact this
  have hstep:zp (BN bs x.k)*RZ+zp (BN ((bs.drop x.k).take (((bs.length-x.k)-1) % 48+1)) ((bs.drop x.k).take (((bs.length-x.k)-1) % 48+1)).length)=zp (BN bs (x.k+(((bs.length-x.k)-1) % 48+1))):=by
   rw[kK bs x.k _ hcut.2.1,EK]
   exact xM bs x.k _ (iH id (J0 hn) x.hm)
  refine au<|ai<|Xp<|Mv rfl<|aZ rfl (fun _=>aC underlying22 _ _ _ _) rfl rfl<|Bnr (v:=I (((bs.length-x.k)-1:Nat):Int)) rfl rfl (fun _=>(aL _ _ _ (by unfold inI;omega)).trans (by rw[show ((bs.length-x.k:Nat):Int)-1=((bs.length-x.k-1:Nat):Int) by omega]))<|bO (v:=I ((((bs.length-x.k)-1) % 48:Nat):Int)) rfl rfl (fun _=>rfl) (fun _=>cV _ _ _ (by decide)) rfl rfl<|bO (v:=I (((((bs.length-x.k)-1) % 48+1):Nat):Int)) rfl rfl (fun _=>rfl) (fun _=>ap _ _ _ (by unfold inI;omega)) rfl rfl<|Asg rfl<|aa<|Xp<|Mv rfl<|Mv rfl<|iP (l:=0) (h':=(((bs.length-x.k)-1) % 48+1)) rfl underlying22 sizeOf5 rfl rfl ⟨Nat.zero_le _,Nat.le_trans hcut.2.1 x.hc⟩ rfl rfl<|kf rfl rfl ent39 (fun w' hC hG=>lq _ (((bs.length-x.k)-1) % 48+1) _ ((bs.drop x.k).take (((bs.length-x.k)-1) % 48+1)) (kK bs x.k _ hcut.2.1) hcut.2.2 w' hG ((x.hb.cut 0 (((bs.length-x.k)-1) % 48+1) (by rw[List.length_drop];exact x.hc)).grow (ac hC))) rfl rfl<|Mv rfl<|Ext rfl rfl<|Ext rfl rfl<|Al 5 hGF zv25<|fun b5=>Sa 5 hGF rfl rfl rfl bD<|Asg rfl<|aa<|Xd []<|La 3 rfl rfl bU<|iq hGF isAgg25 sizeOf25 (by simp) (fun _ h=>h.g0) rfl rfl<|bR rfl (by simp) underlying27 rfl sizeOf25 zv27 rfl rfl<|Ca rfl (sO _)<|La 5 rfl rfl bD<|Ca rfl (r9 ((bs.drop x.k).take (((bs.length-x.k)-1) % 48+1)) (by rw[kK bs x.k _ hcut.2.1];exact hcut.2.2))<|Ca rfl (nK _ _)<|Sa 3 hGF rfl rfl rfl bU<|aa<|Xq<|Mv rfl<|Mv rfl<|iP (l:=(((bs.length-x.k)-1) % 48+1)) (h':=(bs.length-x.k)) rfl underlying22 sizeOf5 rfl rfl ⟨hcut.2.1,x.hc⟩ rfl rfl<|Asg rfl<|aa<|?_
  repeat (refine aJ ?_)
  exact aA<|⟨rfl,⟨x.k+(((bs.length-x.k)-1) % 48+1),_,x.c-(((bs.length-x.k)-1) % 48+1),by have:=x.hk;omega,by have:=x.hc;omega,hnext,.inr (by rw[Nat.sub_add_eq];exact hcut.1)⟩,_,by show bs.length-(x.k+(((bs.length-x.k)-1) % 48+1))<bs.length-x.k;omega,rfl,⟨congrArg (fun n=>some (Value.slice _ n _)) (Nat.sub_sub bs.length x.k (((bs.length-x.k)-1) % 48+1)),rfl,rfl,trivial⟩,⟨rfl,by rw[←hstep];rfl,trivial⟩⟩
 ·have hn:x.k=bs.length:=by simp at hc;have:=x.hk;omega
  clear hc
  refine aM<|Xp<|La 3 rfl rfl bU<|Sa 2 hGF rfl rfl rfl bU<|aa<|aq<|Rr<|?_
  exact aw 2 rfl rfl rfl isAgg27 sizeOf27 (by simp) (fun w hw=>⟨by rw[hn];rfl,ac hw⟩)
end
end Go.Proofs.YtodgbdcjjhmnkaaGreatDoor
