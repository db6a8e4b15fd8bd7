/-
 The walks of package fp: elements of p.
 The walks of package fp: powers.
 The walks of package fp: powers, inverses, roots, signs.
 The walks of package fp: inverses, roots, signs, bytes.
-/
import Derived.Test.YtodgbdcjjhmnkaaGreatDoorX7
import Derived.Test.YtodgbdcjjhmnkaaGreatDoorX3
import Derived.Test.YtodgbdcjjhmnkaaGreatDoorX6
import Derived.Test.YtodgbdcjjhmnkaaGreatDoorXW
import Derived.Test.YtodgbdcjjhmnkaaGreatDoorX5
set_option maxRecDepth 100000
set_option maxHeartbeats 1000000
namespace Go.Proofs.YtodgbdcjjhmnkaaGreatDoor
open Go.Proofs.Tryz
section
open Go.RowKit
theorem PLl:PL.length=6:=rfl
theorem d8:TWO.length=6:=rfl
theorem ec:ONE.length=6:=rfl
theorem N1l:N1.length=6:=rfl
theorem d6:IVP.length=6:=rfl
theorem d9:HFP.length=6:=rfl
theorem dR:RTP.length=6:=rfl
attribute [local simp] a8 bG aE az a6 aY aQ aK a9 PLl d8 ec N1l d6 d9 dR
abbrev EV(x:Zp):Value:=.agg ((fe x).map U64).toArray
abbrev NV(n:List (BitVec 64)):Value:=.agg (n.map U64).toArray
theorem zv27(w:World):(zeroValue 27).run Tryz.prog w=.ok (.agg ((List.replicate 6 (0#64)).map U64).toArray) w:=(zeroValue27 w).trans (by rfl)
theorem DS(op:BinOp)(x y:Operand)(xs ys:Array Value)(w:World):(eqGuard op 25 x y (.agg xs) (.agg ys)).run Tryz.prog w=.ok () w:=run_eqGuard_agg w op 25 x y xs ys (by kernel_rfl)
theorem DT(xs ys:List (BitVec 64))(h:xs.length=6)(h':ys.length=6)(w:World):(binOp .eql 25 (.agg (xs.map U64).toArray) (.agg (ys.map U64).toArray)).run Tryz.prog w=.ok (.bool (decide (xs=ys))) w:=l9 underlying25 underlying24 sizeOf24 isAgg24 xs ys h h' w
theorem dS(x y:Zp):decide (fe x=fe y)=decide (x=y):=decide_eq_decide.2 rJ
theorem Dx{x y:BitVec 64}(h:(x==y)=true):x=y:=beq_iff_eq.1 h
theorem CX{x y:BitVec 64}(h:(x==y)=false): ¬x=y:=beq_eq_false_iff_ne.1 h
theorem ent76:ah Tryz.prog 76:=fun _ _=>by kernel_rfl
theorem ent87:ah Tryz.prog 87:=fun _ _=>by kernel_rfl
theorem ent13:ah Tryz.prog 13:=fun _ _=>by kernel_rfl
theorem ent93:ah Tryz.prog 93:=fun _ _=>by kernel_rfl
theorem ent77:ah Tryz.prog 77:=fun _ _=>by kernel_rfl
theorem ent41:ah Tryz.prog 41:=fun _ _=>by kernel_rfl
theorem ent92:ah Tryz.prog 92:=fun _ _=>by kernel_rfl
theorem ent74:ah Tryz.prog 74:=fun _ _=>by kernel_rfl
theorem ent40:ah Tryz.prog 40:=fun _ _=>by kernel_rfl
theorem ent125:ah Tryz.prog 125:=fun _ _=>by kernel_rfl
theorem ent95:ah Tryz.prog 95:=fun _ _=>by kernel_rfl
theorem ent160:ah Tryz.prog 160:=fun _ _=>by kernel_rfl
theorem ent175:ah Tryz.prog 175:=fun _ _=>by kernel_rfl
theorem ent80:ah Tryz.prog 80:=fun _ _=>by kernel_rfl
theorem ent169:ah Tryz.prog 169:=fun _ _=>by kernel_rfl
theorem ent127:ah Tryz.prog 127:=fun _ _=>by kernel_rfl
theorem fK(x y:Zp):Pure Tryz.prog Gt 40 [EV x,EV y] (EV (x*y)):=by
 intro w hw
 refine Hf func40 rfl hw<|fun hGF=>Xp<|Bx 2 hGF rfl<|fun b2=>Bx 3 hGF rfl<|fun b3=>Al 4 hGF zv27<|fun b4=>aa<|Xp<|Fa 0 rfl underlying27 rfl sizeOf25<|La 2 rfl rfl bk<|Fa 0 rfl underlying27 rfl sizeOf25<|La 3 rfl rfl bk<|gU hGF isAgg25 sizeOf25 (by simp) (fun _ h=>h.g1) rfl rfl<|Ca rfl (jB _ _ _ (by simp) (by simp) (by simp))<|bH rfl (by simp) underlying27 rfl sizeOf25 zv27 rfl rfl<|Sa 4 hGF rfl rfl rfl bK<|aa<|ap<|Rr<|?_
 exact av 4 rfl rfl rfl isAgg27 sizeOf27 (by simp) (fun w hw=>⟨by rw[B1],ac hw⟩)
theorem iK(n:List (BitVec 64))(hn:n.length=6):Pure Tryz.prog Gt 42 [NV n] (EV (zp (V n 6))):=by
 intro w hw
 refine Hf func42 rfl hw<|fun hGF=>Xp<|Bx 1 hGF rfl<|fun b1=>Al 2 hGF zv27<|fun b2=>aa<|Xp<|gU hGF isAgg25 sizeOf25 (by first|(simp;done)|simp[hn]) (fun _ h=>h.g0) rfl rfl<|cx 1 rfl rfl isAgg25 sizeOf25 (by first|(simp;done)|simp[hn]) rfl rfl<|gU hGF isAgg25 sizeOf25 (by first|(simp;done)|simp[hn]) (fun _ h=>h.g1) rfl rfl<|Ca rfl (jB _ _ _ (by first|(simp;done)|simp[hn]) (by first|(simp;done)|simp[hn]) (by first|(simp;done)|simp[hn]))<|bH rfl (by first|(simp;done)|simp[hn]) underlying27 rfl sizeOf25 zv27 rfl rfl<|aH 2 hGF rfl rfl rfl sizeOf27 (by first|(simp;done)|simp[hn]) (by first|(simp;done)|simp[hn]) (bg _) rfl<|aa<|ap<|Rr<|?_
 exact av 2 rfl rfl rfl isAgg27 sizeOf27 (by first|(simp;done)|simp[hn]) (fun w hw=>⟨by rw[zN],ac hw⟩)
theorem go(x:Zp):Pure Tryz.prog Gt 55 [EV x] (NV (nm x)):=by
 intro w hw
 refine Hf func55 rfl hw<|fun hGF=>Xp<|Bx 1 hGF rfl<|fun b1=>Al 2 hGF zv25<|fun b2=>aa<|Xp<|Fa 0 rfl underlying27 rfl sizeOf25<|La 1 rfl rfl bk<|dO 1 rfl underlying25 sizeOf24 zv25 rfl rfl<|gU hGF isAgg25 sizeOf25 (by simp) (fun _ h=>h.g1) rfl rfl<|Ca rfl (jB _ _ _ (by simp) (by simp) (by simp))<|Sa 2 hGF rfl rfl rfl bk<|aa<|ap<|Rr<|?_
 exact av 2 rfl rfl rfl isAgg25 sizeOf25 (by simp) (fun w hw=>⟨by rw[←wq];rfl,ac hw⟩)
theorem sA(n:BitVec 64): ∀k,V (n::List.replicate 5 0) (k+1)=n.toNat
 |0=>by rw[rF,V,Nat.mul_zero,Nat.pow_zero,Nat.mul_one,Nat.zero_add];rfl
 |k+1=>by
  have h0:(n::List.replicate 5 (0:BitVec 64)).getD (k+1) 0=0:=by
   rw[List.getD_eq_getElem?_getD,List.getElem?_cons_succ,List.getElem?_replicate]
   split<;>rfl
  rw[rF,sA n k,h0,show (0:BitVec 64).toNat=0 from rfl,Nat.zero_mul,Nat.add_zero]
theorem nQ(n:BitVec 64):V (n::List.replicate 5 0) 6=n.toNat:=sA n 5
theorem cU(n:BitVec 64):Pure Tryz.prog Gt 76 [U64 n] (EV (zp n.toNat)):=by
 intro w hw
 refine Hf func76 rfl hw<|fun hGF=>Xp<|Al 2 hGF zv27<|fun b2=>aa<|Xp<|Mv rfl<|dO n rfl underlying25 sizeOf24 zv25 rfl rfl<|Ca rfl (iK _ (by simp))<|Sa 2 hGF rfl rfl rfl bK<|aa<|ap<|Rr<|?_
 exact av 2 rfl rfl rfl isAgg27 sizeOf27 (by simp) (fun w hw=>⟨by rw[nQ],ac hw⟩)
theorem jX(x y:Zp):Pure Tryz.prog Gt 93 [EV x,EV y] (.bool (decide (x=y))):=by
 intro w hw
 refine Hf func93 rfl hw<|fun hGF=>Xp<|Bx 2 hGF rfl<|fun b2=>Bx 3 hGF rfl<|fun b3=>Asg rfl<|aa<|Xp<|Fa 0 rfl underlying27 rfl sizeOf25<|La 2 rfl rfl bk<|Fa 0 rfl underlying27 rfl sizeOf25<|La 3 rfl rfl bk<|bW rfl rfl (fun _=>DS _ _ _ _ _ _) (fun w=>DT _ _ (by simp) (by simp) w) rfl rfl<|Asg rfl<|aa<|ap<|Rr<|?_
 exact aJ rfl rfl (fun w hw=>⟨by rw[dS],ac hw⟩)
theorem nK(x:Zp):Pure Tryz.prog Gt 77 [EV x] (.bool (decide (x=0))):=by
 intro w hw
 refine Hf func77 rfl hw<|fun hGF=>Xp<|Bx 1 hGF rfl<|fun b1=>Asg rfl<|aa<|Xp<|Fa 0 rfl underlying27 rfl sizeOf25<|La 1 rfl rfl bk<|eP zv25 underlying25 sizeOf24 rfl rfl<|bW rfl rfl (fun _=>DS _ _ _ _ _ _) (fun w=>DT _ _ (by simp) (by simp) w) rfl rfl<|Asg rfl<|aa<|ap<|Rr<|?_
 exact aJ rfl rfl (fun w hw=>⟨by rw[←gA,dS],ac hw⟩)
theorem mW(x y:Zp):Pure Tryz.prog Gt 41 [EV x,EV y] (EV (x+y)):=by
 intro w hw
 refine Hf func41 rfl hw<|fun hGF=>Xp<|Bx 2 hGF rfl<|fun b2=>Bx 3 hGF rfl<|fun b3=>Al 4 hGF zv27<|fun b4=>aa<|Xp<|Fa 0 rfl underlying27 rfl sizeOf25<|La 2 rfl rfl bk<|Fa 0 rfl underlying27 rfl sizeOf25<|La 3 rfl rfl bk<|Ca rfl (lF _ _ (by simp) (by simp))<|Mv rfl<|Ext rfl rfl<|Ext rfl rfl<|Al 5 hGF zv25<|fun b5=>Sa 5 hGF rfl rfl rfl bk<|Asg rfl<|aa<|Xp<|La 5 rfl rfl bk<|gU hGF isAgg25 sizeOf25 (by simp) (fun _ h=>h.g1) rfl rfl<|Ca rfl (gV _ _ (by simp) (by simp))<|Mv rfl<|Ext rfl rfl<|Ext rfl rfl<|Al 7 hGF zv25<|fun b7=>Sa 7 hGF rfl rfl rfl bk<|Asg rfl<|aa<|ae<|Xp<|Mv rfl<|Bnr rfl rfl (fun _=>a5 _ _ _)<|aa<|?_
 refine bj rfl (fun hc=> ?_) (fun hc=> ?_)
 ·refine Xp<|La 5 rfl rfl bk<|bH rfl (by simp) underlying27 rfl sizeOf25 zv27 rfl rfl<|Sa 4 hGF rfl rfl rfl bK<|aa<|ap<|Rr<|?_
  exact av 4 rfl rfl rfl isAgg27 sizeOf27 (by simp) (fun w hw=>⟨by rw[uj (xz (Dx hc))],ac hw⟩)
 ·refine au<|Xp<|La 7 rfl rfl bk<|bH rfl (by simp) underlying27 rfl sizeOf25 zv27 rfl rfl<|Sa 4 hGF rfl rfl rfl bK<|aa<|ap<|Rr<|?_
  exact av 4 rfl rfl rfl isAgg27 sizeOf27 (by simp) (fun w hw=>⟨by rw[qb (qB (mo _ _ _) (CX hc))],ac hw⟩)
theorem m9(x y:Zp):Pure Tryz.prog Gt 92 [EV x,EV y] (EV (x-y)):=by
 intro w hw
 refine Hf func92 rfl hw<|fun hGF=>Xp<|Bx 2 hGF rfl<|fun b2=>Bx 3 hGF rfl<|fun b3=>Al 4 hGF zv27<|fun b4=>aa<|Xp<|Fa 0 rfl underlying27 rfl sizeOf25<|La 2 rfl rfl bk<|Fa 0 rfl underlying27 rfl sizeOf25<|La 3 rfl rfl bk<|Ca rfl (gV _ _ (by simp) (by simp))<|Mv rfl<|Ext rfl rfl<|Ext rfl rfl<|Al 5 hGF zv25<|fun b5=>Sa 5 hGF rfl rfl rfl bk<|Asg rfl<|aa<|ae<|Xp<|Mv rfl<|Bnr rfl rfl (fun _=>a5 _ _ _)<|aa<|?_
 refine bj rfl (fun hc=> ?_) (fun hc=> ?_)
 ·refine Xq<|La 5 rfl rfl bk<|gU hGF isAgg25 sizeOf25 (by simp) (fun _ h=>h.g1) rfl rfl<|Ca rfl (lF _ _ (by simp) (by simp))<|Mv rfl<|Ext rfl rfl<|Ext rfl rfl<|Sa 5 hGF rfl rfl rfl bk<|aa<|Xp<|La 5 rfl rfl bk<|bH rfl (by simp) underlying27 rfl sizeOf25 zv27 rfl rfl<|Sa 4 hGF rfl rfl rfl bK<|aa<|ap<|Rr<|?_
  exact av 4 rfl rfl rfl isAgg27 sizeOf27 (by simp) (fun w hw=>⟨by rw[sO (Dx hc)],ac hw⟩)
 ·refine au<|Xp<|La 5 rfl rfl bk<|bH rfl (by simp) underlying27 rfl sizeOf25 zv27 rfl rfl<|Sa 4 hGF rfl rfl rfl bK<|aa<|ap<|Rr<|?_
  exact av 4 rfl rfl rfl isAgg27 sizeOf27 (by simp) (fun w hw=>⟨by rw[pV (qB (mo _ _ _) (CX hc))],ac hw⟩)
theorem c8(x:Zp):Pure Tryz.prog Gt 74 [EV x] (EV (-x)):=by
 intro w hw
 refine Hf func74 rfl hw<|fun hGF=>Xp<|Bx 1 hGF rfl<|fun b1=>Al 2 hGF zv27<|fun b2=>aa<|Xp<|dv zv27 underlying27 (jv sizeOf25) rfl rfl<|La 1 rfl rfl bK<|Ca rfl ((show Pure Tryz.prog Gt 92 [NV (List.replicate 6 0#64),EV x] (EV (0-x)) by rw[←gA];exact m9 0 x))<|Sa 2 hGF rfl rfl rfl bK<|aa<|ap<|Rr<|?_
 exact av 2 rfl rfl rfl isAgg27 sizeOf27 (by simp) (fun w hw=>⟨by rw[show (0:Zp)-x= -x by grind],ac hw⟩)
theorem gq(x:Zp):Pure Tryz.prog Gt 125 [EV x] (EV (x*x)):=by
 intro w hw
 refine Hf func125 rfl hw<|fun hGF=>Xp<|Bx 1 hGF rfl<|fun b1=>Al 2 hGF zv27<|fun b2=>aa<|Xp<|La 1 rfl rfl bK<|La 1 rfl rfl bK<|Ca rfl (fK _ _)<|Sa 2 hGF rfl rfl rfl bK<|aa<|ap<|Rr<|?_
 exact av 2 rfl rfl rfl isAgg27 sizeOf27 (by simp) (fun w hw=>⟨rfl,ac hw⟩)
theorem jY(x:Zp):Pure Tryz.prog Gt 21 [EV x] (.agg ((oo x).map U8).toArray):=by
 intro w hw
 refine Hf func21 rfl hw<|fun hGF=>Xp<|Bx 1 hGF rfl<|fun b1=>Al 2 hGF zv60<|fun b2=>aa<|Xp<|La 1 rfl rfl bK<|Ca rfl (go _)<|Ca rfl (iL _ (by simp))<|aH 2 hGF rfl rfl rfl sizeOf60 (by simp) (by simp) (cf _) rfl<|aa<|ap<|Rr<|?_
 exact av 2 rfl rfl rfl isAgg60 sizeOf60 (by simp) (fun w hw=>⟨rfl,ac hw⟩)
end
section
open Go.RowKit
theorem ent186:ah Tryz.prog 186:=fun _ _=>by kernel_rfl
attribute [local simp] a8 bG aE az a6 aY aQ aK a9 PLl d8 ec N1l d6 d9 dR bC bL
theorem zv190(w:World):(zeroValue 190).run Tryz.prog w=.ok (.agg ((FL (fun _=>List.replicate 6 0#64) 16).map U64).toArray) w:=(zeroValue190 w).trans (by rfl)
theorem mR:Pure Tryz.prog Gt 76 [U64 1#64] (EV 1):=cU 1#64
theorem oV(x:Zp):Pure Tryz.prog Gt 174 [EV x] (.agg ((SP x 16).map U64).toArray):=by
 intro w hw
 refine Hf func174 rfl hw<|fun hGF=>Xp<|Bx 1 hGF rfl<|fun b1=>Al 2 hGF zv190<|fun b2=>aa<|Xp<|Ca rfl (mR)<|u2 rfl (by simp) (by decide) underlying190 sizeOf27 zv190 rfl rfl<|Al 3 hGF zv190<|fun b3=>Sa 3 hGF rfl rfl rfl tr<|aa<|ae<|Xp<|Asg rfl<|aa<|ai<|bB (ι:={i:Nat // 1≤i∧i≤16}) (fun y=>[(1,.pointer (some ⟨b1,0,none⟩)),(2,.pointer (some ⟨b2,0,none⟩)),(3,.pointer (some ⟨b3,0,none⟩)),(4,I (y.1:Int))]) (fun y=>[(1,b1,(fe x).map U64,27),(2,b2,(FL (fun _=>List.replicate 6 0#64) 16).map U64,190),(3,b3,(SP x y.1).map U64,190)]) (fun y=>16-y.1) ⟨1,by omega⟩ hGF ⟨rfl,rfl,rfl,rfl,trivial⟩ ⟨rfl,rfl,by rw[←E9];rfl,trivial⟩<|?_
 rintro ⟨i,hi⟩
 dsimp only
 refine ae<|Xp<|Mv rfl<|Bnr rfl rfl (fun _=>aA _ _ _)<|aa<|?_
 refine bj rfl (fun hc=> ?_) (fun hc=> ?_)
 ·simp only[decide_eq_true_eq]at hc
  refine au<|ae<|ai<|Xe []<|Mv rfl<|Mv rfl<|Bnr rfl rfl (fun _=>aX _ _ _ (by unfold inI;omega))<|rz (i-1) (6*(i-1)) rfl rfl underlying190 sizeOf27 (by omega) (by omega) (by omega) rfl rfl<|cG 3 ((fe (x^(i-1))).map U64) rfl rfl isAgg27 sizeOf27 (by simp) (np x i (i-1) (by omega) (by omega) _ rfl) rfl rfl<|La 1 rfl rfl bK<|Ca rfl (fK _ _)<|rz (i) (6*(i)) rfl rfl underlying190 sizeOf27 (by omega) (by omega) (by omega) rfl rfl<|vp 3 ((SP x (i+1)).map U64) hGF rfl rfl rfl sizeOf27 (by simp) (bg _) (by rw[List.length_map,List.length_map,a8,bL];omega) (B3 x i (by omega) (by omega) _ rfl) rfl<|aa<|Xq<|Mv rfl<|Bnr rfl rfl (fun _=>aw _ _ _ (by unfold inI;omega))<|Asg rfl<|aa<|?_
  repeat (refine aR ?_)
  exact aG<|⟨rfl,⟨i+1,by omega⟩,_,by show 16-(i+1)<16-i;omega,rfl,⟨rfl,rfl,rfl,rfl,trivial⟩,⟨rfl,rfl,rfl,trivial⟩⟩
 ·obtain rfl:i=16:=by simp at hc;omega
  refine aT<|Xp<|La 3 rfl rfl tr<|Sa 2 hGF rfl rfl rfl tr<|aa<|ap<|Rr<|?_
  exact av 2 rfl rfl rfl isAgg190 sizeOf190 (by simp) (fun w hw=>⟨rfl,ac hw⟩)
def RdD(bb:Nat)(e:Option Addr)(cap:Nat)(bs:List (BitVec 8)):Cls:=fun W=>W.cell? ⟨bb,0,none⟩=some (.slice e bs.length cap)∧BytesAt W e bs
def NB(bs:List (BitVec 8)):List (List Value):=(List.range (2*bs.length)).map fun m=>[U8 (NBv bs m)]
theorem rG(bs:List (BitVec 8)):(NB bs).length=2*bs.length:=by simp[NB]
theorem rI(bs:List (BitVec 8))(m:Nat)(h:m<2*bs.length):(NB bs)[m]? =some [U8 (NBv bs m)]:=by
 rw[NB,List.getElem?_map,List.getElem?_range h];rfl
theorem K3(bs:List (BitVec 8))(m:Nat)(x:List Value)(h:(NB bs)[m]? =some x):m<2*bs.length∧x=[U8 (NBv bs m)]:=by
 have hm:m<2*bs.length:=by
  rcases Nat.lt_or_ge m (2*bs.length)with h'|h'
  ·exact h'
  ·rw[List.getElem?_eq_none (by rw[rG];exact h')]at h;cases h
 rw[rI bs m hm]at h
 exact ⟨hm,(Option.some.inj h).symm⟩
theorem Lq(bs:List (BitVec 8))(i:Nat)(h:i<bs.length):(NB bs)[2*i]? =some [U8 (bs.getD i 0>>>4)]:=by
 rw[rI bs _ (by omega),NBv,if_pos (by omega),show 2*i / 2=i by omega]
theorem ID(bs:List (BitVec 8))(i:Nat)(h:i<bs.length):(NB bs)[2*i+1]? =some [U8 (bs.getD i 0 % 16#8)]:=by
 rw[rI bs _ (by omega),NBv,if_neg (by omega),show (2*i+1) / 2=i by omega]
theorem ml(sv:Value)(hs:sv.cells= #[sv])(w:World)(hw:Gt w):Calls Tryz.prog 175 [sv].toArray w (fun e w'=> ∃b1,e=.returned (.func (.func 186) #[] #[.pointer (some ⟨b1,0,none⟩)])∧Grow w w'∧w.heap.size≤b1∧OwnB w' b1 [sv] 22):=by
 refine Hf func175 rfl hw<|fun hGF=>Xp<|jH 1 hGF rfl rfl rfl<|fun b1=>Asg rfl<|aa<|Xp<|ia rfl rfl rfl rfl<|Asg rfl<|aa<|ap<|Rr<|?_
 exact aJ rfl rfl (fun w hw=>⟨b1,rfl,ac hw,(hw.own 1 b1 _ _ rfl).2.elim id False.elim,(by have:=(hw.own 1 b1 _ _ rfl).1;rw[hs]at this;exact this)⟩)
theorem qj(bb:Nat)(e:Option Addr)(cap:Nat)(bs:List (BitVec 8))(hlen:bs.length≤1000000):gI Tryz.prog Gt 186 [.pointer (some ⟨bb,0,none⟩)] (NB bs) (RdD bb e cap bs):=by
 intro l J Jx hJ hJx hRd hGx hY w hj
 have okJ: ∀k,BOk Gt (Bi w (fun Y=>J Y k)):=fun k=>⟨fun _ _ _ h=>(hRd _ _ _ h.rid).1,hJ k⟩
 have okX: ∀k,BOk Gt (Bi w (fun Y=>Jx Y k)):=fun k=>⟨fun _ _ _ h=>hGx _ _ _ h.rid,hJx k⟩
 have c1: ∀k L w',Hp (Bi w (fun Y=>J Y k)) L w'→RdD bb e cap bs w':=fun k L w' h=>(hRd _ _ _ h.rid).2
 have hby:=(hRd _ _ _ hj).2.2
 refine cr (G:=Gt) func186 rfl rfl (Hp (Bi w (fun Y=>J Y 0)) []) (cu (Bi w _) hj (hJ 0)) (ay (okJ 0))<|Xp<|bp rfl isAgg22 (fun w h=>(c1 _ _ w h).1) rfl rfl<|aZ rfl (fun _=>aC underlying22 _ _ _ _) rfl rfl<|Mv rfl<|aa<|ai<|iA (ι:={i:Nat // i≤bs.length}) (fun x=>[(0,.func (.yield l) #[] #[]),(1,.pointer (some ⟨bb,0,none⟩)),(5,.slice e bs.length cap),(6,I (bs.length:Int)),(7,I (x.1:Int))]) (fun x=>Bi w (fun Y=>J Y (2*x.1))) (fun x=>[]) (fun x=>bs.length-x.1) ⟨0,Nat.zero_le _⟩ (fun _=>okJ _) rfl ⟨rfl,rfl,rfl,rfl,rfl,trivial⟩ trivial<|?_
 rintro ⟨i,hi⟩
 dsimp only
 refine Xp<|Bnr rfl rfl (fun _=>aA _ _ _)<|aa<|ae<|?_
 refine bj rfl (fun hc=> ?_) (fun hc=> ?_)
 ·simp only[decide_eq_true_eq]at hc
  have hi2:i<bs.length:=by omega
  refine au<|ae<|ai<|Xp<|?_
  obtain ⟨ad,rfl,_⟩:=hby i _ (gm U8 bs 0 i (by omega))
  refine iH i rfl rfl underlying22 sizeOf5 rfl (by omega) rfl rfl<|bp rfl isAgg5 (fun w' h=>by obtain ⟨ad',e',hc'⟩:=(c1 _ _ w' h).2 i _ (gm U8 bs 0 i (by omega));cases e';exact hc') rfl rfl<|Asg rfl<|aa<|vr (E:=EE []) 4<|Mv rfl<|Mv rfl<|Bnr (v:=U8 (bs.getD i 0>>>4)) rfl rfl (fun _=>rf _ _ 4#64)<|?_
  refine dM (hY.b (k:=2*i) (Lq bs i (by omega)) w) (okJ _) (okX _) rfl rfl rfl rfl rfl ?_ ?_
  ·refine aa ?_
   refine ⟨EE [], ?_⟩
   refine bz rfl (fun _=>bi _) rfl rfl<|Mv rfl<|Mv rfl<|Mv rfl<|Bnr (v:=U8 (bs.getD i 0 % 16#8)) rfl rfl (fun _=>qI _ _ 16#8 (by decide))<|?_
   refine dM (hY.b (k:=2*i+1) (ID bs i (by omega)) w) (okJ _) (okX _) rfl rfl rfl rfl rfl ?_ ?_
   ·refine bz rfl (fun _=>bi _) rfl rfl<|Pk rfl rfl rfl<|aa<|aL rfl<|au<|Xq<|Bnr rfl rfl (fun _=>aw _ _ _ (by unfold inI;omega))<|Mv rfl<|aa<|?_
    rw[show 2*i+1+1=2*(i+1) by omega]
    repeat (refine aR ?_)
    exact aG<|⟨rfl,⟨i+1,by omega⟩,_,by show bs.length-(i+1)<bs.length-i;omega,rfl,⟨rfl,rfl,rfl,rfl,rfl,trivial⟩,trivial⟩
   ·refine bz rfl (fun _=>bi _) rfl rfl<|Pk rfl rfl rfl<|aa<|ba rfl<|ap<|Rr<|?_
    repeat (first|refine ew ?_|refine dH ?_|refine eT rfl ?_|refine ck ?_|refine cn ?_)
    exact eQ rfl (fun w hw=>⟨⟨_,rfl⟩,.inr ⟨_,bQ (hJx _) hw.rid⟩⟩)
  ·refine aa ?_
   refine ⟨EE [3000000], ?_⟩
   refine bz rfl (fun _=>bi _) rfl rfl<|Mv rfl<|Sk<|Sk<|Sk<|Sk<|Sk<|Pk rfl rfl rfl<|aa<|ba rfl<|ap<|Rr<|?_
   repeat (first|refine ew ?_|refine dH ?_|refine eT rfl ?_|refine ck ?_|refine cn ?_)
   exact eQ rfl (fun w hw=>⟨⟨_,rfl⟩,.inr ⟨_,bQ (hJx _) hw.rid⟩⟩)
 ·simp only[decide_eq_false_iff_not]at hc
  obtain rfl:i=bs.length:=by omega
  refine aT ?_
  repeat (first|refine ew ?_|refine dH ?_|refine eT rfl ?_|refine ck ?_|refine cn ?_)
  refine cv rfl (fun w hw=>⟨⟨_,rfl⟩,.inl ?_⟩)
  have:=bQ (hJ _) hw.rid
  rw[rG]
  exact this
end
section
open Go.RowKit
attribute [local simp] a8 bG aE az a6 aY aQ aK a9 PLl d8 ec N1l d6 d9 dR bC bL
theorem rl(x:Zp)(e:Option Addr)(cap:Nat)(bs:List (BitVec 8))(hlen:bs.length≤1000000)(w:World)(hw:Gt w)(hby:BytesAt w e bs):
 Calls Tryz.prog 160 [EV x,.slice e bs.length cap].toArray w (fun r w'=>r=.returned (EV (x^BN bs bs.length))∧Grow w w'):=by
 have hGF:BOk Gt (pl w):=gt_low.plain hw
 refine dq (G:=Gt) func160 rfl rfl (Hp (pl w) []) (cu (pl w) trivial ao) (ay hGF)<|ak (E:=EE [175])<|Bx 2 hGF rfl<|fun b2=>Al 4 hGF zv27<|fun b4=>aa<|ak (E:=EE [175])<|La 2 rfl rfl bK<|Ca rfl (oV _)<|Al 5 hGF zv190<|fun b5=>Sa 5 hGF rfl rfl rfl tr<|aa<|ak (E:=EE [175])<|rz 0 0 rfl rfl underlying190 sizeOf27 rfl (by decide) rfl rfl rfl<|cG 5 ((fe (x^0)).map U64) rfl rfl isAgg27 sizeOf27 (by simp) (np x 16 0 (by decide) (by decide) 0 rfl) rfl rfl<|Al 6 hGF zv27<|fun b6=>Sa 6 hGF rfl rfl rfl bK<|aa<|ae<|ak (E:=EE [175])<|Mv rfl<|?_
 refine gG rfl rfl ent175 rfl rfl (fun w' hw'=>(ml _ rfl w' (hGF.g _ _ _ hw')).mono fun e' w'' h=> ?_)
 obtain ⟨c1,rfl,hg,h1,ho⟩:=h
 refine ⟨_,_,rfl,ay hGF,hw'.news ao hg [(33,c1,[.slice e bs.length cap],22)] ?_ bJ, ?_⟩
 ·intro n' b' c' t' hl
  rcases aF hl with ⟨_,e⟩|⟨_,hl⟩
  ·cases e;exact ⟨h1,ho⟩
  ·cases hl
 clear hw' hg h1 ho
 refine aa<|ai<|?_
 refine h7 (fun _=>pl w) (fun _ _=>pl w) (fun _=>hGF) (fun _ _=>hGF) (fun _=>rfl) (fun _ _=>rfl) rfl rfl ent186 (qj c1 e cap bs hlen) (fun x hx=>by obtain ⟨k,hk,rfl⟩:=List.mem_map.1 hx;rfl) rfl (fun k=>[(2,b2,(fe x).map U64,27),(4,b4,(List.replicate 6 0#64).map U64,27),(5,b5,(SP x 16).map U64,190),(6,b6,(fe (x^DN bs k)).map U64,27),(33,c1,[.slice e bs.length cap],22)]) (fun _ _ _=>False) ⟨rfl,rfl,rfl,by rw[DN];rfl,rfl,trivial⟩ (fun k _ w' h=>⟨cm (n:=33) rfl rfl w' h,hby.grow (h.below (fun _ h=>h))⟩) ?_ ?_ (fun _ _ _ _ _ h=>h.elim)
 ·intro k v hx R hR
  obtain ⟨hk,rfl⟩:=K3 bs k v hx
  have hlt:=FZ bs k
  refine cM (E:=EE [175])<|Asg rfl<|aa<|?_
  refine ⟨rfl,_,rfl, ?_⟩
  refine ai<|ae<|ak (E:=EE [175])<|Mv rfl<|aa<|ai<|bB (ι:={i:Nat // i≤4}) (fun j=>[(5,.pointer (some ⟨b5,0,none⟩)),(6,.pointer (some ⟨b6,0,none⟩)),(7,U8 (NBv bs k)),(15,I (j.1:Int))]) (fun j=>[(2,b2,(fe x).map U64,27),(4,b4,(List.replicate 6 0#64).map U64,27),(5,b5,(SP x 16).map U64,190),(6,b6,(fe (x^(2^j.1*DN bs k))).map U64,27),(33,c1,[.slice e bs.length cap],22)]) (fun j=>4-j.1) ⟨0,by omega⟩ (hR (pl w) rfl hGF).2.1 ⟨rfl,rfl,rfl,rfl,trivial⟩ ⟨rfl,rfl,rfl,by rw[Nat.pow_zero,Nat.one_mul];rfl,rfl,trivial⟩<|?_
  rintro ⟨j,hj⟩
  dsimp only
  refine ak (E:=EE [175])<|Bnr rfl rfl (fun _=>aA _ _ _)<|aa<|ae<|?_
  refine bj rfl (fun hc=> ?_) (fun hc=> ?_)
  ·simp only[decide_eq_true_eq]at hc
   refine au<|ae<|ai<|cM (E:=EE [175])<|La 6 rfl rfl bK<|Ca rfl (gq _)<|aH 6 (hR (pl w) rfl hGF).2.1 rfl rfl rfl sizeOf27 (by simp) (by simp) (bg _) rfl<|aa<|cM (E:=EE [175])<|Bnr rfl rfl (fun _=>aw _ _ _ (by unfold inI;omega))<|Mv rfl<|aa<|?_
   repeat (refine aR ?_)
   exact aG<|⟨rfl,⟨j+1,by omega⟩,_,by show 4-(j+1)<4-j;omega,rfl,⟨rfl,rfl,rfl,rfl,trivial⟩,⟨rfl,rfl,rfl,by rw[←AW];rfl,rfl,trivial⟩⟩
  ·obtain rfl:j=4:=by simp at hc;omega
   refine aT<|Xe [175]<|La 6 rfl rfl bK<|Mv rfl<|Cy (6*(NBv bs k).toNat) rfl rfl underlying190 sizeOf27 hlt (by omega) rfl rfl<|cG 5 ((fe (x^(NBv bs k).toNat)).map U64) rfl rfl isAgg27 sizeOf27 (by simp) (np x 16 _ hlt (Nat.le_refl _) _ rfl) rfl rfl<|Ca rfl (vK x bs k▸fK (x^(2^4*DN bs k)) (x^(NBv bs k).toNat))<|aH 6 (hR (pl w) rfl hGF).2.1 rfl rfl rfl sizeOf27 (by simp) (by simp) (bg _) rfl<|aa<|?_
   repeat (refine aR ?_)
   exact ⟨_,rfl,⟨rfl,rfl,rfl,rfl,rfl,trivial⟩⟩
 ·intro D hD
  rw[rG,yR]
  refine ak (E:=EE [175])<|La 6 rfl rfl bK<|Sa 4 hD rfl rfl rfl bK<|aa<|ap<|Rr<|?_
  exact ib (.inl rfl) ao (av 4 rfl rfl rfl isAgg27 sizeOf27 (by simp) (fun w hw=>⟨rfl,ac hw⟩))
end
section
open Go.RowKit
attribute [local simp] a8 bG aE az a6 aY aQ aK a9 PLl d8 ec N1l d6 d9 dR bC bL
theorem EY(x:Zp)(b:Nat)(t:TypeId)(bs:List (BitVec 8))(h48:bs.length=48)(w:World)(hw:Gt w)(ho:OwnB w b (bs.map U8) t):
 Calls Tryz.prog 160 [EV x,.slice (some ⟨b,0,none⟩) 48 48].toArray w (fun r w'=>r=.returned (EV (x^BN bs 48))∧Grow w w'):=by
 have h:=rl x (some ⟨b,0,none⟩) 48 bs (by omega) w hw (BytesAt.range ho.range)
 rw[h48]at h
 exact h
theorem jV(a:Option Addr)(len cap:Nat)(bs:List (BitVec 8))(hl:bs.length=len)(h:len≤48)(w:World)(hw:Gt w)(hby:BytesAt w a bs):
 Calls Tryz.prog 39 [.slice a len cap].toArray w (fun e w'=>e=.returned (.tuple #[NV (FRs bs bs.length),.bool true])∧Grow w w'):=by
 subst hl
 exact (rD a cap bs w hw hby).mono fun e w' ⟨he,hg⟩=>⟨by rw[he,if_neg (by omega)],hg⟩
theorem ku(x:Zp)(n:List (BitVec 64))(hn:n.length=6):Pure Tryz.prog Gt 126 [EV x,NV n] (EV (x^V n 6)):=by
 intro w hw
 refine Hf func126 rfl hw<|fun hGF=>Xp<|Bx 2 hGF rfl<|fun b2=>Bx 3 hGF rfl<|fun b3=>Al 4 hGF zv27<|fun b4=>aa<|Xp<|cx 3 rfl rfl isAgg25 sizeOf25 (by first|(simp;done)|simp[hn]) rfl rfl<|Ca rfl (iL _ (by first|(simp;done)|simp[hn]))<|Al 5 hGF zv60<|fun b5=>aH 5 hGF rfl rfl rfl sizeOf60 (by first|(simp;done)|simp[hn]) (by first|(simp;done)|simp[hn]) (cf _) rfl<|aa<|Xd []<|cx 2 rfl rfl isAgg27 sizeOf27 (by first|(simp;done)|simp[hn]) rfl rfl<|cg (l:=0) (h':=48) rfl underlying60 sizeOf5 rfl rfl (by omega) (by omega) rfl rfl<|Cc rfl ent160 (fun w hC hG=>EY x _ _ (BYs n 48) (by first|(simp;done)|simp[hn]) w hG (hC.own 5 _ _ _ rfl).1)<|aH 4 hGF rfl rfl rfl sizeOf27 (by first|(simp;done)|simp[hn]) (by first|(simp;done)|simp[hn]) (bg _) rfl<|aa<|ap<|Rr<|?_
 exact av 4 rfl rfl rfl isAgg27 sizeOf27 (by first|(simp;done)|simp[hn]) (fun w hw=>⟨by rw[n6 n hn 48 rfl],ac hw⟩)
theorem vl(x:Zp):Pure Tryz.prog Gt 95 [EV x] (EV (x^(PP-2))):=by
 intro w hw
 refine Hf func95 rfl hw<|fun hGF=>Xp<|Bx 1 hGF rfl<|fun b1=>Al 2 hGF zv27<|fun b2=>aa<|Xp<|La 1 rfl rfl bK<|gU hGF isAgg25 sizeOf25 (by simp) (fun _ h=>h.g3) rfl rfl<|Ca rfl (ku _ _ (by simp))<|Sa 2 hGF rfl rfl rfl bK<|aa<|ap<|Rr<|?_
 exact av 2 rfl rfl rfl isAgg27 sizeOf27 (by simp) (fun w hw=>⟨by rw[←CJ],ac hw⟩)
theorem uV(x:Zp):Pure Tryz.prog Gt 169 [EV x] (.bool (decide (x.val % 2=1))):=by
 intro w hw
 refine Hf func169 rfl hw<|fun hGF=>Xp<|Bx 1 hGF rfl<|fun b1=>Asg rfl<|aa<|Xp<|La 1 rfl rfl bK<|Ca rfl (go _)<|fk U64 0 (0) rfl rfl underlying25 sizeOf24 isAgg24 (by omega) (by omega) (by simp) rfl rfl<|Bnr rfl rfl (fun _=>cS _ _ _ (by decide))<|Bnr rfl rfl (fun _=>a5 _ _ _)<|Asg rfl<|aa<|ap<|Rr<|?_
 exact aJ rfl rfl (fun w hw=>⟨by rw[←Fl]<;>rfl,ac hw⟩)
theorem kj(x:Zp):Pure Tryz.prog Gt 127 [EV x] (.bool (decide (hf<x.val))):=by
 intro w hw
 refine Hf func127 rfl hw<|fun hGF=>Xp<|Bx 1 hGF rfl<|fun b1=>Asg rfl<|aa<|Xd []<|gU hGF isAgg25 sizeOf25 (by simp) (fun _ h=>h.g4) rfl rfl<|La 1 rfl rfl bK<|Ca rfl (go _)<|Ca rfl (hO _ _ (by simp) (by simp))<|Asg rfl<|aa<|ap<|Rr<|?_
 exact aJ rfl rfl (fun w hw=>⟨by rw[←wL],ac hw⟩)
theorem Ac(x:Zp):Pure Tryz.prog Gt 126 [EV x,NV RTP] (EV (SQr x)):=by
 have h:=ku x RTP rfl
 rw[BV]at h
 exact h
theorem rV(x:Zp):Pure Tryz.prog Gt 80 [EV x] (.tuple #[EV (SQ x),.bool (decide (SQr x*SQr x=x))]):=by
 intro w hw
 refine Hf func80 rfl hw<|fun hGF=>Xp<|Bx 1 hGF rfl<|fun b1=>Al 2 hGF zv27<|fun b2=>Asg rfl<|aa<|Xp<|La 1 rfl rfl bK<|gU hGF isAgg25 sizeOf25 (by simp) (fun _ h=>h.g2) rfl rfl<|Ca rfl (Ac x)<|Al 4 hGF zv27<|fun b4=>Sa 4 hGF rfl rfl rfl bK<|aa<|ae<|Xd []<|La 4 rfl rfl bK<|Ca rfl (gq _)<|La 1 rfl rfl bK<|Ca rfl (jX _ _)<|bz rfl (fun _=>bi _) rfl rfl<|aa<|?_
 refine bj rfl (fun hc=> ?_) (fun hc=> ?_)
 ·have hs: ¬SQr x*SQr x=x:=by simpa using hc
  refine Xp<|dv zv27 underlying27 (jv sizeOf25) rfl rfl<|Sa 2 hGF rfl rfl rfl bK<|Asg rfl<|aa<|ap<|Rr<|?_
  exact bw 2 rfl rfl rfl rfl isAgg27 sizeOf27 (by simp) (fun w hw=>⟨by rw[SQ,if_neg hs,decide_eq_false hs,←gA]<;>rfl,ac hw⟩)
 ·have hs:SQr x*SQr x=x:=by simpa using hc
  clear hc
  refine au<|ae<|Xp<|La 4 rfl rfl bK<|Ca rfl (kj _)<|aa<|?_
  refine bj rfl (fun hc=> ?_) (fun hc=> ?_)
  ·simp only[decide_eq_true_eq]at hc
   refine Xq<|La 4 rfl rfl bK<|Ca rfl (c8 _)<|Sa 4 hGF rfl rfl rfl bK<|aa<|Xp<|La 4 rfl rfl bK<|Sa 2 hGF rfl rfl rfl bK<|Asg rfl<|aa<|ap<|Rr<|?_
   exact bw 2 rfl rfl rfl rfl isAgg27 sizeOf27 (by simp) (fun w hw=>⟨by rw[SQ,if_pos hs,SQn,if_pos hc,decide_eq_true hs]<;>rfl,ac hw⟩)
  ·simp only[decide_eq_false_iff_not]at hc
   refine au<|Xp<|La 4 rfl rfl bK<|Sa 2 hGF rfl rfl rfl bK<|Asg rfl<|aa<|ap<|Rr<|?_
   exact bw 2 rfl rfl rfl rfl isAgg27 sizeOf27 (by simp) (fun w hw=>⟨by rw[SQ,if_pos hs,SQn,if_neg hc,decide_eq_true hs]<;>rfl,ac hw⟩)
theorem jZ(e:Option Addr)(cap:Nat)(bs:List (BitVec 8))(w:World)(hw:Gt w)(hby:BytesAt w e bs):
 Calls Tryz.prog 87 [.slice e bs.length cap].toArray w (fun r w'=>r=.returned (.tuple #[EV (FV bs),.bool (FO bs)])∧Grow w w'):=by
 refine Hf func87 rfl hw<|fun hGF=>Xp<|Al 2 hGF zv27<|fun b2=>Asg rfl<|aa<|ae<|Xp<|Mv rfl<|aZ rfl (fun _=>aC underlying22 _ _ _ _) rfl rfl<|Bnr rfl rfl (fun _=>cY _ _ _)<|aa<|?_
 refine bj rfl (fun hc=> ?_) (fun hc=> ?_)
 ·have hc: ¬bs.length=48:=by simp at hc;omega
  refine Xp<|dv zv27 underlying27 (jv sizeOf25) rfl rfl<|Sa 2 hGF rfl rfl rfl bK<|Asg rfl<|aa<|ap<|Rr<|?_
  exact bw 2 rfl rfl rfl rfl isAgg27 sizeOf27 (by simp) (fun w hw=>⟨by rw[FV,FO,if_neg (fun h=>hc h.1),decide_eq_false (fun h=>hc h.1),←gA]<;>rfl,ac hw⟩)
 ·have h48:bs.length=48:=by simp at hc;omega
  clear hc
  refine au<|Xp<|Mv rfl<|Cc rfl ent39 (fun w' hC hG=>jV e bs.length cap bs rfl (by omega) w' hG (hby.grow (ac hC)))<|Mv rfl<|Ext rfl rfl<|Ext rfl rfl<|Al 4 hGF zv25<|fun b4=>Sa 4 hGF rfl rfl rfl bk<|Asg rfl<|aa<|ae<|Xp<|Mv rfl<|bz rfl (fun _=>bi _) rfl rfl<|Mv rfl<|La 4 rfl rfl bk<|gU hGF isAgg25 sizeOf25 (by simp) (fun _ h=>h.g1) rfl rfl<|Ca rfl (hO _ _ (by simp) (by simp))<|bz rfl (fun _=>bi _) rfl rfl<|Pk rfl rfl rfl<|aa<|?_
  refine bj rfl (fun hc=> ?_) (fun hc=> ?_)
  ·have e0:V (FRs bs bs.length) 6=BN bs 48:=by rw[mJ bs (by omega),h48]
   have hl: ¬BN bs 48<PP:=by rw[lQ,eY,e0]at hc;simpa using hc
   clear hc
   refine Xp<|dv zv27 underlying27 (jv sizeOf25) rfl rfl<|Sa 2 hGF rfl rfl rfl bK<|Asg rfl<|aa<|ap<|Rr<|?_
   exact bw 2 rfl rfl rfl rfl isAgg27 sizeOf27 (by simp) (fun w hw=>⟨by rw[FV,FO,if_neg (fun h=>hl h.2),decide_eq_false (fun h=>hl h.2),←gA]<;>rfl,ac hw⟩)
  ·have e0:V (FRs bs bs.length) 6=BN bs 48:=by rw[mJ bs (by omega),h48]
   have hl:BN bs 48<PP:=by rw[lQ,eY,e0]at hc;simpa using hc
   clear hc
   refine au<|Xp<|La 4 rfl rfl bk<|Ca rfl (iK _ (by simp))<|Sa 2 hGF rfl rfl rfl bK<|Asg rfl<|aa<|ap<|Rr<|?_
   exact bw 2 rfl rfl rfl rfl isAgg27 sizeOf27 (by simp) (fun w hw=>⟨by rw[FV,FO,if_pos ⟨h48,hl⟩,decide_eq_true ⟨h48,hl⟩,mJ bs (by omega),h48]<;>rfl,ac hw⟩)
structure WSt(w:World)(bs:List (BitVec 8)) where
 (k:Nat) (a:Option Addr) (c:Nat)
 hk:k≤bs.length
 hc:bs.length-k≤c
 hb:BytesAt w a (bs.drop k)
 hm:k=0∨(bs.length-k) % 48=0
theorem jC(bs:List (BitVec 8))(k cut:Nat)(h:cut≤bs.length-k):((bs.drop k).take cut).length=cut:=by
 rw[List.length_take,List.length_drop];omega
theorem ry(y:Zp):Pure Tryz.prog Gt 40 [EV y,NV TWO] (EV (y*RZ)):=He▸fK y RZ
theorem pP(bs:List (BitVec 8))(h:bs.length≤48):Pure Tryz.prog Gt 42 [NV (FRs bs bs.length)] (EV (zp (BN bs bs.length))):=mJ bs h▸iK (FRs bs bs.length) (aQ _ _)
theorem jU(e:Option Addr)(cap:Nat)(bs:List (BitVec 8))(hlen:bs.length≤1000000)(hcap:bs.length≤cap)(w:World)(hw:Gt w)(hby:BytesAt w e bs):
 Calls Tryz.prog 13 [.slice e bs.length cap].toArray w (fun r w'=>r=.returned (EV (ZB bs))∧Grow w w'):=by
 refine Hf func13 rfl hw<|fun hGF=>Xp<|Al 2 hGF zv27<|fun b2=>aa<|Xp<|Al 3 hGF zv27<|fun b3=>aa<|ae<|ai<|bB (ι:=WSt w bs) (fun x=>[(0,.slice x.a (bs.length-x.k) x.c),(2,.pointer (some ⟨b2,0,none⟩)),(3,.pointer (some ⟨b3,0,none⟩))]) (fun x=>[(2,b2,(List.replicate 6 0#64).map U64,27),(3,b3,(fe (zp (BN bs x.k))).map U64,27)]) (fun x=>(bs.length-x.k)) ⟨0,e,cap,Nat.zero_le _,hcap,hby,.inl rfl⟩ hGF ⟨rfl,rfl,rfl,trivial⟩ ⟨rfl,by rw[BN,BG,gA];rfl,trivial⟩<|fun x=>ae<|Xp<|Mv rfl<|aZ rfl (fun _=>aC underlying22 _ _ _ _) rfl rfl<|Bnr rfl rfl (fun _=>aU _ _ _)<|aa<|?_
 refine bj rfl (fun hc=> ?_) (fun hc=> ?_)
 ·have hn:0<(bs.length-x.k):=by simp at hc;omega
  clear hc
  have hlenx:=x.hk
  have hcut:=yb hn
  have hnext:BytesAt w (if x.c=(((bs.length-x.k)-1) % 48+1)then x.a else x.a.map (·.add ((((bs.length-x.k)-1) % 48+1)*1))) (bs.drop (x.k+(((bs.length-x.k)-1) % 48+1))):=by
   have:=x.hb.drop (cap:=x.c) (l:=(((bs.length-x.k)-1) % 48+1)) (by rw[List.length_drop];exact x.hc) (by omega)
   rw[List.drop_drop]at this
   exact this
  have hstep:zp (BN bs x.k)*RZ+zp (BN ((bs.drop x.k).take (((bs.length-x.k)-1) % 48+1)) ((bs.drop x.k).take (((bs.length-x.k)-1) % 48+1)).length)=zp (BN bs (x.k+(((bs.length-x.k)-1) % 48+1))):=by
   rw[jC bs x.k _ hcut.2.1,BJ]
   exact vu bs x.k _ (gK id (ES hn) x.hm)
  refine au<|ai<|Xp<|Mv rfl<|aZ rfl (fun _=>aC underlying22 _ _ _ _) rfl rfl<|Bnr (v:=I (((bs.length-x.k)-1:Nat):Int)) rfl rfl (fun _=>(aX _ _ _ (by unfold inI;omega)).trans (by rw[show ((bs.length-x.k:Nat):Int)-1=((bs.length-x.k-1:Nat):Int) by omega]))<|bW (v:=I ((((bs.length-x.k)-1) % 48:Nat):Int)) rfl rfl (fun _=>rfl) (fun _=>dY _ _ _ (by decide)) rfl rfl<|bW (v:=I (((((bs.length-x.k)-1) % 48+1):Nat):Int)) rfl rfl (fun _=>rfl) (fun _=>aw _ _ _ (by unfold inI;omega)) rfl rfl<|Asg rfl<|aa<|Xp<|Mv rfl<|Mv rfl<|dC (l:=0) (h':=(((bs.length-x.k)-1) % 48+1)) rfl underlying22 sizeOf5 rfl rfl ⟨Nat.zero_le _,Nat.le_trans hcut.2.1 x.hc⟩ rfl rfl<|ls rfl rfl ent39 (fun w' hC hG=>jV _ (((bs.length-x.k)-1) % 48+1) _ ((bs.drop x.k).take (((bs.length-x.k)-1) % 48+1)) (jC bs x.k _ hcut.2.1) hcut.2.2 w' hG ((x.hb.cut 0 (((bs.length-x.k)-1) % 48+1) (by rw[List.length_drop];exact x.hc)).grow (ac hC))) rfl rfl<|Mv rfl<|Ext rfl rfl<|Ext rfl rfl<|Al 5 hGF zv25<|fun b5=>Sa 5 hGF rfl rfl rfl bk<|Asg rfl<|aa<|Xd []<|La 3 rfl rfl bK<|gU hGF isAgg25 sizeOf25 (by simp) (fun _ h=>h.g0) rfl rfl<|bH rfl (by simp) underlying27 rfl sizeOf25 zv27 rfl rfl<|Ca rfl (ry _)<|La 5 rfl rfl bk<|Ca rfl (pP ((bs.drop x.k).take (((bs.length-x.k)-1) % 48+1)) (by rw[jC bs x.k _ hcut.2.1];exact hcut.2.2))<|Ca rfl (mW _ _)<|Sa 3 hGF rfl rfl rfl bK<|aa<|Xq<|Mv rfl<|Mv rfl<|dC (l:=(((bs.length-x.k)-1) % 48+1)) (h':=(bs.length-x.k)) rfl underlying22 sizeOf5 rfl rfl ⟨hcut.2.1,x.hc⟩ rfl rfl<|Asg rfl<|aa<|?_
  repeat (refine aR ?_)
  exact aG<|⟨rfl,⟨x.k+(((bs.length-x.k)-1) % 48+1),_,x.c-(((bs.length-x.k)-1) % 48+1),by have:=x.hk;omega,by have:=x.hc;omega,hnext,.inr (by rw[Nat.sub_add_eq];exact hcut.1)⟩,_,by show bs.length-(x.k+(((bs.length-x.k)-1) % 48+1))<bs.length-x.k;omega,rfl,⟨congrArg (fun n=>some (Value.slice _ n _)) (Nat.sub_sub bs.length x.k (((bs.length-x.k)-1) % 48+1)),rfl,rfl,trivial⟩,⟨rfl,by rw[←hstep];rfl,trivial⟩⟩
 ·have hn:x.k=bs.length:=by simp at hc;have:=x.hk;omega
  clear hc
  refine aT<|Xp<|La 3 rfl rfl bK<|Sa 2 hGF rfl rfl rfl bK<|aa<|ap<|Rr<|?_
  exact av 2 rfl rfl rfl isAgg27 sizeOf27 (by simp) (fun w hw=>⟨by rw[hn];rfl,ac hw⟩)
end
end Go.Proofs.YtodgbdcjjhmnkaaGreatDoor
