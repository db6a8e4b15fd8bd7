/-
 The walks of package sha's small functions.
 The walks of sha.schedule, sha.compress, sha.start, sha.digest.
 The walk of the last blocks' iterator.
 The walks of sha.ending, sha.blocks and of the iterator over a text's blocks.
 The walks of sha.mix and sha.Sum.
-/
import Derived.Test.YtodgbdcjjhmnkaaGreatDoorX1
import Derived.Test.YtodgbdcjjhmnkaaGreatDoorX5
import Derived.Test.YtodgbdcjjhmnkaaGreatDoorXW
import Derived.Test.YtodgbdcjjhmnkaaGreatDoorX2
set_option maxRecDepth 100000
set_option maxHeartbeats 1000000
namespace Go.Proofs.YtodgbdcjjhmnkaaGreatDoor
open Go.Proofs.Tryz
section
open Go.RowKit
theorem ent162:ah Tryz.prog 162:=fun _ _=>by kernel_rfl
theorem ent163:ah Tryz.prog 163:=fun _ _=>by kernel_rfl
theorem ent180:ah Tryz.prog 180:=fun _ _=>by kernel_rfl
theorem ent177:ah Tryz.prog 177:=fun _ _=>by kernel_rfl
theorem ent181:ah Tryz.prog 181:=fun _ _=>by kernel_rfl
theorem ent191:ah Tryz.prog 191:=fun _ _=>by kernel_rfl
namespace Sh
theorem zv75(w:World):(zeroValue 75).run Tryz.prog w=.ok (.agg ((List.replicate 64 (0#32)).map U32).toArray) w:=(zeroValue75 w).trans (by rfl)
theorem zv74(w:World):(zeroValue 74).run Tryz.prog w=.ok (.agg ((List.replicate 8 (0#32)).map U32).toArray) w:=(zeroValue74 w).trans (by rfl)
theorem zv178(w:World):(zeroValue 178).run Tryz.prog w=.ok (.agg ((List.replicate 64 (0#8)).map U8).toArray) w:=(zeroValue178 w).trans (by rfl)
theorem zv134(w:World):(zeroValue 134).run Tryz.prog w=.ok (.agg ((List.replicate 32 (0#8)).map U8).toArray) w:=(zeroValue134 w).trans (by rfl)
def jt(x:BitVec 32)(k:Int):BitVec 32:=(x<<<(BitVec.ofInt 64 k &&& 31#64).toNat)|||(x>>>(32#64-(BitVec.ofInt 64 k &&& 31#64)).toNat)
theorem cI(x:BitVec 32)(k:Int):Pure Tryz.prog Gt 194 [U32 x,I k] (U32 (jt x k)):=by
 intro w hw
 refine Hf func194 rfl hw<|fun hGF=>Xp<|Asg rfl<|aa<|Xp<|Mv rfl<|bF rfl rfl (fun _=>eW underlying3 underlying127 _) rfl rfl<|Bnr rfl rfl (fun _=>dr _ _ _)<|Asg rfl<|aa<|Xp<|Mv rfl<|Mv rfl<|Bnr rfl rfl (fun _=>fC _ _ _)<|Mv rfl<|Mv rfl<|Bnr rfl rfl (fun _=>eh _ _ _)<|Bnr rfl rfl (fun _=>du _ _ _)<|Bnr rfl rfl (fun _=>gg _ _ _)<|Asg rfl<|aa<|ap<|Rr<|?_
 exact aJ rfl rfl (fun w hw=>⟨rfl,ac hw⟩)
def turn(x:BitVec 32)(n:Nat):BitVec 32:=(x>>>n)|||(x<<<(32-n))
def qp(x:BitVec 32):BitVec 32:=jt x (-6)^^^jt x (-11)^^^jt x (-25)
theorem uG(x:BitVec 32):Pure Tryz.prog Gt 189 [U32 x] (U32 (qp x)):=by
 intro w hw
 refine Hf func189 rfl hw<|fun hGF=>Xp<|Asg rfl<|aa<|Xp<|Mv rfl<|Ca rfl (cI _ _)<|Mv rfl<|Ca rfl (cI _ _)<|Bnr rfl rfl (fun _=>bR _ _ _)<|Mv rfl<|Ca rfl (cI _ _)<|Bnr rfl rfl (fun _=>bR _ _ _)<|Asg rfl<|aa<|ap<|Rr<|?_
 exact aJ rfl rfl (fun w hw=>⟨rfl,ac hw⟩)
def wW(x:BitVec 32):BitVec 32:=jt x (-2)^^^jt x (-13)^^^jt x (-22)
theorem vo(x:BitVec 32):Pure Tryz.prog Gt 190 [U32 x] (U32 (wW x)):=by
 intro w hw
 refine Hf func190 rfl hw<|fun hGF=>Xp<|Asg rfl<|aa<|Xp<|Mv rfl<|Ca rfl (cI _ _)<|Mv rfl<|Ca rfl (cI _ _)<|Bnr rfl rfl (fun _=>bR _ _ _)<|Mv rfl<|Ca rfl (cI _ _)<|Bnr rfl rfl (fun _=>bR _ _ _)<|Asg rfl<|aa<|ap<|Rr<|?_
 exact aJ rfl rfl (fun w hw=>⟨rfl,ac hw⟩)
def CK(x:BitVec 32):BitVec 32:=jt x (-7)^^^jt x (-18)^^^(x>>>3)
theorem uF(x:BitVec 32):Pure Tryz.prog Gt 193 [U32 x] (U32 (CK x)):=by
 intro w hw
 refine Hf func193 rfl hw<|fun hGF=>Xp<|Asg rfl<|aa<|Xp<|Mv rfl<|Ca rfl (cI _ _)<|Mv rfl<|Ca rfl (cI _ _)<|Bnr rfl rfl (fun _=>bR _ _ _)<|Mv rfl<|Bnr rfl rfl (fun _=>du _ _ _)<|Bnr rfl rfl (fun _=>bR _ _ _)<|Asg rfl<|aa<|ap<|Rr<|?_
 exact aJ rfl rfl (fun w hw=>⟨rfl,ac hw⟩)
def BB(x:BitVec 32):BitVec 32:=jt x (-17)^^^jt x (-19)^^^(x>>>10)
theorem vk(x:BitVec 32):Pure Tryz.prog Gt 192 [U32 x] (U32 (BB x)):=by
 intro w hw
 refine Hf func192 rfl hw<|fun hGF=>Xp<|Asg rfl<|aa<|Xp<|Mv rfl<|Ca rfl (cI _ _)<|Mv rfl<|Ca rfl (cI _ _)<|Bnr rfl rfl (fun _=>bR _ _ _)<|Mv rfl<|Bnr rfl rfl (fun _=>du _ _ _)<|Bnr rfl rfl (fun _=>bR _ _ _)<|Asg rfl<|aa<|ap<|Rr<|?_
 exact aJ rfl rfl (fun w hw=>⟨rfl,ac hw⟩)
end Sh
end
section
open Go.RowKit
namespace Sh
def w4(bl:List (BitVec 8))(i:Nat):BitVec 32:=((bl.getD (4*i) 0).setWidth 32<<<24)|||((bl.getD (4*i+1) 0).setWidth 32<<<16)|||((bl.getD (4*i+2) 0).setWidth 32<<<8)|||(bl.getD (4*i+3) 0).setWidth 32
def W1(bl:List (BitVec 8)):Nat→List (BitVec 32)
 |0=>List.replicate 64 0#32
 |k+1=>(W1 bl k).set k (w4 bl k)
theorem rp(bl:List (BitVec 8)): ∀k,(W1 bl k).length=64
 |0=>by simp[W1]
 |k+1=>by simp[W1,rp bl k]
def w5(ws:List (BitVec 32))(i:Nat):BitVec 32:=BB (ws.getD (i-2) 0)+ws.getD (i-7) 0+CK (ws.getD (i-15) 0)+ws.getD (i-16) 0
def W2(bl:List (BitVec 8)):Nat→List (BitVec 32)
 |0=>W1 bl 16
 |k+1=>(W2 bl k).set (16+k) (w5 (W2 bl k) (16+k))
theorem er(bl:List (BitVec 8)): ∀k,(W2 bl k).length=64
 |0=>rp bl 16
 |k+1=>by simp[W2,er bl k]
theorem qX(bl:List (BitVec 8))(hb:bl.length=64):Pure Tryz.prog Gt 188 [.agg (bl.map U8).toArray] (.agg ((W2 bl 48).map U32).toArray):=by
 intro w hw
 refine Hf func188 rfl hw<|fun hGF=>Xp<|Bx 1 hGF rfl<|fun b1=>Al 2 hGF zv75<|fun b2=>aa<|Xp<|Al 3 hGF zv75<|fun b3=>aa<|ae<|Xp<|Mv rfl<|aa<|ai<|bB (ι:={i:Nat // i≤16}) (fun x=>[(6,I (x.1:Int)),(1,.pointer (some ⟨b1,0,none⟩)),(2,.pointer (some ⟨b2,0,none⟩)),(3,.pointer (some ⟨b3,0,none⟩))]) (fun x=>[(3,b3,(W1 bl x.1).map U32,75),(2,b2,(List.replicate 64 (0#32)).map U32,75),(1,b1,bl.map U8,178)]) (fun x=>16-x.1) ⟨0,by omega⟩ hGF ⟨rfl,rfl,rfl,rfl,trivial⟩ ⟨rfl,rfl,rfl,trivial⟩<|?_
 rintro ⟨i,hi⟩
 dsimp only
 refine Xp<|Bnr rfl rfl (fun _=>aA _ _ _)<|aa<|ae<|?_
 refine bj rfl (fun hc=> ?_) (fun hc=> ?_)
 ·simp only[decide_eq_true_eq]at hc
  refine au<|ae<|ai<|Xp<|Mv rfl<|Asg rfl<|aa<|Xe []<|Mv rfl<|Mv rfl<|Bnr rfl rfl (fun _=>a7 _ _ _ (by unfold inI;omega))<|Ia ((4*i)) rfl rfl underlying178 sizeOf5<|Lm 1 U8 0 rfl rfl isAgg5 (by rw[hb];omega)<|bF rfl rfl (fun _=>fo underlying5 underlying73 _) rfl rfl<|Bnr rfl rfl (fun _=>fC _ _ _)<|Mv rfl<|Bnr rfl rfl (fun _=>a7 _ _ _ (by unfold inI;omega))<|Bnr rfl rfl (fun _=>aw _ _ _ (by unfold inI;omega))<|Ia (((4*i)+1)) rfl rfl underlying178 sizeOf5<|Lm 1 U8 0 rfl rfl isAgg5 (by rw[hb];omega)<|bF rfl rfl (fun _=>fo underlying5 underlying73 _) rfl rfl<|Bnr rfl rfl (fun _=>fC _ _ _)<|Bnr rfl rfl (fun _=>gg _ _ _)<|Mv rfl<|Bnr rfl rfl (fun _=>a7 _ _ _ (by unfold inI;omega))<|Bnr rfl rfl (fun _=>aw _ _ _ (by unfold inI;omega))<|Ia (((4*i)+2)) rfl rfl underlying178 sizeOf5<|Lm 1 U8 0 rfl rfl isAgg5 (by rw[hb];omega)<|bF rfl rfl (fun _=>fo underlying5 underlying73 _) rfl rfl<|Bnr rfl rfl (fun _=>fC _ _ _)<|Bnr rfl rfl (fun _=>gg _ _ _)<|Mv rfl<|Bnr rfl rfl (fun _=>a7 _ _ _ (by unfold inI;omega))<|Bnr rfl rfl (fun _=>aw _ _ _ (by unfold inI;omega))<|Ia (((4*i)+3)) rfl rfl underlying178 sizeOf5<|Lm 1 U8 0 rfl rfl isAgg5 (by rw[hb];omega)<|bF rfl rfl (fun _=>fo underlying5 underlying73 _) rfl rfl<|Bnr rfl rfl (fun _=>gg _ _ _)<|Ia (i) rfl rfl underlying75 sizeOf73<|aP 3 U32 hGF rfl rfl rfl sizeOf73 rfl (by rw[rp];omega) rfl<|?_
  exact aa<|Xq<|Bnr rfl rfl (fun _=>aw _ _ _ (by unfold inI;omega))<|Mv rfl<|aa<|aG<|⟨rfl,⟨i+1,by omega⟩,_,by show 16-(i+1)<16-i;omega,rfl,⟨rfl,rfl,rfl,rfl,trivial⟩,⟨rfl,rfl,rfl,trivial⟩⟩
 ·obtain rfl:i=16:=by simp at hc;omega
  refine aT<|ae<|Xp<|Asg rfl<|aa<|ai<|bB (ι:={i:Nat // i≤48}) (fun x=>[(5,I ((16+x.1:Nat):Int)),(2,.pointer (some ⟨b2,0,none⟩)),(3,.pointer (some ⟨b3,0,none⟩))]) (fun x=>[(3,b3,(W2 bl x.1).map U32,75),(2,b2,(List.replicate 64 (0#32)).map U32,75)]) (fun x=>48-x.1) ⟨0,by omega⟩ hGF ⟨rfl,rfl,rfl,trivial⟩ ⟨rfl,rfl,trivial⟩<|?_
  rintro ⟨j,hj⟩
  dsimp only
  refine ae<|Xp<|Mv rfl<|Bnr rfl rfl (fun _=>aA _ _ _)<|aa<|?_
  refine bj rfl (fun hc=> ?_) (fun hc=> ?_)
  ·simp only[decide_eq_true_eq]at hc
   exact au<|ae<|ai<|Xe []<|Mv rfl<|Mv rfl<|Bnr rfl rfl (fun _=>aX _ _ _ (by unfold inI;omega))<|Ia (((16+j)-2)) rfl rfl underlying75 sizeOf73<|Lm 3 U32 0 rfl rfl isAgg73 (by rw[er];omega)<|Ca rfl (vk _)<|Mv rfl<|Bnr rfl rfl (fun _=>aX _ _ _ (by unfold inI;omega))<|Ia (((16+j)-7)) rfl rfl underlying75 sizeOf73<|Lm 3 U32 0 rfl rfl isAgg73 (by rw[er];omega)<|Bnr rfl rfl (fun _=>bc _ _ _)<|Mv rfl<|Bnr rfl rfl (fun _=>aX _ _ _ (by unfold inI;omega))<|Ia (((16+j)-15)) rfl rfl underlying75 sizeOf73<|Lm 3 U32 0 rfl rfl isAgg73 (by rw[er];omega)<|Ca rfl (uF _)<|Bnr rfl rfl (fun _=>bc _ _ _)<|Mv rfl<|Bnr rfl rfl (fun _=>aX _ _ _ (by unfold inI;omega))<|Ia (((16+j)-16)) rfl rfl underlying75 sizeOf73<|Lm 3 U32 0 rfl rfl isAgg73 (by rw[er];omega)<|Bnr rfl rfl (fun _=>bc _ _ _)<|Ia ((16+j)) rfl rfl underlying75 sizeOf73<|aP 3 U32 hGF rfl rfl rfl sizeOf73 rfl (by rw[er];omega) rfl<|aa<|Xq<|Mv rfl<|Bnr rfl rfl (fun _=>aw _ _ _ (by unfold inI;omega))<|Asg rfl<|aa<|aG<|⟨rfl,⟨j+1,by omega⟩,_,by show 48-(j+1)<48-j;omega,rfl,⟨rfl,rfl,rfl,trivial⟩,⟨rfl,rfl,trivial⟩⟩
  ·obtain rfl:j=48:=by simp at hc;omega
   refine aT<|Xp<|Lw 3 rfl rfl AO (er _ _)<|Sx 2 hGF rfl rfl rfl AO (er _ _) (fv _)<|aa<|ap<|Rr<|?_
   exact av 2 rfl rfl rfl isAgg75 sizeOf75 (by rw[List.length_map,er]) (fun w hw=>⟨rfl,ac hw⟩)
theorem gk{B:Bs}{L:Hl}{Y:Nat→Prop}(hw:Gt B.w0)(hM: ¬B.M 5)(k:Nat)(hk:k<64): ∀w,Hq B L Y w→w.cell? ⟨5,k,none⟩=some (U32 (KW.getD k 0)):=by
 have:=hw.g5 k _ (gm U32 KW 0 k hk)
 rw[Nat.zero_add]at this
 exact jG this hM
structure V8 where
 (a b c d e f g h:BitVec 32)
def rnd(v:V8)(k w:BitVec 32):V8:=
 ⟨(v.h+qp v.e+(v.e &&& v.f^^^ ~~~v.e &&& v.g)+k+w)+(wW v.a+(v.a &&& v.b^^^v.a &&& v.c^^^v.b &&& v.c)),v.a,v.b,v.c,v.d+(v.h+qp v.e+(v.e &&& v.f^^^ ~~~v.e &&& v.g)+k+w),v.e,v.f,v.g⟩
def kB(v:V8)(ws:List (BitVec 32)):Nat→V8
 |0=>v
 |k+1=>rnd (kB v ws k) (KW.getD k 0) (ws.getD k 0)
def v8(st:List (BitVec 32)):V8:=⟨st.getD 0 0,st.getD 1 0,st.getD 2 0,st.getD 3 0,st.getD 4 0,st.getD 5 0,st.getD 6 0,st.getD 7 0⟩
def Kp(st:List (BitVec 32))(v:V8):List (BitVec 32):=[st.getD 0 0+v.a,st.getD 1 0+v.b,st.getD 2 0+v.c,st.getD 3 0+v.d,st.getD 4 0+v.e,st.getD 5 0+v.f,st.getD 6 0+v.g,st.getD 7 0+v.h]
def o0(st:List (BitVec 32))(bl:List (BitVec 8)):List (BitVec 32):=Kp st (kB (v8 st) (W2 bl 48) 64)
theorem mG(st:List (BitVec 32))(bl:List (BitVec 8))(hs:st.length=8)(hb:bl.length=64):Pure Tryz.prog Gt 178 [.agg (st.map U32).toArray,.agg (bl.map U8).toArray] (.agg ((o0 st bl).map U32).toArray):=by
 intro w hw
 refine Hf func178 rfl hw<|fun hGF=>Xp<|Bx 2 hGF rfl<|fun b2=>Bx 3 hGF rfl<|fun b3=>Al 4 hGF zv74<|fun b4=>aa<|Xp<|Lw 3 rfl rfl sy hb<|Ca rfl (qX _ hb)<|Al 5 hGF zv75<|fun b5=>Sx 5 hGF rfl rfl rfl AO (er _ _) (fv _)<|aa<|Xd []<|Ia (0) rfl rfl underlying74 sizeOf73<|Lm 2 U32 0 rfl rfl isAgg73 (by rw[hs];omega)<|Ia (1) rfl rfl underlying74 sizeOf73<|Lm 2 U32 0 rfl rfl isAgg73 (by rw[hs];omega)<|Ia (2) rfl rfl underlying74 sizeOf73<|Lm 2 U32 0 rfl rfl isAgg73 (by rw[hs];omega)<|Ia (3) rfl rfl underlying74 sizeOf73<|Lm 2 U32 0 rfl rfl isAgg73 (by rw[hs];omega)<|Asg rfl<|Asg rfl<|Asg rfl<|Asg rfl<|aa<|Xd []<|Ia (4) rfl rfl underlying74 sizeOf73<|Lm 2 U32 0 rfl rfl isAgg73 (by rw[hs];omega)<|Ia (5) rfl rfl underlying74 sizeOf73<|Lm 2 U32 0 rfl rfl isAgg73 (by rw[hs];omega)<|Ia (6) rfl rfl underlying74 sizeOf73<|Lm 2 U32 0 rfl rfl isAgg73 (by rw[hs];omega)<|Ia (7) rfl rfl underlying74 sizeOf73<|Lm 2 U32 0 rfl rfl isAgg73 (by rw[hs];omega)<|Asg rfl<|Asg rfl<|Asg rfl<|Asg rfl<|aa<|?_
 refine ae<|Xp<|Lw 5 rfl rfl AO (er _ _)<|Mv rfl<|aa<|ai<|bB (ι:={i:Nat // i≤64}) (fun x=>[(39,I (x.1:Int)),(2,.pointer (some ⟨b2,0,none⟩)),(4,.pointer (some ⟨b4,0,none⟩)),(6,U32 (kB (v8 st) (W2 bl 48) x.1).a),(7,U32 (kB (v8 st) (W2 bl 48) x.1).b),(8,U32 (kB (v8 st) (W2 bl 48) x.1).c),(9,U32 (kB (v8 st) (W2 bl 48) x.1).d),(10,U32 (kB (v8 st) (W2 bl 48) x.1).e),(11,U32 (kB (v8 st) (W2 bl 48) x.1).f),(12,U32 (kB (v8 st) (W2 bl 48) x.1).g),(13,U32 (kB (v8 st) (W2 bl 48) x.1).h),(38,.agg ((W2 bl 48).map U32).toArray)]) (fun x=>[(2,b2,st.map U32,74),(4,b4,(List.replicate 8 (0#32)).map U32,74)]) (fun x=>64-x.1) ⟨0,by omega⟩ hGF ⟨rfl,rfl,rfl,rfl,rfl,rfl,rfl,rfl,rfl,rfl,rfl,rfl,trivial⟩ ⟨rfl,rfl,trivial⟩<|?_
 rintro ⟨i,hi⟩
 dsimp only
 refine Xp<|Bnr rfl rfl (fun _=>aA _ _ _)<|aa<|ae<|?_
 refine bj rfl (fun hc=> ?_) (fun hc=> ?_)
 ·simp only[decide_eq_true_eq]at hc
  refine au<|ae<|ai<|Xp<|Mv rfl<|fk U32 0 (i) rfl rfl underlying75 sizeOf73 isAgg73 (by omega) (by omega) (er _ _) rfl rfl<|Asg rfl<|Asg rfl<|aa<|Xp<|Mv rfl<|Mv rfl<|Bnr rfl rfl (fun _=>ej _ _ _)<|Mv rfl<|bz rfl (fun _=>qK _) rfl rfl<|Mv rfl<|Bnr rfl rfl (fun _=>ej _ _ _)<|Bnr rfl rfl (fun _=>bR _ _ _)<|Asg rfl<|aa<|Xd []<|Mv rfl<|Mv rfl<|Ca rfl (uG _)<|Bnr rfl rfl (fun _=>bc _ _ _)<|Mv rfl<|Bnr rfl rfl (fun _=>bc _ _ _)<|Mv rfl<|Ia (i) rfl rfl underlying75 sizeOf73<|bp rfl isAgg73 (gk (B:=pl w) hw (fun h=>h) (i) (by omega)) rfl rfl<|Bnr rfl rfl (fun _=>bc _ _ _)<|Mv rfl<|Bnr rfl rfl (fun _=>bc _ _ _)<|Asg rfl<|aa<|Xp<|Mv rfl<|Mv rfl<|Bnr rfl rfl (fun _=>ej _ _ _)<|Mv rfl<|?_
  refine Mv rfl<|Bnr rfl rfl (fun _=>ej _ _ _)<|Bnr rfl rfl (fun _=>bR _ _ _)<|Mv rfl<|Mv rfl<|Bnr rfl rfl (fun _=>ej _ _ _)<|Bnr rfl rfl (fun _=>bR _ _ _)<|Asg rfl<|aa<|Xp<|Mv rfl<|Ca rfl (vo _)<|Mv rfl<|Bnr rfl rfl (fun _=>bc _ _ _)<|Asg rfl<|aa<|Xp<|Mv rfl<|Mv rfl<|Mv rfl<|Mv rfl<|Mv rfl<|Bnr rfl rfl (fun _=>bc _ _ _)<|Asg rfl<|Asg rfl<|Asg rfl<|Asg rfl<|aa<|Xq<|Mv rfl<|Mv rfl<|Mv rfl<|Mv rfl<|Mv rfl<|Bnr rfl rfl (fun _=>bc _ _ _)<|Asg rfl<|Asg rfl<|Asg rfl<|Asg rfl<|aa<|?_
  exact Xq<|Bnr rfl rfl (fun _=>aw _ _ _ (by unfold inI;omega))<|Mv rfl<|aa<|aG<|⟨rfl,⟨i+1,by omega⟩,_,by show 64-(i+1)<64-i;omega,rfl,⟨rfl,rfl,rfl,rfl,rfl,rfl,rfl,rfl,rfl,rfl,rfl,rfl,trivial⟩,⟨rfl,rfl,trivial⟩⟩
 ·obtain rfl:i=64:=by simp at hc;omega
  refine aT<|Xp<|Ia (0) rfl rfl underlying74 sizeOf73<|Lm 2 U32 0 rfl rfl isAgg73 (by rw[hs];omega)<|Mv rfl<|Bnr rfl rfl (fun _=>bc _ _ _)<|Ia (1) rfl rfl underlying74 sizeOf73<|Lm 2 U32 0 rfl rfl isAgg73 (by rw[hs];omega)<|Mv rfl<|Bnr rfl rfl (fun _=>bc _ _ _)<|Ia (2) rfl rfl underlying74 sizeOf73<|Lm 2 U32 0 rfl rfl isAgg73 (by rw[hs];omega)<|Mv rfl<|Bnr rfl rfl (fun _=>bc _ _ _)<|Ia (3) rfl rfl underlying74 sizeOf73<|Lm 2 U32 0 rfl rfl isAgg73 (by rw[hs];omega)<|Mv rfl<|Bnr rfl rfl (fun _=>bc _ _ _)<|Ia (4) rfl rfl underlying74 sizeOf73<|Lm 2 U32 0 rfl rfl isAgg73 (by rw[hs];omega)<|Mv rfl<|Bnr rfl rfl (fun _=>bc _ _ _)<|Ia (5) rfl rfl underlying74 sizeOf73<|Lm 2 U32 0 rfl rfl isAgg73 (by rw[hs];omega)<|Mv rfl<|Bnr rfl rfl (fun _=>bc _ _ _)<|Ia (6) rfl rfl underlying74 sizeOf73<|Lm 2 U32 0 rfl rfl isAgg73 (by rw[hs];omega)<|Mv rfl<|Bnr rfl rfl (fun _=>bc _ _ _)<|Ia (7) rfl rfl underlying74 sizeOf73<|Lm 2 U32 0 rfl rfl isAgg73 (by rw[hs];omega)<|Mv rfl<|Bnr rfl rfl (fun _=>bc _ _ _)<|dP (n:=8) rfl rfl underlying74 sizeOf73 zeroValue74 rfl rfl rfl rfl<|aH 4 hGF rfl rfl rfl sizeOf74 rfl (by rw[List.length_map,List.length_replicate]) rfl rfl<|aa<|ap<|Rr<|?_
  exact av 4 rfl rfl rfl isAgg74 sizeOf74 rfl (fun w hw=>⟨rfl,ac hw⟩)
def IV:List (BitVec 32):=[0x6a09e667#32,0xbb67ae85#32,0x3c6ef372#32,0xa54ff53a#32,0x510e527f#32,0x9b05688c#32,0x1f83d9ab#32,0x5be0cd19#32]
theorem rr  :Pure Tryz.prog Gt 187 [] (.agg (IV.map U32).toArray):=by
 intro w hw
 refine Hf func187 rfl hw<|fun hGF=>Xp<|Al 0 hGF zv74<|fun b0=>aa<|Xp<|dP (n:=8) rfl rfl underlying74 sizeOf73 zeroValue74 rfl rfl rfl rfl<|aH 0 hGF rfl rfl rfl sizeOf74 rfl (by rw[List.length_map,List.length_replicate]) rfl rfl<|aa<|ap<|Rr<|?_
 exact av 0 rfl rfl rfl isAgg74 sizeOf74 rfl (fun w hw=>⟨rfl,ac hw⟩)
def DG(st:List (BitVec 32)):Nat→List (BitVec 8)
 |0=>List.replicate 32 0#8
 |k+1=>((((DG st k).set (4*k) ((st.getD k 0>>>24).setWidth 8)).set (4*k+1) ((st.getD k 0>>>16).setWidth 8)).set (4*k+2) ((st.getD k 0>>>8).setWidth 8)).set (4*k+3) ((st.getD k 0).setWidth 8)
theorem dp(st:List (BitVec 32)): ∀k,(DG st k).length=32
 |0=>by simp[DG]
 |k+1=>by simp[DG,dp st k]
theorem oH(st:List (BitVec 32))(hs:st.length=8):Pure Tryz.prog Gt 179 [.agg (st.map U32).toArray] (.agg ((DG st 8).map U8).toArray):=by
 intro w hw
 refine Hf func179 rfl hw<|fun hGF=>Xp<|Bx 1 hGF rfl<|fun b1=>Al 2 hGF zv134<|fun b2=>aa<|Xp<|Al 3 hGF zv134<|fun b3=>aa<|ae<|Xp<|Lw 1 rfl rfl oQ hs<|Mv rfl<|aa<|ai<|bB (ι:={i:Nat // i≤8}) (fun x=>[(7,I (x.1:Int)),(2,.pointer (some ⟨b2,0,none⟩)),(3,.pointer (some ⟨b3,0,none⟩)),(6,.agg (st.map U32).toArray)]) (fun x=>[(3,b3,(DG st x.1).map U8,134),(2,b2,(List.replicate 32 (0#8)).map U8,134)]) (fun x=>8-x.1) ⟨0,by omega⟩ hGF ⟨rfl,rfl,rfl,rfl,trivial⟩ ⟨rfl,rfl,trivial⟩<|?_
 rintro ⟨i,hi⟩
 dsimp only
 refine Xp<|Bnr rfl rfl (fun _=>aA _ _ _)<|aa<|ae<|?_
 refine bj rfl (fun hc=> ?_) (fun hc=> ?_)
 ·simp only[decide_eq_true_eq]at hc
  refine au<|ae<|ai<|Xp<|Mv rfl<|fk U32 0 (i) rfl rfl underlying74 sizeOf73 isAgg73 (by omega) (by omega) (hs) rfl rfl<|Asg rfl<|Asg rfl<|aa<|Xp<|Mv rfl<|Bnr rfl rfl (fun _=>a7 _ _ _ (by unfold inI;omega))<|Mv rfl<|Bnr rfl rfl (fun _=>du _ _ _)<|bF rfl rfl (fun _=>fl underlying73 underlying5 _) rfl rfl<|Ia ((4*i)) rfl rfl underlying134 sizeOf5<|aP 3 U8 hGF rfl rfl rfl sizeOf5 rfl (by simp[dp];omega) rfl<|aa<|Xp<|Mv rfl<|Bnr rfl rfl (fun _=>a7 _ _ _ (by unfold inI;omega))<|Bnr rfl rfl (fun _=>aw _ _ _ (by unfold inI;omega))<|Mv rfl<|Bnr rfl rfl (fun _=>du _ _ _)<|bF rfl rfl (fun _=>fl underlying73 underlying5 _) rfl rfl<|Ia (((4*i)+1)) rfl rfl underlying134 sizeOf5<|aP 3 U8 hGF rfl rfl rfl sizeOf5 rfl (by simp[dp];omega) rfl<|aa<|Xp<|Mv rfl<|Bnr rfl rfl (fun _=>a7 _ _ _ (by unfold inI;omega))<|Bnr rfl rfl (fun _=>aw _ _ _ (by unfold inI;omega))<|Mv rfl<|Bnr rfl rfl (fun _=>du _ _ _)<|bF rfl rfl (fun _=>fl underlying73 underlying5 _) rfl rfl<|Ia (((4*i)+2)) rfl rfl underlying134 sizeOf5<|aP 3 U8 hGF rfl rfl rfl sizeOf5 rfl (by simp[dp];omega) rfl<|aa<|Xq<|Mv rfl<|?_
  exact Bnr rfl rfl (fun _=>a7 _ _ _ (by unfold inI;omega))<|Bnr rfl rfl (fun _=>aw _ _ _ (by unfold inI;omega))<|Mv rfl<|bF rfl rfl (fun _=>fl underlying73 underlying5 _) rfl rfl<|Ia (((4*i)+3)) rfl rfl underlying134 sizeOf5<|aP 3 U8 hGF rfl rfl rfl sizeOf5 rfl (by simp[dp];omega) rfl<|aa<|Xq<|Bnr rfl rfl (fun _=>aw _ _ _ (by unfold inI;omega))<|Mv rfl<|aa<|aG<|⟨rfl,⟨i+1,by omega⟩,_,by show 8-(i+1)<8-i;omega,rfl,⟨rfl,rfl,rfl,rfl,trivial⟩,⟨rfl,rfl,trivial⟩⟩
 ·obtain rfl:i=8:=by simp at hc;omega
  refine aT<|Xp<|Lw 3 rfl rfl qy (dp _ _)<|Sx 2 hGF rfl rfl rfl qy (dp _ _) (cf _)<|aa<|ap<|Rr<|?_
  exact av 2 rfl rfl rfl isAgg134 sizeOf134 (by rw[List.length_map,dp]) (fun w hw=>⟨rfl,ac hw⟩)
end Sh
end
section
open Go.RowKit
namespace Sh
theorem zU:(Tryz.prog.info? 5).map (·.size)=some 1:=by kernel_rfl
def e1(rs:List (BitVec 8)):List (BitVec 8):=(rs++List.replicate (64-rs.length) 0#8).set rs.length 128#8
theorem zY(rs:List (BitVec 8))(h:rs.length≤64):(e1 rs).length=64:=by simp[e1];omega
def LB(bl:List (BitVec 8))(n:BitVec 64):Nat→List (BitVec 8)
 |0=>bl
 |k+1=>(LB bl n k).set (56+k) (((8#64*n)>>>(56-8*(k:Int)).toNat).setWidth 8)
theorem rC(bl:List (BitVec 8))(n:BitVec 64): ∀k,(LB bl n k).length=bl.length
 |0=>rfl
 |k+1=>by simp[LB,rC bl n k]
theorem n5(rs:List (BitVec 8))(n:BitVec 64)(h:rs.length≤64)(k:Nat):(LB (e1 rs) n k).length=64:=by rw[rC,zY rs h]
theorem nI(n:BitVec 64)(k:Nat):(LB (List.replicate 64 0#8) n k).length=64:=by rw[rC];simp
def nN(br bn:Nat)(a:Option Addr)(cap:Nat)(rs:List (BitVec 8))(n:BitVec 64):Cls:=fun W=>W.cell? ⟨br,0,none⟩=some (.slice a rs.length cap)∧W.cell? ⟨bn,0,none⟩=some (U64 n)∧BytesAt W a rs
def enc(bl:List (BitVec 8)):List Value:=[.agg (bl.map U8).toArray]
theorem bQ{J:(Nat→Prop)→World→Prop}(h:Rides J){L:Hl}{w:World}(hj:J (fun b=>Yof L b∨False) w):J (fun _=>False) w:=h.less _ _ _ (fun _ h=>h.elim) hj
theorem uC(br bn:Nat)(a:Option Addr)(cap:Nat)(rs:List (BitVec 8))(n:BitVec 64)(h:rs.length<56):gI Tryz.prog Gt 191 [.pointer (some ⟨br,0,none⟩),.pointer (some ⟨bn,0,none⟩)] [enc (LB (e1 rs) n 8)] (nN br bn a cap rs n):=by
 intro l J Jx hJ hJx hRd hGx hY w hj
 have okJ: ∀k,BOk Gt (Bi w (fun Y=>J Y k)):=fun k=>⟨fun _ _ _ h=>(hRd _ _ _ h.rid).1,hJ k⟩
 have okX: ∀k,BOk Gt (Bi w (fun Y=>Jx Y k)):=fun k=>⟨fun _ _ _ h=>hGx _ _ _ h.rid,hJx k⟩
 have c1: ∀k L w',Hp (Bi w (fun Y=>J Y k)) L w'→nN br bn a cap rs n w':=fun k L w' h=>(hRd _ _ _ h.rid).2
 refine cr (G:=Gt) func191 rfl rfl (Hp (Bi w (fun Y=>J Y 0)) []) (cu (Bi w _) hj (hJ 0)) (ay (okJ 0))<|Xp<|Al 4 (okJ _) zv178<|fun b4=>aa<|Xd []<|cg (l:=0) (h':=64) rfl underlying178 sizeOf5 rfl rfl (by omega) (by omega) rfl rfl<|bp rfl isAgg22 (fun w h=>(c1 _ _ w h).1) rfl rfl<|k5 4 (okJ _) rfl rfl rfl underlying22 zU (by show rs.length=Nat.min rs.length 64;exact (Nat.min_eq_left (by omega)).symm) (fun w h=>(c1 _ _ w h).2.2) (by simp;omega) rfl rfl<|?_
 rw[um rs 64 (by omega)]
 refine aa<|Xp<|bp rfl isAgg22 (fun w h=>(c1 _ _ w h).1) rfl rfl<|aZ rfl (fun _=>aC underlying22 _ _ _ _) rfl rfl<|Ia (rs.length) rfl rfl underlying178 sizeOf5<|aP 4 U8 (okJ _) rfl rfl rfl sizeOf5 rfl (by simp;omega) rfl<|aa<|ae<|Xp<|bp rfl isAgg22 (fun w h=>(c1 _ _ w h).1) rfl rfl<|aZ rfl (fun _=>aC underlying22 _ _ _ _) rfl rfl<|Bnr rfl rfl (fun _=>dX _ _ _)<|aa<|aL (by show some (Value.bool (decide ((rs.length:Int)≥56)))=_;rw[decide_eq_false (by omega)])<|au<|Xp<|bp rfl isAgg24 (fun w h=>(c1 _ _ w h).2.1) rfl rfl<|Bnr rfl rfl (fun _=>bD _ _ _)<|Asg rfl<|aa<|ae<|Xp<|Mv rfl<|aa<|ai<|bB (ι:={i:Nat // i≤8}) (fun x=>[(23,I (x.1:Int)),(0,.func (.yield l) #[] #[]),(4,.pointer (some ⟨b4,0,none⟩)),(5,U64 (8#64*n))]) (fun x=>[(4,b4,(LB (e1 rs) n x.1).map U8,178)]) (fun x=>8-x.1) ⟨0,by omega⟩ (okJ _) ⟨rfl,rfl,rfl,rfl,trivial⟩ ⟨rfl,trivial⟩<|?_
 rintro ⟨i,hi⟩
 dsimp only
 refine Xp<|Bnr rfl rfl (fun _=>aA _ _ _)<|aa<|ae<|?_
 refine bj rfl (fun hc=> ?_) (fun hc=> ?_)
 ·simp only[decide_eq_true_eq]at hc
  exact au<|ae<|ai<|Xp<|Mv rfl<|Asg rfl<|aa<|Xq<|Mv rfl<|Bnr rfl rfl (fun _=>aw _ _ _ (by unfold inI;omega))<|Mv rfl<|Mv rfl<|Bnr rfl rfl (fun _=>a7 _ _ _ (by unfold inI;omega))<|Bnr rfl rfl (fun _=>aX _ _ _ (by unfold inI;omega))<|Bnr rfl rfl (fun _=>dg _ _ _ (by omega))<|bF rfl rfl (fun _=>fy underlying24 underlying5 _) rfl rfl<|Ia ((56+i)) rfl rfl underlying178 sizeOf5<|aP 4 U8 (okJ _) rfl rfl rfl sizeOf5 rfl (by rw[n5 rs n (by omega)];omega) rfl<|aa<|Xq<|Bnr rfl rfl (fun _=>aw _ _ _ (by unfold inI;omega))<|Mv rfl<|aa<|aG<|⟨rfl,⟨i+1,by omega⟩,_,by show 8-(i+1)<8-i;omega,rfl,⟨rfl,rfl,rfl,rfl,trivial⟩,⟨rfl,trivial⟩⟩
 ·obtain rfl:i=8:=by simp at hc;omega
  refine aT<|Xq<|Mv rfl<|Lw 4 rfl rfl sy (by rw[n5 rs n (by omega)])<|?_
  refine dM (hY.b (k:=0) rfl w) (okJ _) (okX _) rfl rfl rfl rfl rfl ?_ ?_
  ·exact aa<|cv rfl (fun w hw=>⟨⟨_,rfl⟩,.inl (bQ (hJ _) hw.rid)⟩)
  ·exact aa<|cv rfl (fun w hw=>⟨⟨_,rfl⟩,.inr ⟨_,bQ (hJx _) hw.rid⟩⟩)
theorem yv(br bn:Nat)(a:Option Addr)(cap:Nat)(rs:List (BitVec 8))(n:BitVec 64)(h:56≤rs.length)(h2:rs.length<64):gI Tryz.prog Gt 191 [.pointer (some ⟨br,0,none⟩),.pointer (some ⟨bn,0,none⟩)] [enc (e1 rs),enc (LB (List.replicate 64 0#8) n 8)] (nN br bn a cap rs n):=by
 intro l J Jx hJ hJx hRd hGx hY w hj
 have okJ: ∀k,BOk Gt (Bi w (fun Y=>J Y k)):=fun k=>⟨fun _ _ _ h=>(hRd _ _ _ h.rid).1,hJ k⟩
 have okX: ∀k,BOk Gt (Bi w (fun Y=>Jx Y k)):=fun k=>⟨fun _ _ _ h=>hGx _ _ _ h.rid,hJx k⟩
 have c1: ∀k L w',Hp (Bi w (fun Y=>J Y k)) L w'→nN br bn a cap rs n w':=fun k L w' h=>(hRd _ _ _ h.rid).2
 refine cr (G:=Gt) func191 rfl rfl (Hp (Bi w (fun Y=>J Y 0)) []) (cu (Bi w _) hj (hJ 0)) (ay (okJ 0))<|Xp<|Al 4 (okJ _) zv178<|fun b4=>aa<|Xd []<|cg (l:=0) (h':=64) rfl underlying178 sizeOf5 rfl rfl (by omega) (by omega) rfl rfl<|bp rfl isAgg22 (fun w h=>(c1 _ _ w h).1) rfl rfl<|k5 4 (okJ _) rfl rfl rfl underlying22 zU (by show rs.length=Nat.min rs.length 64;exact (Nat.min_eq_left (by omega)).symm) (fun w h=>(c1 _ _ w h).2.2) (by simp;omega) rfl rfl<|?_
 rw[um rs 64 (by omega)]
 refine aa<|Xp<|bp rfl isAgg22 (fun w h=>(c1 _ _ w h).1) rfl rfl<|aZ rfl (fun _=>aC underlying22 _ _ _ _) rfl rfl<|Ia (rs.length) rfl rfl underlying178 sizeOf5<|aP 4 U8 (okJ _) rfl rfl rfl sizeOf5 rfl (by simp;omega) rfl<|aa<|ae<|Xp<|bp rfl isAgg22 (fun w h=>(c1 _ _ w h).1) rfl rfl<|aZ rfl (fun _=>aC underlying22 _ _ _ _) rfl rfl<|Bnr rfl rfl (fun _=>dX _ _ _)<|aa<|ba (by show some (Value.bool (decide ((rs.length:Int)≥56)))=_;rw[decide_eq_true (by omega)])<|ae<|Xp<|Mv rfl<|cx 4 rfl rfl isAgg178 sizeOf178 (by simp;omega) rfl rfl<|?_
 refine dM (hY.b (k:=0) rfl w) (okJ _) (okX _) rfl rfl rfl rfl rfl ?_ ?_
 ·refine bz rfl (fun _=>bi _) rfl rfl<|aa<|aL rfl<|au<|Xq<|eP zv178 underlying178 sizeOf5 rfl rfl<|aH 4 (okJ _) rfl rfl rfl sizeOf178 (by rw[List.length_map,List.length_replicate]) (by simp;omega) (cf _) rfl<|aa<|Xp<|bp rfl isAgg24 (fun w h=>(c1 _ _ w h).2.1) rfl rfl<|Bnr rfl rfl (fun _=>bD _ _ _)<|Asg rfl<|aa<|ae<|Xp<|Mv rfl<|aa<|ai<|bB (ι:={i:Nat // i≤8}) (fun x=>[(23,I (x.1:Int)),(0,.func (.yield l) #[] #[]),(4,.pointer (some ⟨b4,0,none⟩)),(5,U64 (8#64*n))]) (fun x=>[(4,b4,(LB (List.replicate 64 0#8) n x.1).map U8,178)]) (fun x=>8-x.1) ⟨0,by omega⟩ (okJ _) ⟨rfl,rfl,rfl,rfl,trivial⟩ ⟨rfl,trivial⟩<|?_
  rintro ⟨i,hi⟩
  dsimp only
  refine Xp<|Bnr rfl rfl (fun _=>aA _ _ _)<|aa<|ae<|?_
  refine bj rfl (fun hc=> ?_) (fun hc=> ?_)
  ·simp only[decide_eq_true_eq]at hc
   exact au<|ae<|ai<|Xp<|Mv rfl<|Asg rfl<|aa<|Xq<|Mv rfl<|Bnr rfl rfl (fun _=>aw _ _ _ (by unfold inI;omega))<|Mv rfl<|Mv rfl<|Bnr rfl rfl (fun _=>a7 _ _ _ (by unfold inI;omega))<|Bnr rfl rfl (fun _=>aX _ _ _ (by unfold inI;omega))<|Bnr rfl rfl (fun _=>dg _ _ _ (by omega))<|bF rfl rfl (fun _=>fy underlying24 underlying5 _) rfl rfl<|Ia ((56+i)) rfl rfl underlying178 sizeOf5<|aP 4 U8 (okJ _) rfl rfl rfl sizeOf5 rfl (by rw[nI];omega) rfl<|aa<|Xq<|Bnr rfl rfl (fun _=>aw _ _ _ (by unfold inI;omega))<|Mv rfl<|aa<|aG<|⟨rfl,⟨i+1,by omega⟩,_,by show 8-(i+1)<8-i;omega,rfl,⟨rfl,rfl,rfl,rfl,trivial⟩,⟨rfl,trivial⟩⟩
  ·obtain rfl:i=8:=by simp at hc;omega
   refine aT<|Xq<|Mv rfl<|Lw 4 rfl rfl sy (nI _ _)<|?_
   refine dM (hY.b (k:=1) rfl w) (okJ _) (okX _) rfl rfl rfl rfl rfl ?_ ?_
   ·exact aa<|cv rfl (fun w hw=>⟨⟨_,rfl⟩,.inl (bQ (hJ _) hw.rid)⟩)
   ·exact aa<|cv rfl (fun w hw=>⟨⟨_,rfl⟩,.inr ⟨_,bQ (hJx _) hw.rid⟩⟩)
 ·refine bz rfl (fun _=>bi _) rfl rfl<|aa<|ba rfl<|ap<|Rr<|?_
  exact eQ rfl (fun w hw=>⟨⟨_,rfl⟩,.inr ⟨_,bQ (hJx _) hw.rid⟩⟩)
end Sh
end
section
open Go.RowKit
namespace Sh
def dz(rs:List (BitVec 8))(n:BitVec 64):List (List (BitVec 8)):=if rs.length<56 then [LB (e1 rs) n 8]else [e1 rs,LB (List.replicate 64 0#8) n 8]
theorem oJ(rs:List (BitVec 8))(n:BitVec 64)(h:rs.length<64): ∀bl∈dz rs n,bl.length=64:=by
 unfold dz
 split
 ·intro bl hbl
  rcases List.mem_singleton.1 hbl with rfl
  exact n5 rs n (by omega) 8
 ·intro bl hbl
  rcases List.mem_cons.1 hbl with rfl|hbl
  ·exact zY rs (by omega)
  ·rcases List.mem_singleton.1 hbl with rfl
   exact nI n 8
theorem AR(br bn:Nat)(a:Option Addr)(cap:Nat)(rs:List (BitVec 8))(n:BitVec 64)(h:rs.length<64):gI Tryz.prog Gt 191 [.pointer (some ⟨br,0,none⟩),.pointer (some ⟨bn,0,none⟩)] ((dz rs n).map enc) (nN br bn a cap rs n):=by
 unfold dz
 split
 ·exact uC br bn a cap rs n (by assumption)
 ·exact yv br bn a cap rs n (by omega) h
def fB(bs:List (BitVec 8)):List (List (BitVec 8)):=(List.range (bs.length / 64)).map fun k=>(bs.drop (64*k)).take 64
def uT(bs:List (BitVec 8)):List (List (BitVec 8)):=fB bs++dz (bs.drop (64*(bs.length / 64))) (BitVec.ofInt 64 bs.length)
theorem uH(bs:List (BitVec 8)):(fB bs).length=bs.length / 64:=by simp[fB]
theorem nq(sv:Value)(n:BitVec 64)(hs:sv.cells= #[sv])(w:World)(hw:Gt w):Calls Tryz.prog 181 [sv,U64 n].toArray w (fun e w'=> ∃b2 b3,e=.returned (.func (.func 191) #[] #[.pointer (some ⟨b2,0,none⟩),.pointer (some ⟨b3,0,none⟩)])∧Grow w w'∧w.heap.size≤b2∧w.heap.size≤b3∧b2≠b3∧OwnB w' b2 [sv] 22∧OwnB w' b3 [U64 n] 24):=by
 refine Hf func181 rfl hw<|fun hGF=>Xp<|jH 2 hGF rfl rfl rfl<|fun b2=>jH 3 hGF rfl rfl rfl<|fun b3=>Asg rfl<|aa<|Xp<|ia rfl rfl rfl rfl<|Asg rfl<|aa<|ap<|Rr<|?_
 exact aJ rfl rfl (fun w hw=>⟨b2,b3,rfl,ac hw,(hw.own 2 b2 _ _ rfl).2.elim id False.elim,(hw.own 3 b3 _ _ rfl).2.elim id False.elim,(fun e=>by subst e;exact absurd (hw.inj 2 3 _ _ _ _ _ rfl rfl) (by decide)),(by have:=(hw.own 2 b2 _ _ rfl).1;rw[hs]at this;exact this),(hw.own 3 b3 _ _ rfl).1⟩)
theorem BM{n m:Nat}{b1 b2:Nat}{c1 c2:List Value}{t1 t2:TypeId}(hne:b1≠b2): ∀i j b c t c' t',lkB [(n,b1,c1,t1),(m,b2,c2,t2)] i=some (b,c,t)→lkB [(n,b1,c1,t1),(m,b2,c2,t2)] j=some (b,c',t')→i=j:=by
 intro i j b c t c' t' h1 h2
 rcases aF h1 with ⟨e1,x1⟩|⟨_,h1⟩<;>rcases aF h2 with ⟨e2,x2⟩|⟨_,h2⟩
 ·exact e1.trans e2.symm
 ·rcases aF h2 with ⟨_,x2⟩|⟨_,h2⟩
  ·cases x1;cases x2;exact (hne rfl).elim
  ·cases h2
 ·rcases aF h1 with ⟨_,x1⟩|⟨_,h1⟩
  ·cases x1;cases x2;exact (hne rfl).elim
  ·cases h1
 ·rcases aF h1 with ⟨e1,x1⟩|⟨_,h1⟩
  ·rcases aF h2 with ⟨e2,x2⟩|⟨_,h2⟩
   ·exact e1.trans e2.symm
   ·cases h2
  ·cases h1
end Sh
end
section
open Go.RowKit
namespace Sh
def eM(st:List (BitVec 32))(bls:List (List (BitVec 8))):Nat→List (BitVec 32)
 |0=>st
 |k+1=>o0 (eM st bls k) (bls.getD k [])
theorem eU(st:List (BitVec 32))(bl:List (BitVec 8)):(o0 st bl).length=8:=rfl
theorem e8(st:List (BitVec 32))(bls:List (List (BitVec 8)))(h:st.length=8): ∀k,(eM st bls k).length=8
 |0=>h
 |_+1=>eU _ _
theorem uu(st:List (BitVec 32))(hs:st.length=8)(gf:Nat)(caps:List Value)(bls:List (List (BitVec 8)))(hb: ∀bl∈bls,bl.length=64)(Rd:Cls)(he:ah Tryz.prog gf)(hseq:gI Tryz.prog Gt gf caps (bls.map enc) Rd)(w:World)(hw:Gt w)(hRs: ∀w',Grow w w'→Rd w'):
 Calls Tryz.prog 180 [.agg (st.map U32).toArray,.func (.func gf) #[] caps.toArray].toArray w (fun e w'=>e=.returned (.agg ((eM st bls bls.length).map U32).toArray)∧Grow w w'):=by
 have hGF:BOk Gt (pl w):=gt_low.plain hw
 refine dq (G:=Gt) func180 rfl rfl (Hp (pl w) []) (cu (pl w) trivial ao) (ay hGF)<|Xp<|Bx 2 hGF rfl<|fun b2=>Al 4 hGF zv74<|fun b4=>aa<|ae<|Xp<|Mv rfl<|aa<|ai<|?_
 refine h7 (fun _=>pl w) (fun _ _=>pl w) (fun _=>hGF) (fun _ _=>hGF) (fun _=>rfl) (fun _ _=>rfl) rfl rfl he hseq (by simp[enc]) rfl (fun k=>[(2,b2,(eM st bls k).map U32,74),(4,b4,(List.replicate 8 0#32).map U32,74)]) (fun _ _ _=>False) ⟨rfl,rfl,trivial⟩ (fun _ _ w' h=>hRs w' (h.below (fun _ h=>h))) ?_ ?_ (fun _ _ _ _ _ h=>h.elim)
 ·intro k x hx R hR
  obtain ⟨hk,rfl⟩:k<bls.length∧enc (bls.getD k [])=x:=by
   rw[List.getElem?_map]at hx
   rcases Nat.lt_or_ge k bls.length with h|h
   ·simp[h]at hx;exact ⟨h,by simpa [h]using hx⟩
   ·simp[h]at hx
  have hb64:(bls.getD k []).length=64:=hb _ (by rw[show bls.getD k []=bls[k]from by simp[hk]];exact List.getElem_mem hk)
  refine Xq<|dZ 5 (hR (pl w) rfl hGF).1 zv178 rfl rfl<|fun b5=>aH 5 (hR (pl w) rfl hGF).1 rfl rfl rfl sizeOf178 (by rw[List.length_map,hb64]) (by rw[List.length_map,List.length_replicate]) (cf _) rfl<|aa<|?_
  refine ⟨rfl,_,rfl, ?_⟩
  exact ai<|Xq<|Lw 2 rfl rfl oQ (by rw[e8 st bls hs])<|Lw 5 rfl rfl sy hb64<|Ca rfl (mG _ _ (e8 _ _ hs _) hb64)<|aH 2 (hR (pl w) rfl hGF).2.1 rfl rfl rfl sizeOf74 (by rw[List.length_map,eU]) (by rw[List.length_map,e8 st bls hs]) (fv _) rfl<|aa<|⟨_,rfl,⟨rfl,rfl,trivial⟩⟩
 ·intro D hD
  refine Xp<|Lw 2 rfl rfl oQ (by rw[e8 st bls hs])<|Sx 4 hD rfl rfl rfl oQ (by rw[e8 st bls hs]) (fv _)<|aa<|ap<|Rr<|?_
  refine ib (.inl rfl) ao (av 4 rfl rfl rfl isAgg74 sizeOf74 (by rw[List.length_map,e8 st bls hs]) (fun w hw=>⟨?_,ac hw⟩))
  rw[List.length_map]
def SHA(bs:List (BitVec 8)):List (BitVec 8):=DG (eM IV (uT bs) (uT bs).length) 8
theorem eH(bs:List (BitVec 8)):(SHA bs).length=32:=dp _ 8
theorem bJ{n:Nat}{b1:Nat}{c1:List Value}{t1:TypeId}: ∀i j b c t c' t',lkB [(n,b1,c1,t1)] i=some (b,c,t)→lkB [(n,b1,c1,t1)] j=some (b,c',t')→i=j:=by
 intro i j b c t c' t' h1 h2
 rcases aF h1 with ⟨e1,x1⟩|⟨_,h1⟩
 ·rcases aF h2 with ⟨e2,x2⟩|⟨_,h2⟩
  ·exact e1.trans e2.symm
  ·cases h2
 ·cases h1
end Sh
end
end Go.Proofs.YtodgbdcjjhmnkaaGreatDoor
