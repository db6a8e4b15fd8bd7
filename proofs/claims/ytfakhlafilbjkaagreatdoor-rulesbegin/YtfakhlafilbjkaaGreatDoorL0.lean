/- L0 -/
import Derived.Test.YtfakhlafilbjkaaGreatDoorXW
import Derived.Lib.BufferMore
set_option maxRecDepth 100000
set_option maxHeartbeats 1000000
namespace Go.Proofs.YtfakhlafilbjkaaGreatDoor
open Go.Proofs.Tryz
section
open Go.RowKit
theorem ent150:aL prog 150:=λ_ _=>kr
theorem ent111:aL prog 111:=λ_ _=>kr
theorem ent145:aL prog 145:=λ_ _=>kr
theorem ent118:aL prog 118:=λ_ _=>kr
theorem ent74:aL prog 74:=λ_ _=>kr
theorem ent183:aL prog 183:=λ_ _=>kr
theorem ent185:aL prog 185:=λ_ _=>kr
theorem ent208:aL prog 208:=λ_ _=>kr
theorem ent207:aL prog 207:=λ_ _=>kr
theorem ent238:aL prog 238:=λ_ _=>kr
theorem ent63:aL prog 63:=λ_ _=>kr
namespace Sh
theorem zv156(w:World):(zeroValue 156).run prog w=.ok (.agg ((List.replicate 64 (0#32)).map U32).toArray) w:=(zeroValue156 w).trans aE
theorem zv155(w:World):(zeroValue 155).run prog w=.ok (.agg ((List.replicate 8 (0#32)).map U32).toArray) w:=(zeroValue155 w).trans aE
theorem zv203(w:World):(zeroValue 203).run prog w=.ok (.agg ((List.replicate 64 (0#8)).map U8).toArray) w:=(zeroValue203 w).trans aE
theorem zv27(w:World):(zeroValue 27).run prog w=.ok (.agg ((List.replicate 32 (0#8)).map U8).toArray) w:=(zeroValue27 w).trans aE
def li(x:BitVec 32)(k:Int):BitVec 32:=(x<<<(BitVec.ofInt 64 k &&& 31#64).toNat)|||(x>>>(32#64-(BitVec.ofInt 64 k &&& 31#64)).toNat)
theorem eP(x:BitVec 32)(k:Int):PUR 285 [U32 x,I k] (U32 (li x k)):=by
 intro w hw;refine Hf func285 O hw<|λhGF=>Xp<|Asg O<|aa<|Xp<|Mv O<|bI O O (λ_=>dg underlying3 underlying161 _) O O<|Bnr O O (λ_=>ee _ _ _)<|Asg O<|aa<|Xp<|Mv O<|Mv O<|Bnr O O (λ_=>ij _ _ _)<|Mv O<|Mv O<|Bnr O O (λ_=>je _ _ _)<|Bnr O O (λ_=>eB _ _ _)<|Bnr O O (λ_=>gF _ _ _)<|Asg O<|aa<|ao<|Rr<|?_;exact ar O O (λw hw=>⟨rfl,ae hw⟩)
def turn(x:BitVec 32)(n:Nat):BitVec 32:=(x>>>n)|||(x<<<(32-n))
theorem eO(x:BitVec 32)(n:Int)(h0:0<=n)(h1:n<=32):PUR 146 [U32 x,I n] (U32 (turn x n.toNat)):=by
 intro w hw;refine Hf func146 O hw<|λhGF=>Xp<|Asg O<|aa<|Xd []<|Mv O<|Mv O<|Bnr O O (λ_=>lu _ _ _ om)<|Mv O<|Mv O<|Bnr O O (λ_=>bC _ _ _ aG)<|Bnr O O (λ_=>qs _ _ _ om)<|Bnr O O (λ_=>gF _ _ _)<|Asg O<|aa<|ao<|Rr<|?_;exact ar O O (λw hw=>⟨by rw[show (32-n).toNat=32-n.toNat from by omega];rfl,ae hw⟩)
def ph(x:BitVec 32):BitVec 32:=li x (-6)^^^li x (-11)^^^li x (-25)
theorem ym(x:BitVec 32):PUR 236 [U32 x] (U32 (ph x)):=by
 intro w hw;refine Hf func236 O hw<|λhGF=>Xp<|Asg O<|aa<|Xp<|Mv O<|Ca O (eP _ _)<|Mv O<|Ca O (eP _ _)<|Bnr O O (λ_=>bZ _ _ _)<|Mv O<|Ca O (eP _ _)<|Bnr O O (λ_=>bZ _ _ _)<|Asg O<|aa<|ao<|Rr<|?_;exact ar O O (λw hw=>⟨rfl,ae hw⟩)
def tH(x:BitVec 32):BitVec 32:=li x (-2)^^^li x (-13)^^^li x (-22)
theorem yM(x:BitVec 32):PUR 237 [U32 x] (U32 (tH x)):=by
 intro w hw;refine Hf func237 O hw<|λhGF=>Xp<|Asg O<|aa<|Xp<|Mv O<|Ca O (eP _ _)<|Mv O<|Ca O (eP _ _)<|Bnr O O (λ_=>bZ _ _ _)<|Mv O<|Ca O (eP _ _)<|Bnr O O (λ_=>bZ _ _ _)<|Asg O<|aa<|ao<|Rr<|?_;exact ar O O (λw hw=>⟨rfl,ae hw⟩)
def yl(x:BitVec 32):BitVec 32:=li x (-7)^^^li x (-18)^^^(x>>>3)
theorem xI(x:BitVec 32):PUR 284 [U32 x] (U32 (yl x)):=by
 intro w hw;refine Hf func284 O hw<|λhGF=>Xp<|Asg O<|aa<|Xp<|Mv O<|Ca O (eP _ _)<|Mv O<|Ca O (eP _ _)<|Bnr O O (λ_=>bZ _ _ _)<|Mv O<|Bnr O O (λ_=>eB _ _ _)<|Bnr O O (λ_=>bZ _ _ _)<|Asg O<|aa<|ao<|Rr<|?_;exact ar O O (λw hw=>⟨rfl,ae hw⟩)
def yG(x:BitVec 32):BitVec 32:=li x (-17)^^^li x (-19)^^^(x>>>10)
theorem yq(x:BitVec 32):PUR 283 [U32 x] (U32 (yG x)):=by
 intro w hw;refine Hf func283 O hw<|λhGF=>Xp<|Asg O<|aa<|Xp<|Mv O<|Ca O (eP _ _)<|Mv O<|Ca O (eP _ _)<|Bnr O O (λ_=>bZ _ _ _)<|Mv O<|Bnr O O (λ_=>eB _ _ _)<|Bnr O O (λ_=>bZ _ _ _)<|Asg O<|aa<|ao<|Rr<|?_;exact ar O O (λw hw=>⟨rfl,ae hw⟩)
end Sh
end
section
open Go.RowKit
namespace Sh
def w4(bl:L8)(i:Nat):BitVec 32:=((bl.getD (4*i) 0).setWidth 32<<<24)|||((bl.getD (4*i+1) 0).setWidth 32<<<16)|||((bl.getD (4*i+2) 0).setWidth 32<<<8)|||(bl.getD (4*i+3) 0).setWidth 32
def W1(bl:L8):Nat->Lz3
 |0=>List.replicate 64 0#32
 |k+1=>(W1 bl k).set k (w4 bl k)
theorem uG(bl:L8): ∀k,(W1 bl k).length=64
 |0=>by simp[W1]
 |k+1=>by simp[W1,uG bl k]
def w5(ws:Lz3)(i:Nat):BitVec 32:=yG (ws.getD (i-2) 0)+ws.getD (i-7) 0+yl (ws.getD (i-15) 0)+ws.getD (i-16) 0
def W2(bl:L8):Nat->Lz3
 |0=>W1 bl 16
 |k+1=>(W2 bl k).set (16+k) (w5 (W2 bl k) (16+k))
theorem iz(bl:L8): ∀k,(W2 bl k).length=64
 |0=>uG bl 16
 |k+1=>by simp[W2,iz bl k]
theorem vJ(bl:L8)(hb:bl.length=64):PUR 235 [.agg (bl.map U8).toArray] (.agg ((W2 bl 48).map U32).toArray):=by
 intro w hw;refine Hf func235 O hw<|λhGF=>Xp<|Bx 1 hGF O<|λb1=>Al 2 hGF zv156<|λb2=>aa<|Xp<|Al 3 hGF zv156<|λb3=>aa<|ah<|Xp<|Mv O<|aa<|au<|bW (ι:={i:Nat // i<=16}) (λx=>[(6,I (x.1:Int)),(1,pnt b1),(2,pnt b2),(3,pnt b3)]) (λx=>[(3,b3,(W1 bl x.1).map U32,156),(2,b2,(List.replicate 64 (0#32)).map U32,156),(1,b1,bl.map U8,203)]) (λx=>16-x.1) ⟨0,om⟩ hGF trv trv<|?_;rintro ⟨i,hi⟩;dsimp only;refine Xp<|Bnr O O (λ_=>aI _ _ _)<|aa<|ah<|?_;refine cx O (λhc=> ?_) (λhc=> ?_)
 ·simp only[decide_eq_true_eq]at hc
  refine aw<|ah<|au<|Xp<|Mv O<|Asg O<|aa<|Xe []<|Mv O<|Mv O<|Bnr O O (λ_=>bT _ _ _ aG)<|Ia ((4*i)) O O underlying203 sizeOf5<|Lmq 1 U8 0 O O isAgg5 (by rw[hb];omega)<|bI O O (λ_=>ie underlying5 underlying154 _) O O<|Bnr O O (λ_=>ij _ _ _)<|Mv O<|Bnr O O (λ_=>bT _ _ _ aG)<|Bnr O O (λ_=>ay _ _ _ aG)<|Ia (((4*i)+1)) O O underlying203 sizeOf5<|Lmq 1 U8 0 O O isAgg5 (by rw[hb];omega)<|bI O O (λ_=>ie underlying5 underlying154 _) O O<|Bnr O O (λ_=>ij _ _ _)<|Bnr O O (λ_=>gF _ _ _)<|Mv O<|Bnr O O (λ_=>bT _ _ _ aG)<|Bnr O O (λ_=>ay _ _ _ aG)<|Ia (((4*i)+2)) O O underlying203 sizeOf5<|Lmq 1 U8 0 O O isAgg5 (by rw[hb];omega)<|bI O O (λ_=>ie underlying5 underlying154 _) O O<|Bnr O O (λ_=>ij _ _ _)<|Bnr O O (λ_=>gF _ _ _)<|Mv O<|Bnr O O (λ_=>bT _ _ _ aG)<|Bnr O O (λ_=>ay _ _ _ aG)<|Ia (((4*i)+3)) O O underlying203 sizeOf5<|Lmq 1 U8 0 O O isAgg5 (by rw[hb];omega)<|bI O O (λ_=>ie underlying5 underlying154 _) O O<|Bnr O O (λ_=>gF _ _ _)<|Ia (i) O O underlying156 sizeOf154<|bO 3 U32 hGF O O O sizeOf154 O (by rw[uG];omega) O<|?_
  exact aa<|Xq<|Bnr O O (λ_=>ay _ _ _ aG)<|Mv O<|aa<|aY<|⟨rfl,⟨i+1,om⟩,_,by show 16-(i+1)<16-i;omega,rfl,trv,trv⟩
 ·obtain rfl:i=16:=by simp at hc;omega
  refine bv<|ah<|Xp<|Asg O<|aa<|au<|bW (ι:={i:Nat // i<=48}) (λx=>[(5,I ((16+x.1:Nat):Int)),(2,pnt b2),(3,pnt b3)]) (λx=>[(3,b3,(W2 bl x.1).map U32,156),(2,b2,(List.replicate 64 (0#32)).map U32,156)]) (λx=>48-x.1) ⟨0,om⟩ hGF trv trv<|?_;rintro ⟨j,hj⟩;dsimp only;refine ah<|Xp<|Mv O<|Bnr O O (λ_=>aI _ _ _)<|aa<|?_;refine cx O (λhc=> ?_) (λhc=> ?_)
  ·simp only[decide_eq_true_eq]at hc
   exact aw<|ah<|au<|Xe []<|Mv O<|Mv O<|Bnr O O (λ_=>bC _ _ _ aG)<|Ia (((16+j)-2)) O O underlying156 sizeOf154<|Lmq 3 U32 0 O O isAgg154 (by rw[iz];omega)<|Ca O (yq _)<|Mv O<|Bnr O O (λ_=>bC _ _ _ aG)<|Ia (((16+j)-7)) O O underlying156 sizeOf154<|Lmq 3 U32 0 O O isAgg154 (by rw[iz];omega)<|Bnr O O (λ_=>bN _ _ _)<|Mv O<|Bnr O O (λ_=>bC _ _ _ aG)<|Ia (((16+j)-15)) O O underlying156 sizeOf154<|Lmq 3 U32 0 O O isAgg154 (by rw[iz];omega)<|Ca O (xI _)<|Bnr O O (λ_=>bN _ _ _)<|Mv O<|Bnr O O (λ_=>bC _ _ _ aG)<|Ia (((16+j)-16)) O O underlying156 sizeOf154<|Lmq 3 U32 0 O O isAgg154 (by rw[iz];omega)<|Bnr O O (λ_=>bN _ _ _)<|Ia ((16+j)) O O underlying156 sizeOf154<|bO 3 U32 hGF O O O sizeOf154 O (by rw[iz];omega) O<|aa<|Xq<|Mv O<|Bnr O O (λ_=>ay _ _ _ aG)<|Asg O<|aa<|aY<|⟨rfl,⟨j+1,om⟩,_,by show 48-(j+1)<48-j;omega,rfl,trv,trv⟩
  ·obtain rfl:j=48:=by simp at hc;omega
   refine bv<|Xp<|Lw 3 O O wT (iz _ _)<|Sx 2 hGF O O O wT (iz _ _) (gU _)<|aa<|ao<|Rr<|?_;exact aF 2 O O O isAgg156 sizeOf156 (by rw[List.length_map,iz]) (λw hw=>⟨rfl,ae hw⟩)
theorem gk{B:Bs}{L:Hl}{Y:Nat->Prop}(hw:Gt B.w0)(hM: ¬B.M 1)(k:Nat)(hk:k<64): ∀w,Hq B L Y w->w.cell? ⟨1,k,none⟩=some (U32 (KW.getD k 0)):=by
 have:=hw.g1 k _ (gm U32 KW 0 k hk);rw[Nat.zero_add]at this;exact u7 this hM
structure V8 where
 (a b c d e f g h:BitVec 32)
def rnd(v:V8)(k w:BitVec 32):V8:=
 ⟨(v.h+ph v.e+(v.e &&& v.f^^^ ~~~v.e &&& v.g)+k+w)+(tH v.a+(v.a &&& v.b^^^v.a &&& v.c^^^v.b &&& v.c)),v.a,v.b,v.c,v.d+(v.h+ph v.e+(v.e &&& v.f^^^ ~~~v.e &&& v.g)+k+w),v.e,v.f,v.g⟩
def lR(v:V8)(ws:Lz3):Nat->V8
 |0=>v
 |k+1=>rnd (lR v ws k) (KW.getD k 0) (ws.getD k 0)
def v8(st:Lz3):V8:=⟨st.getD 0 0,st.getD 1 0,st.getD 2 0,st.getD 3 0,st.getD 4 0,st.getD 5 0,st.getD 6 0,st.getD 7 0⟩
def GB(st:Lz3)(v:V8):Lz3:=[st.getD 0 0+v.a,st.getD 1 0+v.b,st.getD 2 0+v.c,st.getD 3 0+v.d,st.getD 4 0+v.e,st.getD 5 0+v.f,st.getD 6 0+v.g,st.getD 7 0+v.h]
def comp(st:Lz3)(bl:L8):Lz3:=GB st (lR (v8 st) (W2 bl 48) 64)
theorem xO(st:Lz3)(bl:L8)(hs:st.length=8)(hb:bl.length=64):PUR 206 [.agg (st.map U32).toArray,.agg (bl.map U8).toArray] (.agg ((comp st bl).map U32).toArray):=by
 intro w hw;refine Hf func206 O hw<|λhGF=>Xp<|Bx 2 hGF O<|λb2=>Bx 3 hGF O<|λb3=>Al 4 hGF zv155<|λb4=>aa<|Xp<|Lw 3 O O qL hb<|Ca O (vJ _ hb)<|Al 5 hGF zv156<|λb5=>Sx 5 hGF O O O wT (iz _ _) (gU _)<|aa<|Xd []<|Ia (0) O O underlying155 sizeOf154<|Lmq 2 U32 0 O O isAgg154 (by rw[hs];omega)<|Ia (1) O O underlying155 sizeOf154<|Lmq 2 U32 0 O O isAgg154 (by rw[hs];omega)<|Ia (2) O O underlying155 sizeOf154<|Lmq 2 U32 0 O O isAgg154 (by rw[hs];omega)<|Ia (3) O O underlying155 sizeOf154<|Lmq 2 U32 0 O O isAgg154 (by rw[hs];omega)<|Asg O<|Asg O<|Asg O<|Asg O<|aa<|Xd []<|Ia (4) O O underlying155 sizeOf154<|Lmq 2 U32 0 O O isAgg154 (by rw[hs];omega)<|Ia (5) O O underlying155 sizeOf154<|Lmq 2 U32 0 O O isAgg154 (by rw[hs];omega)<|Ia (6) O O underlying155 sizeOf154<|Lmq 2 U32 0 O O isAgg154 (by rw[hs];omega)<|Ia (7) O O underlying155 sizeOf154<|Lmq 2 U32 0 O O isAgg154 (by rw[hs];omega)<|Asg O<|Asg O<|Asg O<|Asg O<|aa<|?_
 refine ah<|Xp<|Lw 5 O O wT (iz _ _)<|Mv O<|aa<|au<|bW (ι:={i:Nat // i<=64}) (λx=>[(39,I (x.1:Int)),(2,pnt b2),(4,pnt b4),(6,U32 (lR (v8 st) (W2 bl 48) x.1).a),(7,U32 (lR (v8 st) (W2 bl 48) x.1).b),(8,U32 (lR (v8 st) (W2 bl 48) x.1).c),(9,U32 (lR (v8 st) (W2 bl 48) x.1).d),(10,U32 (lR (v8 st) (W2 bl 48) x.1).e),(11,U32 (lR (v8 st) (W2 bl 48) x.1).f),(12,U32 (lR (v8 st) (W2 bl 48) x.1).g),(13,U32 (lR (v8 st) (W2 bl 48) x.1).h),(38,.agg ((W2 bl 48).map U32).toArray)]) (λx=>[(2,b2,st.map U32,155),(4,b4,(List.replicate 8 (0#32)).map U32,155)]) (λx=>64-x.1) ⟨0,om⟩ hGF trv trv<|?_;rintro ⟨i,hi⟩;dsimp only;refine Xp<|Bnr O O (λ_=>aI _ _ _)<|aa<|ah<|?_;refine cx O (λhc=> ?_) (λhc=> ?_)
 ·simp only[decide_eq_true_eq]at hc
  refine aw<|ah<|au<|Xp<|Mv O<|kQ U32 0 (i) O O underlying156 sizeOf154 isAgg154 om om (iz _ _) O O<|Asg O<|Asg O<|aa<|Xp<|Mv O<|Mv O<|Bnr O O (λ_=>dL _ _ _)<|Mv O<|bV O (λ_=>qf _) O O<|Mv O<|Bnr O O (λ_=>dL _ _ _)<|Bnr O O (λ_=>bZ _ _ _)<|Asg O<|aa<|Xd []<|Mv O<|Mv O<|Ca O (ym _)<|Bnr O O (λ_=>bN _ _ _)<|Mv O<|Bnr O O (λ_=>bN _ _ _)<|Mv O<|Ia (i) O O underlying156 sizeOf154<|aT O isAgg154 (gk (B:=pl w) hw (λh=>h) (i) om) O O<|Bnr O O (λ_=>bN _ _ _)<|Mv O<|Bnr O O (λ_=>bN _ _ _)<|Asg O<|aa<|Xp<|Mv O<|Mv O<|Bnr O O (λ_=>dL _ _ _)<|Mv O<|?_;refine Mv O<|Bnr O O (λ_=>dL _ _ _)<|Bnr O O (λ_=>bZ _ _ _)<|Mv O<|Mv O<|Bnr O O (λ_=>dL _ _ _)<|Bnr O O (λ_=>bZ _ _ _)<|Asg O<|aa<|Xp<|Mv O<|Ca O (yM _)<|Mv O<|Bnr O O (λ_=>bN _ _ _)<|Asg O<|aa<|Xp<|Mv O<|Mv O<|Mv O<|Mv O<|Mv O<|Bnr O O (λ_=>bN _ _ _)<|Asg O<|Asg O<|Asg O<|Asg O<|aa<|Xq<|Mv O<|Mv O<|Mv O<|Mv O<|Mv O<|Bnr O O (λ_=>bN _ _ _)<|Asg O<|Asg O<|Asg O<|Asg O<|aa<|?_;exact Xq<|Bnr O O (λ_=>ay _ _ _ aG)<|Mv O<|aa<|aY<|⟨rfl,⟨i+1,om⟩,_,by show 64-(i+1)<64-i;omega,rfl,trv,trv⟩
 ·obtain rfl:i=64:=by simp at hc;omega
  refine bv<|Xp<|Ia (0) O O underlying155 sizeOf154<|Lmq 2 U32 0 O O isAgg154 (by rw[hs];omega)<|Mv O<|Bnr O O (λ_=>bN _ _ _)<|Ia (1) O O underlying155 sizeOf154<|Lmq 2 U32 0 O O isAgg154 (by rw[hs];omega)<|Mv O<|Bnr O O (λ_=>bN _ _ _)<|Ia (2) O O underlying155 sizeOf154<|Lmq 2 U32 0 O O isAgg154 (by rw[hs];omega)<|Mv O<|Bnr O O (λ_=>bN _ _ _)<|Ia (3) O O underlying155 sizeOf154<|Lmq 2 U32 0 O O isAgg154 (by rw[hs];omega)<|Mv O<|Bnr O O (λ_=>bN _ _ _)<|Ia (4) O O underlying155 sizeOf154<|Lmq 2 U32 0 O O isAgg154 (by rw[hs];omega)<|Mv O<|Bnr O O (λ_=>bN _ _ _)<|Ia (5) O O underlying155 sizeOf154<|Lmq 2 U32 0 O O isAgg154 (by rw[hs];omega)<|Mv O<|Bnr O O (λ_=>bN _ _ _)<|Ia (6) O O underlying155 sizeOf154<|Lmq 2 U32 0 O O isAgg154 (by rw[hs];omega)<|Mv O<|Bnr O O (λ_=>bN _ _ _)<|Ia (7) O O underlying155 sizeOf154<|Lmq 2 U32 0 O O isAgg154 (by rw[hs];omega)<|Mv O<|Bnr O O (λ_=>bN _ _ _)<|dN (n:=8) O O underlying155 sizeOf154 zeroValue155 O O O O<|ai 4 hGF O O O sizeOf155 O (by rw[List.length_map,List.length_replicate]) O O<|aa<|ao<|Rr<|?_
  exact aF 4 O O O isAgg155 sizeOf155 O (λw hw=>⟨rfl,ae hw⟩)
def IV:Lz3:=[0x6a09e667#32,0xbb67ae85#32,0x3c6ef372#32,0xa54ff53a#32,0x510e527f#32,0x9b05688c#32,0x1f83d9ab#32,0x5be0cd19#32]
theorem vM  :PUR 184 [] (.agg (IV.map U32).toArray):=by
 intro w hw;refine Hf func184 O hw<|λhGF=>Xp<|Al 0 hGF zv155<|λb0=>aa<|Xp<|dN (n:=8) O O underlying155 sizeOf154 zeroValue155 O O O O<|ai 0 hGF O O O sizeOf155 O (by rw[List.length_map,List.length_replicate]) O O<|aa<|ao<|Rr<|?_
 exact aF 0 O O O isAgg155 sizeOf155 O (λw hw=>⟨rfl,ae hw⟩)
def DG(st:Lz3):Nat->L8
 |0=>List.replicate 32 0#8
 |k+1=>((((DG st k).set (4*k) ((st.getD k 0>>>24).setWidth 8)).set (4*k+1) ((st.getD k 0>>>16).setWidth 8)).set (4*k+2) ((st.getD k 0>>>8).setWidth 8)).set (4*k+3) ((st.getD k 0).setWidth 8)
theorem fG(st:Lz3): ∀k,(DG st k).length=32
 |0=>by simp[DG]
 |k+1=>by simp[DG,fG st k]
theorem tu(st:Lz3)(hs:st.length=8):PUR 182 [.agg (st.map U32).toArray] (.agg ((DG st 8).map U8).toArray):=by
 intro w hw;refine Hf func182 O hw<|λhGF=>Xp<|Bx 1 hGF O<|λb1=>Al 2 hGF zv27<|λb2=>aa<|Xp<|Al 3 hGF zv27<|λb3=>aa<|ah<|Xp<|Lw 1 O O qP hs<|Mv O<|aa<|au<|bW (ι:={i:Nat // i<=8}) (λx=>[(7,I (x.1:Int)),(2,pnt b2),(3,pnt b3),(6,.agg (st.map U32).toArray)]) (λx=>[(3,b3,(DG st x.1).map U8,27),(2,b2,(List.replicate 32 (0#8)).map U8,27)]) (λx=>8-x.1) ⟨0,om⟩ hGF trv trv<|?_;rintro ⟨i,hi⟩;dsimp only;refine Xp<|Bnr O O (λ_=>aI _ _ _)<|aa<|ah<|?_;refine cx O (λhc=> ?_) (λhc=> ?_)
 ·simp only[decide_eq_true_eq]at hc
  refine aw<|ah<|au<|Xp<|Mv O<|kQ U32 0 (i) O O underlying155 sizeOf154 isAgg154 om om (hs) O O<|Asg O<|Asg O<|aa<|Xp<|Mv O<|Bnr O O (λ_=>bT _ _ _ aG)<|Mv O<|Bnr O O (λ_=>eB _ _ _)<|bI O O (λ_=>hH underlying154 underlying5 _) O O<|Ia ((4*i)) O O underlying27 sizeOf5<|bO 3 U8 hGF O O O sizeOf5 O (by simp[fG];omega) O<|aa<|Xp<|Mv O<|Bnr O O (λ_=>bT _ _ _ aG)<|Bnr O O (λ_=>ay _ _ _ aG)<|Mv O<|Bnr O O (λ_=>eB _ _ _)<|bI O O (λ_=>hH underlying154 underlying5 _) O O<|Ia (((4*i)+1)) O O underlying27 sizeOf5<|bO 3 U8 hGF O O O sizeOf5 O (by simp[fG];omega) O<|aa<|Xp<|Mv O<|Bnr O O (λ_=>bT _ _ _ aG)<|Bnr O O (λ_=>ay _ _ _ aG)<|Mv O<|Bnr O O (λ_=>eB _ _ _)<|bI O O (λ_=>hH underlying154 underlying5 _) O O<|Ia (((4*i)+2)) O O underlying27 sizeOf5<|bO 3 U8 hGF O O O sizeOf5 O (by simp[fG];omega) O<|aa<|Xq<|Mv O<|?_
  exact Bnr O O (λ_=>bT _ _ _ aG)<|Bnr O O (λ_=>ay _ _ _ aG)<|Mv O<|bI O O (λ_=>hH underlying154 underlying5 _) O O<|Ia (((4*i)+3)) O O underlying27 sizeOf5<|bO 3 U8 hGF O O O sizeOf5 O (by simp[fG];omega) O<|aa<|Xq<|Bnr O O (λ_=>ay _ _ _ aG)<|Mv O<|aa<|aY<|⟨rfl,⟨i+1,om⟩,_,by show 8-(i+1)<8-i;omega,rfl,trv,trv⟩
 ·obtain rfl:i=8:=by simp at hc;omega
  refine bv<|Xp<|Lw 3 O O rM (fG _ _)<|Sx 2 hGF O O O rM (fG _ _) (bg _)<|aa<|ao<|Rr<|?_;exact aF 2 O O O isAgg27 sizeOf27 (by rw[List.length_map,fG]) (λw hw=>⟨rfl,ae hw⟩)
end Sh
end
section
open Go.RowKit
namespace Sh
theorem ug:(prog.info? 5).map (·.size)=some 1:=kr
def e1(rs:L8):L8:=(rs++List.replicate (64-rs.length) 0#8).set rs.length 128#8
theorem vw(rs:L8)(h:rs.length<=64):(e1 rs).length=64:=by simp[e1];omega
def LB(bl:L8)(n:BitVec 64):Nat->L8
 |0=>bl
 |k+1=>(LB bl n k).set (56+k) (((8#64*n)>>>(56-8*(k:Int)).toNat).setWidth 8)
theorem vH(bl:L8)(n:BitVec 64): ∀k,(LB bl n k).length=bl.length
 |0=>rfl
 |k+1=>by simp[LB,vH bl n k]
theorem sY(rs:L8)(n:BitVec 64)(h:rs.length<=64)(k:Nat):(LB (e1 rs) n k).length=64:=by rw[vH,vw rs h]
theorem rS(n:BitVec 64)(k:Nat):(LB (List.replicate 64 0#8) n k).length=64:=by rw[vH];simp
def tT(br bn:Nat)(a:Option Addr)(cap:Nat)(rs:L8)(n:BitVec 64):Cls:=λW=>W.cell? ⟨br,0,none⟩=some (.slice a rs.length cap)/\W.cell? ⟨bn,0,none⟩=some (U64 n)/\BytesAt W a rs
def enc(bl:L8):List Value:=[.agg (bl.map U8).toArray]
theorem di{J:(Nat->Prop)->World->Prop}(h:Rides J){L:Hl}{w:World}(hj:J (λb=>Yof L b\/False) w):J (λ_=>False) w:=h.less _ _ _ (λ_ h=>h.elim) hj
theorem xJ(br bn:Nat)(a:Option Addr)(cap:Nat)(rs:L8)(n:BitVec 64)(h:rs.length<56):jH prog Gt 238 [pnt br,pnt bn] [enc (LB (e1 rs) n 8)] (tT br bn a cap rs n):=by
 intro l J Jx hJ hJx hRd hGx hY w hj;have okJ: ∀k,BOk Gt (Bi w (λY=>J Y k)):=λk=>⟨λ_ _ _ h=>(hRd _ _ _ h.rid).1,hJ k⟩;have okX: ∀k,BOk Gt (Bi w (λY=>Jx Y k)):=λk=>⟨λ_ _ _ h=>hGx _ _ _ h.rid,hJx k⟩;have c1: ∀k L w',Hp (Bi w (λY=>J Y k)) L w'->tT br bn a cap rs n w':=λk L w' h=>(hRd _ _ _ h.rid).2;refine eM (G:=Gt) func238 O O (Hp (Bi w (λY=>J Y 0)) []) (cO (Bi w _) hj (hJ 0)) (aU (okJ 0))<|Xp<|Al 4 (okJ _) zv203<|λb4=>aa<|Xd []<|ct (l:=0) (h':=64) O underlying203 sizeOf5 O O om om O O<|aT O isAgg123 (λw h=>(c1 _ _ w h).1) O O<|ek 4 (okJ _) O O O underlying123 ug (by show rs.length=Nat.min rs.length 64;exact (Nat.min_eq_left om).symm) (λw h=>(c1 _ _ w h).2.2) (by simp;omega) O O<|?_
 rw[kU rs 64 om];refine aa<|Xp<|aT O isAgg123 (λw h=>(c1 _ _ w h).1) O O<|bB O (λ_=>aO underlying123 _ _ _ _) O O<|Ia (rs.length) O O underlying203 sizeOf5<|bO 4 U8 (okJ _) O O O sizeOf5 O (by simp;omega) O<|aa<|ah<|Xp<|aT O isAgg123 (λw h=>(c1 _ _ w h).1) O O<|bB O (λ_=>aO underlying123 _ _ _ _) O O<|Bnr O O (λ_=>cQ _ _ _)<|aa<|aH (by show some (Value.bool (decide ((rs.length:Int)>=56)))=_;rw[decide_eq_false om])<|aw<|Xp<|aT O isAgg22 (λw h=>(c1 _ _ w h).2.1) O O<|Bnr O O (λ_=>cy _ _ _)<|Asg O<|aa<|ah<|Xp<|Mv O<|aa<|au<|bW (ι:={i:Nat // i<=8}) (λx=>[(23,I (x.1:Int)),(0,.func (.yield l) #[] #[]),(4,pnt b4),(5,U64 (8#64*n))]) (λx=>[(4,b4,(LB (e1 rs) n x.1).map U8,203)]) (λx=>8-x.1) ⟨0,om⟩ (okJ _) trv trv<|?_
 rintro ⟨i,hi⟩;dsimp only;refine Xp<|Bnr O O (λ_=>aI _ _ _)<|aa<|ah<|?_;refine cx O (λhc=> ?_) (λhc=> ?_)
 ·simp only[decide_eq_true_eq]at hc
  exact aw<|ah<|au<|Xp<|Mv O<|Asg O<|aa<|Xq<|Mv O<|Bnr O O (λ_=>ay _ _ _ aG)<|Mv O<|Mv O<|Bnr O O (λ_=>bT _ _ _ aG)<|Bnr O O (λ_=>bC _ _ _ aG)<|Bnr O O (λ_=>cB _ _ _ om)<|bI O O (λ_=>ci underlying22 underlying5 _) O O<|Ia ((56+i)) O O underlying203 sizeOf5<|bO 4 U8 (okJ _) O O O sizeOf5 O (by rw[sY rs n om];omega) O<|aa<|Xq<|Bnr O O (λ_=>ay _ _ _ aG)<|Mv O<|aa<|aY<|⟨rfl,⟨i+1,om⟩,_,by show 8-(i+1)<8-i;omega,rfl,trv,trv⟩
 ·obtain rfl:i=8:=by simp at hc;omega
  refine bv<|Xq<|Mv O<|Lw 4 O O qL (by rw[sY rs n om])<|?_
  refine e5 (hY.b (k:=0) O w) (okJ _) (okX _) O O O O O ?_ ?_
  ·exact aa<|ec O (λw hw=>⟨⟨_,rfl⟩,.inl (di (hJ _) hw.rid)⟩)
  ·exact aa<|ec O (λw hw=>⟨⟨_,rfl⟩,.inr ⟨_,di (hJx _) hw.rid⟩⟩)
theorem Aa(br bn:Nat)(a:Option Addr)(cap:Nat)(rs:L8)(n:BitVec 64)(h:56<=rs.length)(h2:rs.length<64):jH prog Gt 238 [pnt br,pnt bn] [enc (e1 rs),enc (LB (List.replicate 64 0#8) n 8)] (tT br bn a cap rs n):=by
 intro l J Jx hJ hJx hRd hGx hY w hj;have okJ: ∀k,BOk Gt (Bi w (λY=>J Y k)):=λk=>⟨λ_ _ _ h=>(hRd _ _ _ h.rid).1,hJ k⟩;have okX: ∀k,BOk Gt (Bi w (λY=>Jx Y k)):=λk=>⟨λ_ _ _ h=>hGx _ _ _ h.rid,hJx k⟩;have c1: ∀k L w',Hp (Bi w (λY=>J Y k)) L w'->tT br bn a cap rs n w':=λk L w' h=>(hRd _ _ _ h.rid).2;refine eM (G:=Gt) func238 O O (Hp (Bi w (λY=>J Y 0)) []) (cO (Bi w _) hj (hJ 0)) (aU (okJ 0))<|Xp<|Al 4 (okJ _) zv203<|λb4=>aa<|Xd []<|ct (l:=0) (h':=64) O underlying203 sizeOf5 O O om om O O<|aT O isAgg123 (λw h=>(c1 _ _ w h).1) O O<|ek 4 (okJ _) O O O underlying123 ug (by show rs.length=Nat.min rs.length 64;exact (Nat.min_eq_left om).symm) (λw h=>(c1 _ _ w h).2.2) (by simp;omega) O O<|?_
 rw[kU rs 64 om];refine aa<|Xp<|aT O isAgg123 (λw h=>(c1 _ _ w h).1) O O<|bB O (λ_=>aO underlying123 _ _ _ _) O O<|Ia (rs.length) O O underlying203 sizeOf5<|bO 4 U8 (okJ _) O O O sizeOf5 O (by simp;omega) O<|aa<|ah<|Xp<|aT O isAgg123 (λw h=>(c1 _ _ w h).1) O O<|bB O (λ_=>aO underlying123 _ _ _ _) O O<|Bnr O O (λ_=>cQ _ _ _)<|aa<|aQ (by show some (Value.bool (decide ((rs.length:Int)>=56)))=_;rw[decide_eq_true om])<|ah<|Xp<|Mv O<|aq 4 O O isAgg203 sizeOf203 (by simp;omega) O O<|?_
 refine e5 (hY.b (k:=0) O w) (okJ _) (okX _) O O O O O ?_ ?_
 ·refine bV O (λ_=>bP _) O O<|aa<|aH O<|aw<|Xq<|ew zv203 underlying203 sizeOf5 O O<|ai 4 (okJ _) O O O sizeOf203 (by rw[List.length_map,List.length_replicate]) (by simp;omega) (bg _) O<|aa<|Xp<|aT O isAgg22 (λw h=>(c1 _ _ w h).2.1) O O<|Bnr O O (λ_=>cy _ _ _)<|Asg O<|aa<|ah<|Xp<|Mv O<|aa<|au<|bW (ι:={i:Nat // i<=8}) (λx=>[(23,I (x.1:Int)),(0,.func (.yield l) #[] #[]),(4,pnt b4),(5,U64 (8#64*n))]) (λx=>[(4,b4,(LB (List.replicate 64 0#8) n x.1).map U8,203)]) (λx=>8-x.1) ⟨0,om⟩ (okJ _) trv trv<|?_
  rintro ⟨i,hi⟩;dsimp only;refine Xp<|Bnr O O (λ_=>aI _ _ _)<|aa<|ah<|?_;refine cx O (λhc=> ?_) (λhc=> ?_)
  ·simp only[decide_eq_true_eq]at hc
   exact aw<|ah<|au<|Xp<|Mv O<|Asg O<|aa<|Xq<|Mv O<|Bnr O O (λ_=>ay _ _ _ aG)<|Mv O<|Mv O<|Bnr O O (λ_=>bT _ _ _ aG)<|Bnr O O (λ_=>bC _ _ _ aG)<|Bnr O O (λ_=>cB _ _ _ om)<|bI O O (λ_=>ci underlying22 underlying5 _) O O<|Ia ((56+i)) O O underlying203 sizeOf5<|bO 4 U8 (okJ _) O O O sizeOf5 O (by rw[rS];omega) O<|aa<|Xq<|Bnr O O (λ_=>ay _ _ _ aG)<|Mv O<|aa<|aY<|⟨rfl,⟨i+1,om⟩,_,by show 8-(i+1)<8-i;omega,rfl,trv,trv⟩
  ·obtain rfl:i=8:=by simp at hc;omega
   refine bv<|Xq<|Mv O<|Lw 4 O O qL (rS _ _)<|?_;refine e5 (hY.b (k:=1) O w) (okJ _) (okX _) O O O O O ?_ ?_
   ·exact aa<|ec O (λw hw=>⟨⟨_,rfl⟩,.inl (di (hJ _) hw.rid)⟩)
   ·exact aa<|ec O (λw hw=>⟨⟨_,rfl⟩,.inr ⟨_,di (hJx _) hw.rid⟩⟩)
 ·refine bV O (λ_=>bP _) O O<|aa<|aQ O<|ao<|Rr<|?_
  exact em O (λw hw=>⟨⟨_,rfl⟩,.inr ⟨_,di (hJx _) hw.rid⟩⟩)
end Sh
end
section
open Go.RowKit
namespace Sh
def gT(rs:L8)(n:BitVec 64):List L8:=if rs.length<56 then [LB (e1 rs) n 8]else [e1 rs,LB (List.replicate 64 0#8) n 8]
theorem nT(rs:L8)(n:BitVec 64)(h:rs.length<64): ∀bl∈gT rs n,bl.length=64:=by
 unfold gT;split
 ·intro bl hbl
  rcases List.mem_singleton.1 hbl with rfl
  exact sY rs n om 8
 ·intro bl hbl
  rcases List.mem_cons.1 hbl with rfl|hbl
  ·exact vw rs om
  ·rcases List.mem_singleton.1 hbl with rfl
   exact rS n 8
theorem Eg(br bn:Nat)(a:Option Addr)(cap:Nat)(rs:L8)(n:BitVec 64)(h:rs.length<64):jH prog Gt 238 [pnt br,pnt bn] ((gT rs n).map enc) (tT br bn a cap rs n):=by
 unfold gT;split
 ·exact xJ br bn a cap rs n (by assumption)
 ·exact Aa br bn a cap rs n om h
def jt(bs:L8):List L8:=(List.range (bs.length / 64)).map λk=>(bs.drop (64*k)).take 64
def jX(bs:L8):List L8:=jt bs++gT (bs.drop (64*(bs.length / 64))) (BitVec.ofInt 64 bs.length)
theorem kV(bs:L8):(jt bs).length=bs.length / 64:=by simp[jt]
theorem EG(bs:L8)(k:Nat)(h:k<bs.length / 64):((jX bs).map enc)[k]? =some (enc ((bs.drop (64*k)).take 64)):=by
 rw[List.getElem?_map,jX,List.getElem?_append_left (by rw[kV];exact h)]
 simp[jt,h]
theorem CO(bs:L8)(j:Nat)(bl:L8)(h:(gT (bs.drop (64*(bs.length / 64))) (BitVec.ofInt 64 bs.length))[j]? =some bl):((jX bs).map enc)[bs.length / 64+j]? =some (enc bl):=by
 rw[List.getElem?_map,jX,List.getElem?_append_right (by rw[kV];omega),kV,Nat.add_sub_cancel_left,h]
 rfl
theorem mS(bs:L8):(bs.drop (64*(bs.length / 64))).length<64:=by simp;omega
theorem s4(bs:L8): ∀bl∈jX bs,bl.length=64:=by
 intro bl h;rcases List.mem_append.1 h with h|h
 ·obtain ⟨k,hk,rfl⟩:=List.mem_map.1 h
  have:=List.mem_range.1 hk;simp;omega
 ·exact nT _ _ (mS bs) bl h
def lnK(n:Nat):Nat->Nat
 |0=>n
 |k+1=>lnK n k-64
theorem sF(n:Nat): ∀k,lnK n k=n-64*k
 |0=>by simp[lnK]
 |k+1=>by simp[lnK,sF n k];omega
def avK(a:Option Addr)(cap:Nat):Nat->Option Addr
 |0=>a
 |k+1=>if lnK cap k=64 then avK a cap k else (avK a cap k).map (·.add (64*1))
theorem np{w:World}{a:Option Addr}{cap:Nat}{bs:L8}(h:BytesAt w a bs)(hc:bs.length<=cap): ∀k,BytesAt w (avK a cap k) (bs.drop (64*k))
 |0=>by simpa [avK]using h
 |k+1=>by
  have:=(np h hc k).drop (cap:=lnK cap k) (l:=64) (by rw[sF];simp;omega) om
  rw[List.drop_drop,show 64*k+64=64*(k+1)from by omega]at this
  exact this
def G5(bb:Nat)(a:Option Addr)(cap:Nat)(bs:L8):Cls:=λW=>W.cell? ⟨bb,0,none⟩=some (.slice a bs.length cap)/\BytesAt W a bs
theorem rK(sv:Value)(n:BitVec 64)(hs:sv.cells= #[sv])(w:World)(hw:Gt w):CLS 208 [sv,U64 n].toArray w (λe w'=> ∃b2 b3,e=.returned (.func (.func 238) #[] #[pnt b2,pnt b3])/\Grow w w'/\w.heap.size<=b2/\w.heap.size<=b3/\b2≠b3/\OwnB w' b2 [sv] 123/\OwnB w' b3 [U64 n] 22):=by
 refine Hf func208 O hw<|λhGF=>Xp<|gH 2 hGF O O O<|λb2=>gH 3 hGF O O O<|λb3=>Asg O<|aa<|Xp<|dV O O O O<|Asg O<|aa<|ao<|Rr<|?_;exact ar O O (λw hw=>⟨b2,b3,rfl,ae hw,(hw.own 2 b2 _ _ O).2.elim id False.elim,(hw.own 3 b3 _ _ O).2.elim id False.elim,(λe=>by subst e;exact absurd (hw.inj 2 3 _ _ _ _ _ O O) aC),(by have:=(hw.own 2 b2 _ _ O).1;rw[hs]at this;exact this),(hw.own 3 b3 _ _ O).1⟩)
theorem sp(sv:Value)(hs:sv.cells= #[sv])(w:World)(hw:Gt w):CLS 185 [sv].toArray w (λe w'=> ∃b1,e=.returned (.func (.func 207) #[] #[pnt b1])/\Grow w w'/\w.heap.size<=b1/\OwnB w' b1 [sv] 123):=by
 refine Hf func185 O hw<|λhGF=>Xp<|gH 1 hGF O O O<|λb1=>Asg O<|aa<|Xp<|dV O O O O<|Asg O<|aa<|ao<|Rr<|?_;exact ar O O (λw hw=>⟨b1,rfl,ae hw,(hw.own 1 b1 _ _ O).2.elim id False.elim,(by have:=(hw.own 1 b1 _ _ O).1;rw[hs]at this;exact this)⟩)
theorem oe{n m:Nat}{b1 b2:Nat}{c1 c2:List Value}{t1 t2:TypeId}(hne:b1≠b2): ∀i j b c t c' t',lkB [(n,b1,c1,t1),(m,b2,c2,t2)] i=some (b,c,t)->lkB [(n,b1,c1,t1),(m,b2,c2,t2)] j=some (b,c',t')->i=j:=by
 intro i j b c t c' t' h1 h2;rcases bx h1 with ⟨e1,x1⟩|⟨_,h1⟩<;>rcases bx h2 with ⟨e2,x2⟩|⟨_,h2⟩
 ·exact e1.trans e2.symm
 ·rcases bx h2 with ⟨_,x2⟩|⟨_,h2⟩
  ·cases x1;cases x2;exact (hne O).elim
  ·cases h2
 ·rcases bx h1 with ⟨_,x1⟩|⟨_,h1⟩
  ·cases x1;cases x2;exact (hne O).elim
  ·cases h1
 ·rcases bx h1 with ⟨e1,x1⟩|⟨_,h1⟩
  ·rcases bx h2 with ⟨e2,x2⟩|⟨_,h2⟩
   ·exact e1.trans e2.symm
   ·cases h2
  ·cases h1
theorem u5(bb:Nat)(a:Option Addr)(cap:Nat)(bs:L8)(hcap:bs.length<=cap):jH prog Gt 207 [pnt bb] ((jX bs).map enc) (G5 bb a cap bs):=by
 intro l J Jx hJ hJx hRd hGx hY w hj;have okJ: ∀k,BOk Gt (Bi w (λY=>J Y k)):=λk=>⟨λ_ _ _ h=>(hRd _ _ _ h.rid).1,hJ k⟩;have okX: ∀k,BOk Gt (Bi w (λY=>Jx Y k)):=λk=>⟨λ_ _ _ h=>hGx _ _ _ h.rid,hJx k⟩;have c1: ∀k L w',Hp (Bi w (λY=>J Y k)) L w'->G5 bb a cap bs w':=λk L w' h=>(hRd _ _ _ h.rid).2;refine fc (G:=Gt) func207 O O (Hp (Bi w (λY=>J Y 0)) []) (cO (Bi w _) hj (hJ 0)) (aU (okJ 0))<|am (E:=EE [208])<|gH 2 (okJ _) O O O<|λb2=>aa<|am (E:=EE [208])<|aT O isAgg123 (λw h=>(c1 _ _ w h).1) O O<|Asg O<|aa<|ah<|au<|j0 (ι:={k:Nat // k<=bs.length / 64}) (λx=>[(3,.slice (avK a cap x.1) (lnK bs.length x.1) (lnK cap x.1)),(1,pnt bb),(2,pnt b2)]) (λx=>Bi w (λY=>J Y x.1)) (λx=>[(2,b2,[.func (.yield l) #[] #[]],273)]) (λx=>bs.length / 64-x.1) ⟨0,om⟩ (λ_=>okJ _) O trv trv<|?_;rintro ⟨k,hk⟩;dsimp only;have hln:=sF bs.length k;have hlc:=sF cap k;refine ah<|am (E:=EE [208])<|Mv O<|bB O (λ_=>aO underlying123 _ _ _ _) O O<|Bnr O O (λ_=>cQ _ _ _)<|aa<|?_;refine cx O (λhc=> ?_) (λhc=> ?_)
 ·simp only[decide_eq_true_eq]at hc
  refine aw<|au<|am (E:=EE [208])<|Al 4 (okJ _) zv203<|λb4=>aa<|am (E:=EE [208])<|ct (l:=0) (h':=64) O underlying203 sizeOf5 O O om om O O<|Mv O<|ek (cs:=(bs.drop (64*k)).take 64) 4 (okJ _) O O O underlying123 ug (by show _=Nat.min (lnK bs.length k) 64;rw[show Nat.min (lnK bs.length k) 64=64 from Nat.min_eq_right om];simp;omega) (λw h=>(np (c1 _ _ w h).2 hcap k).take 64) (by simp;omega) O O<|?_
  rw[dp _ _ (by simp;omega)]
  refine aa<|ah<|am (E:=EE [208])<|aV 2 O O O isAgg273 O O<|Lw 4 O O qL (by rw[show ((bs.drop (64*k)).take 64).length=64 from (by simp;omega)])<|?_
  refine e5 (hY.b (k:=k) (EG bs k om) w) (okJ _) (okX _) O O O O O ?_ ?_
  ·refine bV O (λ_=>bP _) O O<|aa<|aH O<|aw<|cv (E:=EE [208])<|Mv O<|eG (l:=64) (h':=lnK bs.length k) O underlying123 sizeOf5 O O om O O<|Asg O<|aa<|?_
   repeat (refine bh ?_)
   exact aY<|⟨rfl,⟨k+1,om⟩,_,by show bs.length / 64-(k+1)<bs.length / 64-k;omega,rfl,trv,trv⟩
  ·refine bV O (λ_=>bP _) O O<|aa<|aQ O<|ao<|Rr<|?_
   exact se (.inl O) (em O (λw hw=>⟨⟨_,rfl⟩,.inr ⟨_,di (hJx _) hw.rid⟩⟩))
 ·obtain rfl:k=bs.length / 64:=by simp at hc;omega
  refine bv<|am (E:=EE [208])<|Mv O<|aT O isAgg123 (λw h=>(c1 _ _ w h).1) O O<|bB O (λ_=>aO underlying123 _ _ _ _) O O<|bI O O (λ_=>dg underlying3 underlying22 _) O O<|?_;refine cn O O ent208 O O (λw' hw'=>(rK _ _ O w' ((okJ _).g _ _ _ hw')).mono λe w'' h=> ?_);obtain ⟨c2,c3,rfl,hgr,h2,h3,hne,hc2,hc3⟩:=h;refine ⟨_,_,rfl,aU (okJ _),hw'.news (hJ _) hgr [(31,c2,[.slice (avK a cap (bs.length / 64)) (lnK bs.length (bs.length / 64)) (lnK cap (bs.length / 64))],123),(32,c3,[U64 (BitVec.ofInt 64 bs.length)],22)] ?_ ?_, ?_⟩
  ·intro n b c t hl
   rcases bx hl with ⟨_,e⟩|⟨_,hl⟩
   ·cases e;exact ⟨h2,hc2⟩
   ·rcases bx hl with ⟨_,e⟩|⟨_,hl⟩
    ·cases e;exact ⟨h3,hc3⟩
    ·cases hl
  ·exact oe hne
  refine aa<|au<|?_;have hrl:lnK bs.length (bs.length / 64)=(bs.drop (64*(bs.length / 64))).length:=by rw[hln];simp
  refine j1 (λj=>Bi w (λY=>J Y (bs.length / 64+j))) (λ_ j=>Bi w (λY=>Jx Y (bs.length / 64+j))) (λ_=>okJ _) (λ_ _=>okX _) (λ_=>rfl) (λ_ _=>rfl) O O ent238 (Eg c2 c3 (avK a cap (bs.length / 64)) (lnK cap (bs.length / 64)) (bs.drop (64*(bs.length / 64))) (BitVec.ofInt 64 bs.length) (mS bs)) (by simp[enc]) O (λ_=>[(2,b2,[.func (.yield l) #[] #[]],273),(31,c2,[.slice (avK a cap (bs.length / 64)) (lnK bs.length (bs.length / 64)) (lnK cap (bs.length / 64))],123),(32,c3,[U64 (BitVec.ofInt 64 bs.length)],22)]) (λc _ _=>c=.ret) trv (λj Y w' h=>⟨by rw[<-hrl];exact dC (n:=31) O O w' h,dC (n:=32) O O w' h,np (hRd _ _ _ h.rid).2.2 hcap _⟩) ?_ ?_ ?_
  ·intro j x hx R hR
   obtain ⟨bl,hbl,rfl⟩: ∃bl,(gT (bs.drop (64*(bs.length / 64))) (BitVec.ofInt 64 bs.length))[j]? =some bl/\enc bl=x:=by rw[List.getElem?_map]at hx;simpa using hx
   have hb64:bl.length=64:=nT _ _ (mS bs) bl (List.mem_of_getElem? hbl);refine cv (E:=EE [208])<|iM 5 (hR (Bi w (λY=>J Y (bs.length / 64+j))) O (okJ _)).1 zv203 O O<|λb5=>ai 5 (hR (Bi w (λY=>J Y (bs.length / 64+j))) O (okJ _)).1 O O O sizeOf203 (by rw[List.length_map,hb64]) (by rw[List.length_map,List.length_replicate]) (bg _) O<|aa<|?_
   refine ⟨rfl,_,rfl, ?_⟩;refine au<|am (E:=EE [208])<|aV 2 O O O isAgg273 O O<|Lw 5 O O qL hb64<|?_;refine e5 ((hY.b (k:=bs.length / 64+j) (CO bs j bl hbl) w).br R.l R.D R.rb R.Y R.W) (hR (Bi w (λY=>J Y (bs.length / 64+j+1))) O (okJ _)).2.1 (hR (Bi w (λY=>Jx Y (bs.length / 64+j+1))) O (okX _)).2.1 O O O O O ?_ ?_
   ·exact bV O (λ_=>bP _) O O<|aa<|aH O<|aw<|⟨_,rfl,trv⟩
   ·refine bV O (λ_=>bP _) O O<|aa<|aQ O<|ao<|Rr<|?_
    exact ⟨_,rfl,rfl⟩
  ·intro D _
   refine iD (.inr O) (hJ _) (em O (λw hw=>⟨⟨_,rfl⟩,.inl ?_⟩));have:=di (hJ _) hw.rid;rw[show ((jX bs).map enc).length=bs.length / 64+((gT (bs.drop (64*(bs.length / 64))) (BitVec.ofInt 64 bs.length)).map enc).length from by simp[jX,kV]]
   exact this
  ·intro D c j L' _ hc
   subst hc;exact iD (.inl O) (hJx _) (em O (λw hw=>⟨⟨_,rfl⟩,.inr ⟨_,di (hJx _) hw.rid⟩⟩))
end Sh
end
section
open Go.RowKit
namespace Sh
def kh(st:Lz3)(bls:List L8):Nat->Lz3
 |0=>st
 |k+1=>comp (kh st bls k) (bls.getD k [])
theorem qg(st:Lz3)(bl:L8):(comp st bl).length=8:=rfl
theorem ia(st:Lz3)(bls:List L8)(h:st.length=8): ∀k,(kh st bls k).length=8
 |0=>h
 |_+1=>qg _ _
theorem xM(st:Lz3)(hs:st.length=8)(gf:Nat)(caps:List Value)(bls:List L8)(hb: ∀bl∈bls,bl.length=64)(Rd:Cls)(he:aL prog gf)(hseq:jH prog Gt gf caps (bls.map enc) Rd)(w:World)(hw:Gt w)(hRs: ∀w',Grow w w'->Rd w'):
 CLS 183 [.agg (st.map U32).toArray,.func (.func gf) #[] caps.toArray].toArray w (λe w'=>e=.returned (.agg ((kh st bls bls.length).map U32).toArray)/\Grow w w'):=by
 have hGF:BOk Gt (pl w):=gt_low.plain hw;refine fc (G:=Gt) func183 O O (Hp (pl w) []) (cO (pl w) trivial aJ) (aU hGF)<|Xp<|Bx 2 hGF O<|λb2=>Al 4 hGF zv155<|λb4=>aa<|ah<|Xp<|Mv O<|aa<|au<|?_;refine j1 (λ_=>pl w) (λ_ _=>pl w) (λ_=>hGF) (λ_ _=>hGF) (λ_=>rfl) (λ_ _=>rfl) O O he hseq (by simp[enc]) O (λk=>[(2,b2,(kh st bls k).map U32,155),(4,b4,(List.replicate 8 0#32).map U32,155)]) (λ_ _ _=>False) trv (λ_ _ w' h=>hRs w' (h.below (λ_ h=>h))) ?_ ?_ (λ_ _ _ _ _ h=>h.elim)
 ·intro k x hx R hR
  obtain ⟨hk,rfl⟩:k<bls.length/\enc (bls.getD k [])=x:=by
   rw[List.getElem?_map]at hx;rcases Nat.lt_or_ge k bls.length with h|h
   ·simp[h]at hx;exact ⟨h,by simpa [h]using hx⟩
   ·simp[h]at hx
  have hb64:(bls.getD k []).length=64:=hb _ (by rw[show bls.getD k []=bls[k]from by simp[hk]];exact List.getElem_mem hk)
  refine Xq<|iM 5 (hR (pl w) O hGF).1 zv203 O O<|λb5=>ai 5 (hR (pl w) O hGF).1 O O O sizeOf203 (by rw[List.length_map,hb64]) (by rw[List.length_map,List.length_replicate]) (bg _) O<|aa<|?_
  refine ⟨rfl,_,rfl, ?_⟩;exact au<|Xq<|Lw 2 O O qP (by rw[ia st bls hs])<|Lw 5 O O qL hb64<|Ca O (xO _ _ (ia _ _ hs _) hb64)<|ai 2 (hR (pl w) O hGF).2.1 O O O sizeOf155 (by rw[List.length_map,qg]) (by rw[List.length_map,ia st bls hs]) (gU _) O<|aa<|⟨_,rfl,trv⟩
 ·intro D hD
  refine Xp<|Lw 2 O O qP (by rw[ia st bls hs])<|Sx 4 hD O O O qP (by rw[ia st bls hs]) (gU _)<|aa<|ao<|Rr<|?_
  refine iD (.inl O) aJ (aF 4 O O O isAgg155 sizeOf155 (by rw[List.length_map,ia st bls hs]) (λw hw=>⟨?_,ae hw⟩))
  rw[List.length_map]
def SHA(bs:L8):L8:=DG (kh IV (jX bs) (jX bs).length) 8
theorem mH(bs:L8):(SHA bs).length=32:=fG _ 8
theorem cE{n:Nat}{b1:Nat}{c1:List Value}{t1:TypeId}: ∀i j b c t c' t',lkB [(n,b1,c1,t1)] i=some (b,c,t)->lkB [(n,b1,c1,t1)] j=some (b,c',t')->i=j:=by
 intro i j b c t c' t' h1 h2;rcases bx h1 with ⟨e1,x1⟩|⟨_,h1⟩
 ·rcases bx h2 with ⟨e2,x2⟩|⟨_,h2⟩
  ·exact e1.trans e2.symm
  ·cases h2
 ·cases h1
theorem yT(a:Option Addr)(cap:Nat)(bs:L8)(hcap:bs.length<=cap)(w:World)(hw:Gt w)(hby:BytesAt w a bs):
 CLS 150 [.slice a bs.length cap].toArray w (λe w'=>e=.returned (.agg ((SHA bs).map U8).toArray)/\Grow w w'):=by
 refine Hf func150 O hw<|λhGF=>am (E:=EE [183,185])<|Al 2 hGF zv27<|λb2=>aa<|am (E:=EE [183,185])<|Ca O (vM)<|Mv O<|?_;refine cn O O ent185 O O (λw' hw'=>(sp _ O w' (hGF.g _ _ _ hw')).mono λe w'' h=> ?_);obtain ⟨c1,rfl,hgr,h1,hc1⟩:=h;refine ⟨_,_,rfl,aU hGF,hw'.news aJ hgr [(26,c1,[.slice a bs.length cap],123)] ?_ ?_, ?_⟩
 ·intro n b c t hl
  rcases bx hl with ⟨_,e⟩|⟨_,hl⟩
  ·cases e;exact ⟨h1,hc1⟩
  ·cases hl
 ·exact cE
 refine cn O O ent183 O O (λw' hw'=>(xM IV O 207 [pnt c1] (jX bs) (s4 bs) (G5 c1 a cap bs) ent207 (u5 c1 a cap bs hcap) w' (hGF.g _ _ _ hw') ?_).mono λe w'' h=> ?_)
 ·intro w3 hg3
  have hx:=hw'.grow aJ hg3;exact ⟨dC (n:=26) O O w3 hx,hby.grow (hx.below (λ_ h=>h))⟩
 obtain ⟨rfl,hgr⟩:=h;refine ⟨_,_,rfl,aU hGF,hw'.grow aJ hgr, ?_⟩;refine Ca O (tu _ (ia _ _ O _))<|Sx 2 hGF O O O rM (fG _ _) (bg _)<|aa<|ao<|Rr<|?_;exact aF 2 O O O isAgg27 sizeOf27 (by rw[List.length_map,fG]) (λw hw=>⟨rfl,ae hw⟩)
end Sh
end
section
open Go.RowKit
namespace Sh
def hc(st:Lz3)(rs:L8)(n:BitVec 64):List Value:=st.map U32++(rs.map U8++[U64 n])
section
variable {st st':Lz3} {rs rs':L8} {n m:BitVec 64}
end
def tl(T:L8):L8:=T.drop (64*(T.length / 64))
theorem z8(T:L8):(tl T).length=T.length % 64:=by simp[tl];omega
def tU(rs:L8):L8:=rs++List.replicate (64-rs.length) 0#8
def full(T:L8):Lz3:=kh IV (jt T) (T.length / 64)
structure HInv(T:L8)(st:Lz3)(rs:L8)(n:BitVec 64):Prop where
 len:T.length<9223372036854775808
 st8:st.length=8
 rest:rs=tU (tl T)
 num:n=BitVec.ofNat 64 T.length
 state:64<=T.length->st=full T
theorem HInv.zero:HInv [] (List.replicate 8 0#32) (List.replicate 64 0#8) 0:=⟨aB,aB,by simp[tU,tl],rfl,λh=>by simp at h⟩
theorem HInv.toNat{T:L8}{st:Lz3}{rs:L8}{n:BitVec 64}(h:HInv T st rs n):n.toNat=T.length:=by
 have:=h.len;rw[h.num,BitVec.toNat_ofNat];omega
theorem lA(st:Lz3)(a b:List L8): ∀k,(∀i,i<k->a.getD i []=b.getD i [])->kh st a k=kh st b k
 |0,_=>rfl
 |k+1,h=>by rw[kh,kh,lA st a b k (λi hi=>h i om),h k om]
theorem HInv.part{T:L8}{st:Lz3}{rs:L8}{n:BitVec 64}(h:HInv T st rs n)(xs:L8)(hx:T.length % 64+xs.length<64)(hl:(T++xs).length<9223372036854775808):
 HInv (T++xs) st (rs.take (T.length % 64)++xs++rs.drop (T.length % 64+xs.length)) (n+BitVec.ofInt 64 xs.length):=by
 have hd:(T++xs).length / 64=T.length / 64:=by simp;omega
 have ht:tl (T++xs)=tl T++xs:=by
  unfold tl;rw[hd,List.drop_append_of_le_length om]
 refine ⟨hl,h.st8, ?_, ?_,λh64=> ?_⟩
 ·have e:=z8 T
  rw[h.rest,ht,tU,tU];rw[List.take_append_of_le_length om,List.take_of_length_le om,List.drop_append,List.drop_eq_nil_of_le om];simp only[List.nil_append,List.append_assoc,List.drop_replicate,List.length_append];congr 3;omega
 ·apply BitVec.eq_of_toNat_eq
  rw[BitVec.toNat_add,h.toNat,BitVec.ofInt_natCast,BitVec.toNat_ofNat,BitVec.toNat_ofNat];simp
 ·have h64':64<=T.length:=by simp at h64;omega
  rw[h.state h64',full,full,hd];refine lA _ _ _ _ (λi hi=> ?_);have h1:i<T.length / 64:=hi;have h2:i<(T++xs).length / 64:=om;have e1:(jt T).getD i []=(T.drop (64*i)).take 64:=by simp[jt,h1]
  have e2:(jt (T++xs)).getD i []=((T++xs).drop (64*i)).take 64:=by
   unfold jt;simp[-List.length_append,h2]
  rw[e1,e2,List.drop_append_of_le_length om,List.take_append_of_le_length (by simp;omega)]
theorem HInv.fill{T:L8}{st:Lz3}{rs:L8}{n:BitVec 64}(h:HInv T st rs n)(xs:L8)(hx:T.length % 64+xs.length=64)(hl:(T++xs).length<9223372036854775808):
 HInv (T++xs) (comp (full T) (rs.take (T.length % 64)++xs++rs.drop (T.length % 64+xs.length))) (List.replicate 64 0#8) (n+BitVec.ofInt 64 xs.length):=by
 have hd:(T++xs).length / 64=T.length / 64+1:=by simp;omega
 have ht:tl (T++xs)=[]:=by
  unfold tl;rw[hd];apply List.drop_eq_nil_of_le;simp;omega
 refine ⟨hl,qg _ _,by rw[ht];rfl, ?_,λ_=> ?_⟩
 ·apply BitVec.eq_of_toNat_eq
  rw[BitVec.toNat_add,h.toNat,BitVec.ofInt_natCast,BitVec.toNat_ofNat,BitVec.toNat_ofNat];simp
 ·rw[full,full,hd,kh]
  have e2: ∀i,i<(T++xs).length / 64->(jt (T++xs)).getD i []=((T++xs).drop (64*i)).take 64:=λi hi=>by
   unfold jt;simp[-List.length_append,hi]
  congr 1
  ·refine lA _ _ _ _ (λi hi=> ?_)
   have e1:(jt T).getD i []=(T.drop (64*i)).take 64:=by simp[jt,hi]
   rw[e1,e2 i om,List.drop_append_of_le_length om,List.take_append_of_le_length (by simp;omega)]
  ·have e:=z8 T
   rw[e2 _ om,h.rest,tU,List.take_append_of_le_length om,List.take_of_length_le om,List.drop_append,List.drop_eq_nil_of_le om];rw[List.drop_append_of_le_length om,show T.drop (64*(T.length / 64))=tl T from O,List.take_of_length_le (by simp;omega)]
   simp;omega
end Sh
end
section
open Go.RowKit
namespace Sh
theorem yV{w:World}{b:Nat}{c:List Value}{t:TypeId}(h:OwnB w b c t){o:Nat}{cs:List Value}(hc: ∀j v,cs[j]? =some v->c[o+j]? =some v):w.rangeAt b o cs:=λj v hv=>(h.cell (o+j)).trans (hc j v hv)
end Sh
end
section
open Go.RowKit
namespace Sh
end Sh
end
section
open Go.RowKit
namespace Sh
theorem Ej(a b:L8)(ha:a.length=32)(hb:b.length=32):lay 32 (b.map U8) ((a++List.replicate (64-a.length) 0#8).map U8)=(a++b).map U8:=by
 rw[iy _ _ _ (by simp[ha,hb])]
 simp[ha,hb]
theorem k9(a b:L8)(ha:a.length=32)(hb:b.length=32):PUR 118 [.agg (a.map U8).toArray,.agg (b.map U8).toArray] (.agg ((SHA (a++b)).map U8).toArray):=by
 intro w hw;have hGF:BOk Gt (pl w):=gt_low.plain hw;have hab:(a++b).length=64:=by simp[ha,hb]
 refine Hqd func118 O hGF<|Xp<|Bx 2 hGF O<|λb2=>Bx 3 hGF O<|λb3=>Al 4 hGF zv27<|λb4=>aa<|Xp<|Al 5 hGF zv203<|λb5=>aa<|Xd []<|ct (l:=0) (h':=32) O underlying203 sizeOf5 O O om om O O<|ct (l:=0) (h':=32) O underlying27 sizeOf5 O O om om O O<|ek (cs:=a) 5 hGF O O O underlying123 ug (by rw[ha];rfl) (λw' h=>BytesAt.range (av (n:=2) O w' h)) (by rw[ha,List.length_map,List.length_replicate];decide) O O<|?_
 rw[kU a 64 (by rw[ha];decide)]
 refine aa<|Xd []<|ct (l:=32) (h':=64) O underlying203 sizeOf5 O O om om O O<|ct (l:=0) (h':=32) O underlying27 sizeOf5 O O om om O O<|ek (cs:=b) 5 hGF O O O underlying123 ug (by rw[hb];rfl) (λw' h=>BytesAt.range (av (n:=3) O w' h)) (by rw[hb];simp[ha]) O O<|?_
 rw[Ej a b ha hb];refine aa<|Xp<|ct (l:=0) (h':=64) O underlying203 sizeOf5 O O om om O O<|Cc O ent150 (λw' hw' hG=>by have:=yT (spt b5) 64 (a++b) (by rw[hab];decide) w' hG (BytesAt.range (av (n:=5) O w' hw'));rw[hab]at this;exact this)<|Sx 4 hGF O O O rM (mH _) (bg _)<|aa<|ao<|Rr<|?_
 exact aF 4 O O O isAgg27 sizeOf27 (by rw[List.length_map,mH]) (λw hw=>⟨rfl,ae hw⟩)
theorem ti5:TI prog 5 (.int .u8 0) 1 1:=lN kr
def Cln(w w':World)(bs:L8)(sv:Value):Prop:=
 (bs=[]/\sv=.slice none 0 0)\/∃b c cap1,sv=.slice (spt b) bs.length cap1/\w.heap.size<=b/\OwnB w' b c 5/\c.length=cap1/\bs.length<=cap1/\c.take bs.length=bs.map U8
theorem Cln.cells{w w':World}{bs:L8}{sv:Value}(h:Cln w w' bs sv):sv.cells= #[sv]:=by
 rcases h with ⟨_,rfl⟩|⟨_,_,_,rfl,_⟩<;>rfl
end Sh
end
section
open Go.RowKit
namespace Sh
def PD(bs:L8)(k:Nat):L8:=bs++([128#8]++List.replicate k 0#8)
theorem xl(bs:L8)(k:Nat):PD bs k++[0#8]=PD bs (k+1):=by
 simp[PD,List.replicate_succ']
theorem uN(bs:L8)(k:Nat):(PD bs k).length=bs.length+1+k:=by simp[PD];omega
def nz(bs:L8):Nat:=(120-(bs.length+1) % 64) % 64
def nb(n:BitVec 64)(j:Nat):BitVec 8:=(n>>>(8*(7-(j:Int))).toNat).setWidth 8
def PE(bs:L8)(n:BitVec 64):Nat->L8
 |0=>PD bs (nz bs)
 |j+1=>PE bs n j++[nb n j]
theorem mU(bs:L8)(n:BitVec 64): ∀j,(PE bs n j).length=bs.length+1+nz bs+j
 |0=>uN bs _
 |j+1=>by rw[PE,List.length_append,mU bs n j];rfl
def PAD(bs:L8):L8:=PE bs (BitVec.ofInt 64 bs.length*8#64) 8
structure PdSt(bs:L8) where
 (k b:Nat) (c:List Value)
 hk:k+(120-(bs.length+1+k) % 64) % 64=nz bs
 h1:(PD bs k).length<=c.length
 h2:c.take (PD bs k).length=(PD bs k).map U8
structure PeSt(bs:L8)(n:BitVec 64) where
 (j b:Nat) (c:List Value)
 hj:j<=8
 h1:(PE bs n j).length<=c.length
 h2:c.take (PE bs n j).length=(PE bs n j).map U8
theorem yx(a:Option Addr)(cap:Nat)(bs:L8)(hl:bs.length<=70368744170000)(w:World)(hw:Gt w)(hby:BytesAt w a bs):
 CLS 145 [.slice a bs.length cap].toArray w (λe w'=> ∃sv,e=.returned sv/\Grow w w'/\Cln w w' (PAD bs) sv):=by
 refine Hf func145 O hw<|λhGF=>Xp<|Asg O<|aa<|Xp<|Mv O<|?_;refine eo (xs:=[]) (ys:=bs) 3 hGF O O underlying123 underlying123 ti5 (kT _ _ _) (λw' h=>hby.grow (ae h)) (by simpa using Nat.le_trans hl aC) O O (λh0=> ?_) (λb7 c7 cap7 e7 l7 t7=> ?_)
 ·have hbs:bs=[]:=h0
  subst hbs;clear h0;refine jz 8 [128#8] hGF O O O aC aC underlying123 sizeOf5 zeroValue5 O O ?_;intro b8;refine eo (xs:=[]) (ys:=[128#8]) 3 hGF O O underlying123 underlying123 ti5 (kT _ _ _) (λw' h=>BytesAt.range (av (n:=8) O w' h)) aC O O (λh0=> ?_) (λb9 c9 cap9 e9 l9 t9=> ?_)
  ·simp at h0
  subst e9;refine Asg O<|aa<|ah<|au<|bW (ι:=PdSt ([]:L8)) (λx=>[(0,.slice a (List.length ([]:L8)) cap),(3,.slice (spt x.b) (PD ([]:L8) x.k).length x.c.length)]) (λx=>[(3,x.b,x.c,5)]) (λx=>nz ([]:L8)-x.k) ⟨0,b9,c9,by unfold nz;rw[Nat.zero_add,Nat.add_zero],l9,t9⟩ hGF trv trv<|?_
  intro x;have hk:=x.hk;have hln:=uN ([]:L8) x.k;clear l9 t9;refine ah<|Xp<|Mv O<|bB O (λ_=>aO underlying123 _ _ _ _) O O<|dv (v:=I (((PD ([]:L8) x.k).length % 64:Nat):Int)) O O (λ_=>rfl) (λ_=>eu _ _ _ aC) O O<|Bnr O O (λ_=>cJ _ _ _)<|aa<|?_;refine cx O (λhc=> ?_) (λhc=> ?_)
  ·have hne:(PD ([]:L8) x.k).length % 64≠56:=by have:=bne_iff_ne.1 hc;omega
   refine aw<|au<|Xq<|Mv O<|jz 15 [0#8] hGF O O O aC aC underlying123 sizeOf5 zeroValue5 O O<|?_;intro b15;refine eo (xs:=PD ([]:L8) x.k) (ys:=[0#8]) 3 hGF O O underlying123 underlying123 ti5 (.inr ⟨x.b,x.c,rfl,rfl,rfl,x.h1,x.h2⟩) (λw' h=>BytesAt.range (av (n:=15) O w' h)) (by show (PD ([]:L8) x.k).length+1<=_;rw[hln];unfold nz at hk;omega) O O (λh0=> ?_) (λb16 c16 cap16 e16 l16 t16=> ?_)
   ·simp at h0
   subst e16;rw[xl]at l16 t16⊢;refine Asg O<|aa<|?_
   repeat (refine bh ?_)
   exact aY<|⟨rfl,⟨x.k+1,b16,c16,by unfold nz at hk⊢;omega,l16,t16⟩,_,by show nz ([]:L8)-(x.k+1)<nz ([]:L8)-x.k;unfold nz at hk⊢;omega,rfl,trv,trv⟩
  ·obtain ⟨k,bb,cc,hk',h1,h2⟩:=x
   dsimp only at hc hk hln⊢;obtain rfl:k=nz ([]:L8):=by
    have:=bne_eq_false_iff_eq.1 hc;unfold nz at hk⊢;omega
   clear hc hk hln hk';refine bv<|Xp<|Mv O<|bB O (λ_=>aO underlying123 _ _ _ _) O O<|bI O O (λ_=>dg underlying3 underlying22 _) O O<|Bnr O O (λ_=>cy _ _ _)<|Asg O<|aa<|ah<|Xp<|Asg O<|aa<|au<|bW (ι:=PeSt ([]:L8) (BitVec.ofInt 64 (List.length ([]:L8))*8#64)) (λy=>[(3,.slice (spt y.b) (PE ([]:L8) (BitVec.ofInt 64 (List.length ([]:L8))*8#64) y.j).length y.c.length),(4,U64 (BitVec.ofInt 64 (List.length ([]:L8))*8#64)),(5,I (7-(y.j:Int)))]) (λy=>[(3,y.b,y.c,5)]) (λy=>8-y.j) ⟨0,bb,cc,aC,h1,h2⟩ hGF trv trv<|?_;clear h1 h2;intro x;have hj:=x.hj;refine ah<|Xp<|Mv O<|Bnr O O (λ_=>cQ _ _ _)<|aa<|?_;refine cx O (λhc=> ?_) (λhc=> ?_)
   ·simp only[decide_eq_true_eq]at hc
    refine aw<|ah<|au<|Xq<|Mv O<|Mv O<|Mv O<|Bnr O O (λ_=>bT _ _ _ aG)<|Bnr O O (λ_=>cB _ _ _ om)<|bI O O (λ_=>ci underlying22 underlying5 _) O O<|jz 31 [nb (BitVec.ofInt 64 (List.length ([]:L8))*8#64) x.j] hGF O O O aC aC underlying123 sizeOf5 zeroValue5 O O<|?_;intro b31;refine eo (xs:=PE ([]:L8) (BitVec.ofInt 64 (List.length ([]:L8))*8#64) x.j) (ys:=[nb (BitVec.ofInt 64 (List.length ([]:L8))*8#64) x.j]) 3 hGF O O underlying123 underlying123 ti5 (.inr ⟨x.b,x.c,rfl,rfl,rfl,x.h1,x.h2⟩) (λw' h=>BytesAt.range (av (n:=31) O w' h)) (by show (PE ([]:L8) (BitVec.ofInt 64 (List.length ([]:L8))*8#64) x.j).length+1<=_;rw[mU];unfold nz;omega) O O (λh0=> ?_) (λb32 c32 cap32 e32 l32 t32=> ?_)
    ·simp at h0
    subst e32;refine Asg O<|aa<|Xq<|Mv O<|Bnr O O (λ_=>bC _ _ _ aG)<|Asg O<|aa<|?_
    repeat (refine bh ?_)
    exact aY<|⟨rfl,⟨x.j+1,b32,c32,om,l32,t32⟩,_,by show 8-(x.j+1)<8-x.j;omega,rfl,⟨rfl,rfl,congrArg (λz=>some (I z)) (by show 7-(x.j:Int)-1=7-((x.j+1:Nat):Int);omega),trivial⟩,trv⟩
   ·simp only[decide_eq_false_iff_not]at hc
    refine bv<|Xp<|Mv O<|Asg O<|aa<|ao<|Rr<|?_;have h8:x.j=8:=om;obtain ⟨j,b,c,hj',h1,h2⟩:=x;dsimp only at h8;subst h8;exact ar O O (λw hw=>⟨_,rfl,ae hw,.inr ⟨b,c,_,rfl,(hw.own 3 b _ _ O).2.elim id False.elim,(hw.own 3 b _ _ O).1,rfl,h1,h2⟩⟩)
 ·subst e7
  refine jz 8 [128#8] hGF O O O aC aC underlying123 sizeOf5 zeroValue5 O O ?_;intro b8;refine eo (xs:=bs) (ys:=[128#8]) 3 hGF O O underlying123 underlying123 ti5 (.inr ⟨b7,c7,rfl,rfl,rfl,l7,t7⟩) (λw' h=>BytesAt.range (av (n:=8) O w' h)) (by show bs.length+1<=_;omega) O O (λh0=> ?_) (λb9 c9 cap9 e9 l9 t9=> ?_)
  ·simp at h0
  subst e9;refine Asg O<|aa<|ah<|au<|bW (ι:=PdSt bs) (λx=>[(0,.slice a (List.length bs) cap),(3,.slice (spt x.b) (PD bs x.k).length x.c.length)]) (λx=>[(3,x.b,x.c,5)]) (λx=>nz bs-x.k) ⟨0,b9,c9,by unfold nz;rw[Nat.zero_add,Nat.add_zero],l9,t9⟩ hGF trv trv<|?_
  intro x;have hk:=x.hk;have hln:=uN bs x.k;clear l9 t9;refine ah<|Xp<|Mv O<|bB O (λ_=>aO underlying123 _ _ _ _) O O<|Bnr (v:=I (((PD bs x.k).length % 64:Nat):Int)) O O (λ_=>eu _ _ _ aC)<|Bnr O O (λ_=>cJ _ _ _)<|aa<|?_;refine cx O (λhc=> ?_) (λhc=> ?_)
  ·have hne:(PD bs x.k).length % 64≠56:=by have:=bne_iff_ne.1 hc;omega
   refine aw<|au<|Xq<|Mv O<|jz 15 [0#8] hGF O O O aC aC underlying123 sizeOf5 zeroValue5 O O<|?_;intro b15;refine eo (xs:=PD bs x.k) (ys:=[0#8]) 3 hGF O O underlying123 underlying123 ti5 (.inr ⟨x.b,x.c,rfl,rfl,rfl,x.h1,x.h2⟩) (λw' h=>BytesAt.range (av (n:=15) O w' h)) (by show (PD bs x.k).length+1<=_;rw[hln];unfold nz at hk;omega) O O (λh0=> ?_) (λb16 c16 cap16 e16 l16 t16=> ?_)
   ·simp at h0
   subst e16;rw[xl]at l16 t16⊢;refine Asg O<|aa<|?_
   repeat (refine bh ?_)
   exact aY<|⟨rfl,⟨x.k+1,b16,c16,by unfold nz at hk⊢;omega,l16,t16⟩,_,by show nz bs-(x.k+1)<nz bs-x.k;unfold nz at hk⊢;omega,rfl,trv,trv⟩
  ·obtain ⟨k,bb,cc,hk',h1,h2⟩:=x
   dsimp only at hc hk hln⊢;obtain rfl:k=nz bs:=by
    have:=bne_eq_false_iff_eq.1 hc;unfold nz at hk⊢;omega
   clear hc hk hln hk';refine bv<|Xp<|Mv O<|bB O (λ_=>aO underlying123 _ _ _ _) O O<|bI O O (λ_=>dg underlying3 underlying22 _) O O<|Bnr O O (λ_=>cy _ _ _)<|Asg O<|aa<|ah<|Xp<|Asg O<|aa<|au<|bW (ι:=PeSt bs (BitVec.ofInt 64 bs.length*8#64)) (λy=>[(3,.slice (spt y.b) (PE bs (BitVec.ofInt 64 bs.length*8#64) y.j).length y.c.length),(4,U64 (BitVec.ofInt 64 bs.length*8#64)),(5,I (7-(y.j:Int)))]) (λy=>[(3,y.b,y.c,5)]) (λy=>8-y.j) ⟨0,bb,cc,aC,h1,h2⟩ hGF trv trv<|?_;clear h1 h2;intro x;have hj:=x.hj;refine ah<|Xp<|Mv O<|Bnr O O (λ_=>cQ _ _ _)<|aa<|?_;refine cx O (λhc=> ?_) (λhc=> ?_)
   ·simp only[decide_eq_true_eq]at hc
    refine aw<|ah<|au<|Xq<|Mv O<|Mv O<|Mv O<|Bnr O O (λ_=>bT _ _ _ aG)<|Bnr O O (λ_=>cB _ _ _ om)<|bI O O (λ_=>ci underlying22 underlying5 _) O O<|jz 31 [nb (BitVec.ofInt 64 bs.length*8#64) x.j] hGF O O O aC aC underlying123 sizeOf5 zeroValue5 O O<|?_;intro b31;refine eo (xs:=PE bs (BitVec.ofInt 64 bs.length*8#64) x.j) (ys:=[nb (BitVec.ofInt 64 bs.length*8#64) x.j]) 3 hGF O O underlying123 underlying123 ti5 (.inr ⟨x.b,x.c,rfl,rfl,rfl,x.h1,x.h2⟩) (λw' h=>BytesAt.range (av (n:=31) O w' h)) (by show (PE bs (BitVec.ofInt 64 bs.length*8#64) x.j).length+1<=_;rw[mU];unfold nz;omega) O O (λh0=> ?_) (λb32 c32 cap32 e32 l32 t32=> ?_)
    ·simp at h0
    subst e32;refine Asg O<|aa<|Xq<|Mv O<|Bnr O O (λ_=>bC _ _ _ aG)<|Asg O<|aa<|?_
    repeat (refine bh ?_)
    exact aY<|⟨rfl,⟨x.j+1,b32,c32,om,l32,t32⟩,_,by show 8-(x.j+1)<8-x.j;omega,rfl,⟨rfl,rfl,congrArg (λz=>some (I z)) (by show 7-(x.j:Int)-1=7-((x.j+1:Nat):Int);omega),trivial⟩,trv⟩
   ·simp only[decide_eq_false_iff_not]at hc
    refine bv<|Xp<|Mv O<|Asg O<|aa<|ao<|Rr<|?_;have h8:x.j=8:=om;obtain ⟨j,b,c,hj',h1,h2⟩:=x;dsimp only at h8;subst h8;exact ar O O (λw hw=>⟨_,rfl,ae hw,.inr ⟨b,c,_,rfl,(hw.own 3 b _ _ O).2.elim id False.elim,(hw.own 3 b _ _ O).1,rfl,h1,h2⟩⟩)
end Sh
end
section
open Go.RowKit
namespace Sh
theorem zv158: ∀w,(zeroValue 158).run prog w=.ok (.agg ((List.replicate 72 0#32).map U32).toArray) w:=λ_=>kr
def MK:Lz3:=IV++KW
theorem u4:PUR 97 [] (.tuple #[.agg (IV.map U32).toArray,.agg (KW.map U32).toArray]):=by
 intro w hw;refine Hf func97 O hw<|λhGF=>Xp<|Al 0 hGF zv155<|λb0=>Al 1 hGF zv156<|λb1=>aa<|Xp<|dN (n:=8) O O underlying155 sizeOf154 zeroValue155 O O O O<|dN (n:=64) O O underlying156 sizeOf154 zeroValue156 O O O O<|ai (vs:=IV.map U32) 0 hGF O O O sizeOf155 O (by rw[List.length_map,List.length_replicate]) (gU _) O<|ai (vs:=KW.map U32) 1 hGF O O O sizeOf156 O (by rw[List.length_map,List.length_replicate]) (gU _) O<|aa<|ao<|Rr<|?_
 exact Cj (c1:=IV.map U32) (c2:=KW.map U32) 0 1 O O O O O isAgg155 sizeOf155 O isAgg156 sizeOf156 O (λw hw=>⟨rfl,ae hw⟩)
theorem yh(w:World)(hw:Gt w):CLS 63 [].toArray w (λe w'=> ∃bm,e=.returned (pnt bm)/\Grow w w'/\w.heap.size<=bm/\OwnB w' bm (MK.map U32) 158):=by
 refine Hf func63 O hw<|λhGF=>Xp<|Asg O<|aa<|Xp<|iO zv158 underlying158 (λ_=>⟨#[(0,8),(8,64)],kr⟩) O O<|Bx 3 hGF O<|λb3=>Asg O<|aa<|Xp<|Mv O<|Mv O<|Ca O (u4)<|Mv O<|Exq O O<|Exq O O<|aR O O O<|Fa 0 O underlying158 O sizeOf155<|fZ (vs:=IV.map U32) 3 hGF O O O sizeOf155 O (gU _) aC O<|aR O O O<|Fa 8 O underlying158 O sizeOf156<|fZ (vs:=KW.map U32) 3 hGF O O O sizeOf156 O (gU _) aC O<|?_;rw[show lay 8 (KW.map U32) (lay 0 (IV.map U32) ((List.replicate 72 0#32).map U32))=MK.map U32 from O];refine aa<|Xp<|Mv O<|Asg O<|aa<|ao<|Rr<|?_;exact ar O O (λw hw=>⟨b3,rfl,ae hw,(hw.own 3 b3 _ _ O).2.elim id False.elim,(hw.own 3 b3 _ _ O).1⟩)
end Sh
end
section
open Go.RowKit
set_option maxHeartbeats 2000000
namespace Sh
theorem yS(xs:L8)(tail:List Value)(i:Nat)(h:i<xs.length):(xs.map U8++tail)[i]? =some (U8 (xs.getD i 0)):=by
 rw[List.getElem?_append_left (by simpa using h)]
 exact gm U8 xs 0 i h
def wk(p:L8)(o:Nat)(x:BitVec 32):Nat->BitVec 32
 |0=>x
 |k+1=>(wk p o x k<<<8)|||(p.getD (o+k) 0).setWidth 32
def V1(p:L8)(q:Nat):Nat->Lz3
 |0=>List.replicate 64 0#32
 |i+1=>(V1 p q i).set i (wk p (q+4*i) ((V1 p q i).getD i 0) 4)
theorem nH(p:L8)(q:Nat): ∀i,(V1 p q i).length=64
 |0=>by simp[V1]
 |i+1=>by simp[V1,nH p q i]
theorem BO(l:Lz3)(i:Nat)(h:i<l.length):l=l.set i (l.getD i 0):=by
 have e:l.getD i 0=l[i]:=by simp[h]
 rw[e,List.set_getElem_self]
theorem y5(l:Lz3)(i:Nat)(x:BitVec 32)(h:i<l.length):(l.set i x).getD i 0=x:=by simp[h]
def r0(x:BitVec 32):BitVec 32:=turn x 7^^^turn x 18^^^(x>>>3)
def r1(x:BitVec 32):BitVec 32:=turn x 17^^^turn x 19^^^(x>>>10)
def r5(ws:Lz3)(i:Nat):BitVec 32:=ws.getD (i-16) 0+r0 (ws.getD (i-15) 0)+ws.getD (i-7) 0+r1 (ws.getD (i-2) 0)
def V2(p:L8)(q:Nat):Nat->Lz3
 |0=>V1 p q 16
 |j+1=>(V2 p q j).set (16+j) (r5 (V2 p q j) (16+j))
theorem lF(p:L8)(q:Nat): ∀j,(V2 p q j).length=64
 |0=>nH p q 16
 |j+1=>by simp[V2,lF p q j]
def rt(v:Lz3)(k w:BitVec 32):BitVec 32:=v.getD 7 0+(turn (v.getD 4 0) 6^^^turn (v.getD 4 0) 11^^^turn (v.getD 4 0) 25)+((v.getD 4 0 &&& v.getD 5 0)^^^(~~~(v.getD 4 0) &&& v.getD 6 0))+k+w
def ru(v:Lz3):BitVec 32:=(turn (v.getD 0 0) 2^^^turn (v.getD 0 0) 13^^^turn (v.getD 0 0) 22)+((v.getD 0 0 &&& v.getD 1 0)^^^(v.getD 0 0 &&& v.getD 2 0)^^^(v.getD 1 0 &&& v.getD 2 0))
def rr(v:Lz3)(k w:BitVec 32):Lz3:=[rt v k w+ru v,v.getD 0 0,v.getD 1 0,v.getD 2 0,v.getD 3 0+rt v k w,v.getD 4 0,v.getD 5 0,v.getD 6 0]
def RRs(h ws:Lz3):Nat->Lz3
 |0=>h
 |j+1=>rr (RRs h ws j) (MK.getD (8+j) 0) (ws.getD j 0)
theorem dW(h ws:Lz3)(hh:h.length=8): ∀j,(RRs h ws j).length=8
 |0=>hh
 |_+1=>rfl
def HAs(h v:Lz3):Nat->Lz3
 |0=>h
 |i+1=>(HAs h v i).set i ((HAs h v i).getD i 0+v.getD i 0)
theorem og(h v:Lz3): ∀j,(HAs h v j).length=h.length
 |0=>rfl
 |i+1=>by simp[HAs,og h v i]
def RK(p:L8):Nat->Lz3
 |0=>IV
 |k+1=>HAs (RK p k) (RRs (RK p k) (V2 p (64*k) 48) 64) 8
theorem dz(p:L8): ∀k,(RK p k).length=8
 |0=>rfl
 |k+1=>by rw[RK,og,dz p k]
def OD(h:Lz3):Nat->L8
 |0=>List.replicate 32 0#8
 |i+1=>(OD h i).set i ((h.getD (i / 4) 0>>>(24-8*((i % 4:Nat):Int)).toNat).setWidth 8)
theorem pu(h:Lz3): ∀j,(OD h j).length=32
 |0=>by simp[OD]
 |i+1=>by simp[OD,pu h i]
def CJ(bs:L8):L8:=OD (RK (PAD bs) ((PAD bs).length / 64)) 32
theorem gg:MK.length=72:=rfl
theorem Ei(bs:L8):(PAD bs).length % 64=0:=by
 rw[PAD,mU];unfold nz;omega
theorem vg(bm:Nat)(a:Option Addr)(cap:Nat)(bs:L8)(hl:bs.length<=70368744170000)(w:World)(hw:Gt w)(ho:OwnB w bm (MK.map U32) 158)(hby:BytesAt w a bs):
 CLS 111 [pnt bm,.slice a bs.length cap].toArray w (λe w'=>e=.returned (.agg ((CJ bs).map U8).toArray)/\Grow w w'):=by
 refine Hf func111 O hw<|λhGF=>am (E:=EE [145])<|Al 4 hGF zv27<|λb4=>aa<|am (E:=EE [145])<|Mv O<|aR O O O<|Fa 0 O underlying158 O sizeOf155<|?_;refine az O isAgg155 sizeOf155 (cs:=IV.map U32) O (uv (B:=pl w) (yV ho (λj v hv=>by rw[Nat.zero_add];show (MK.map U32)[j]? =some v;rw[MK,List.map_append,List.getElem?_append_left (by rcases Nat.lt_or_ge j (IV.map U32).length with h|h;exact h;rw[List.getElem?_eq_none h]at hv;cases hv)];exact hv)) (λh=>h)) O O ?_
 refine Al 5 hGF zv155<|λb5=>ai (vs:=IV.map U32) 5 hGF O O O sizeOf155 O (by rw[List.length_map,List.length_replicate]) (gU _) O<|aa<|am (E:=EE [145])<|Mv O<|?_
 refine cn O O ent145 O O (λw' hw'=>(yx _ _ bs hl w' (hGF.g _ _ _ hw') (hby.grow (ae hw'))).mono λe w'' h=> ?_);obtain ⟨sv,rfl,hg,hcl⟩:=h;rcases hcl with ⟨h0,_⟩|⟨b6,c,cap6,rfl,hb6,hob,hcc,hle,htk⟩
 ·exact absurd (congrArg List.length h0) (by rw[PAD,mU];simp)
 have hm64:=Ei bs;have hpl:(PAD bs).length<=bs.length+200:=by rw[PAD,mU];unfold nz;omega
 rw[show CJ bs=OD (RK (PAD bs) ((PAD bs).length / 64)) 32 from O];generalize PAD bs=p at hle htk hm64 hpl⊢;refine ⟨_,_,rfl,aU hGF,hw'.news aJ hg [(6,b6,c,5)] ?_ cE, ?_⟩
 ·intro n' b' c' t' hl
  rcases bx hl with ⟨_,e⟩|⟨_,hl⟩
  ·cases e;exact ⟨hb6,hob⟩
  ·cases hl
 obtain ⟨tail,rfl⟩: ∃tail,c=p.map U8++tail:=⟨c.drop p.length,by rw[<-htk,List.take_append_drop]⟩
 clear hw' hg hb6 hob hcc htk;refine Asg O<|aa<|ah<|am (E:=EE [145])<|Asg O<|aa<|au<|bW (ι:={k:Nat // 64*k<=p.length}) (λx=>[(0,pnt bm),(4,pnt b4),(5,pnt b5),(6,.slice (spt b6) p.length cap6),(7,I ((64*x.1:Nat):Int))]) (λx=>[(4,b4,(List.replicate 32 0#8).map U8,27),(6,b6,p.map U8++tail,5),(5,b5,(RK p x.1).map U32,155)]) (λx=>p.length-x.1) ⟨0,om⟩ hGF trv trv<|?_;rintro ⟨k,hk⟩;dsimp only;refine ah<|am (E:=EE [145])<|Mv O<|Mv O<|bB O (λ_=>aO underlying123 _ _ _ _) O O<|Bnr O O (λ_=>aI _ _ _)<|aa<|?_;refine cx O (λhc=> ?_) (λhc=> ?_)
 ·simp only[decide_eq_true_eq]at hc
  have hk64:64*k+64<=p.length:=om;refine aw<|ah<|au<|am (E:=EE [145])<|Al 8 hGF zv156<|λb8=>aa<|ah<|am (E:=EE [145])<|Asg O<|aa<|au<|bW (ι:={i:Nat // i<=16}) (λx=>[(0,pnt bm),(4,pnt b4),(5,pnt b5),(6,.slice (spt b6) p.length cap6),(7,I ((64*k:Nat):Int)),(8,pnt b8),(9,I (x.1:Int))]) (λx=>[(4,b4,(List.replicate 32 0#8).map U8,27),(6,b6,p.map U8++tail,5),(5,b5,(RK p k).map U32,155),(8,b8,(V1 p (64*k) x.1).map U32,156)]) (λx=>16-x.1) ⟨0,om⟩ hGF trv trv<|?_;rintro ⟨i,hi⟩;dsimp only;refine ah<|am (E:=EE [145])<|Mv O<|Bnr O O (λ_=>aI _ _ _)<|aa<|?_;refine cx O (λhc=> ?_) (λhc=> ?_)
  ·simp only[decide_eq_true_eq]at hc
   refine aw<|ah<|au<|am (E:=EE [145])<|Asg O<|aa<|au<|bW (ι:={m:Nat // m<=4}) (λx=>[(0,pnt bm),(4,pnt b4),(5,pnt b5),(6,.slice (spt b6) p.length cap6),(7,I ((64*k:Nat):Int)),(8,pnt b8),(9,I (i:Int)),(10,I (x.1:Int))]) (λx=>[(4,b4,(List.replicate 32 0#8).map U8,27),(6,b6,p.map U8++tail,5),(5,b5,(RK p k).map U32,155),(8,b8,((V1 p (64*k) i).set i (wk p (64*k+4*i) ((V1 p (64*k) i).getD i 0) x.1)).map U32,156)]) (λx=>4-x.1) ⟨0,om⟩ hGF trv ⟨rfl,rfl,rfl,congrArg (λl=>some (b8,List.map U32 l,156)) (BO _ i (by rw[nH];omega)),trivial⟩<|?_
   rintro ⟨m,hm⟩;dsimp only;refine ah<|am (E:=EE [145])<|Mv O<|Bnr O O (λ_=>aI _ _ _)<|aa<|?_;refine cx O (λhc=> ?_) (λhc=> ?_)
   ·simp only[decide_eq_true_eq]at hc
    have hq:64*k+4*i+m<p.length:=om;refine aw<|ah<|au<|Xe [145]<|Mv O<|Mv O<|Ia (i) O O underlying156 sizeOf154<|Lmq 8 U32 0 O O isAgg154 (by rw[List.length_set,nH];omega)<|?_
    rw[y5 _ _ _ (by rw[nH];omega)]
    refine Bnr O O (λ_=>ij _ _ _)<|Mv O<|Mv O<|Mv O<|Bnr O O (λ_=>bT _ _ _ aG)<|Bnr O O (λ_=>ay _ _ _ aG)<|Mv O<|Bnr O O (λ_=>ay _ _ _ aG)<|j4 (64*k+4*i+m) O O underlying123 sizeOf5 om hq O O<|?_;rw[Nat.zero_add];refine aV 6 O O (yS p tail (64*k+4*i+m) hq) isAgg5 O O<|bI O O (λ_=>ie underlying5 underlying154 _) O O<|Bnr O O (λ_=>gF _ _ _)<|Ia (i) O O underlying156 sizeOf154<|bO 8 U32 hGF O O O sizeOf154 O (by rw[List.length_set,nH];omega) O<|?_
    rw[List.set_set];refine aa<|cv (E:=EE [145])<|Mv O<|Bnr O O (λ_=>ay _ _ _ aG)<|Asg O<|aa<|?_
    repeat (refine bh ?_)
    exact aY<|⟨rfl,⟨m+1,om⟩,_,by show 4-(m+1)<4-m;omega,rfl,trv,trv⟩
   ·obtain rfl:m=4:=by simp at hc;omega
    refine bv<|cv (E:=EE [145])<|Mv O<|Bnr O O (λ_=>ay _ _ _ aG)<|Asg O<|aa<|?_
    repeat (refine bh ?_)
    exact aY<|⟨rfl,⟨i+1,om⟩,_,by show 16-(i+1)<16-i;omega,rfl,trv,trv⟩
  ·obtain rfl:i=16:=by simp at hc;omega
   refine bv<|ah<|am (E:=EE [145])<|Asg O<|aa<|au<|bW (ι:={j:Nat // j<=48}) (λx=>[(0,pnt bm),(4,pnt b4),(5,pnt b5),(6,.slice (spt b6) p.length cap6),(7,I ((64*k:Nat):Int)),(8,pnt b8),(11,I ((16+x.1:Nat):Int))]) (λx=>[(4,b4,(List.replicate 32 0#8).map U8,27),(6,b6,p.map U8++tail,5),(5,b5,(RK p k).map U32,155),(8,b8,(V2 p (64*k) x.1).map U32,156)]) (λx=>48-x.1) ⟨0,om⟩ hGF trv trv<|?_;rintro ⟨j,hj⟩;dsimp only;refine ah<|am (E:=EE [145])<|Mv O<|Bnr O O (λ_=>aI _ _ _)<|aa<|?_;refine cx O (λhc=> ?_) (λhc=> ?_)
   ·simp only[decide_eq_true_eq]at hc
    refine aw<|ah<|au<|Xd [145]<|Mv O<|Bnr O O (λ_=>bC _ _ _ aG)<|Ia (((16+j)-15)) O O underlying156 sizeOf154<|Lmq 8 U32 0 O O isAgg154 (by rw[lF];omega)<|Mv O<|Bnr O O (λ_=>bC _ _ _ aG)<|Ia (((16+j)-2)) O O underlying156 sizeOf154<|Lmq 8 U32 0 O O isAgg154 (by rw[lF];omega)<|Asg O<|Asg O<|aa<|Xe [145]<|Mv O<|Mv O<|Bnr O O (λ_=>bC _ _ _ aG)<|Ia (((16+j)-16)) O O underlying156 sizeOf154<|Lmq 8 U32 0 O O isAgg154 (by rw[lF];omega)<|Mv O<|Ca O (eO _ _ om om)<|Mv O<|Ca O (eO _ _ om om)<|Bnr O O (λ_=>bZ _ _ _)<|Mv O<|Bnr O O (λ_=>eB _ _ _)<|Bnr O O (λ_=>bZ _ _ _)<|Bnr O O (λ_=>bN _ _ _)<|Mv O<|Bnr O O (λ_=>bC _ _ _ aG)<|Ia (((16+j)-7)) O O underlying156 sizeOf154<|Lmq 8 U32 0 O O isAgg154 (by rw[lF];omega)<|Bnr O O (λ_=>bN _ _ _)<|Mv O<|Ca O (eO _ _ om om)<|Mv O<|Ca O (eO _ _ om om)<|Bnr O O (λ_=>bZ _ _ _)<|?_
    refine Mv O<|Bnr O O (λ_=>eB _ _ _)<|Bnr O O (λ_=>bZ _ _ _)<|Bnr O O (λ_=>bN _ _ _)<|Ia ((16+j)) O O underlying156 sizeOf154<|bO 8 U32 hGF O O O sizeOf154 O (by rw[lF];omega) O<|aa<|cv (E:=EE [145])<|Mv O<|Bnr O O (λ_=>ay _ _ _ aG)<|Asg O<|aa<|?_
    repeat (refine bh ?_)
    exact aY<|⟨rfl,⟨j+1,om⟩,_,by show 48-(j+1)<48-j;omega,rfl,trv,trv⟩
   ·obtain rfl:j=48:=by simp at hc;omega
    refine bv<|am (E:=EE [145])<|Lw 5 O O qP (dz _ _)<|Al 14 hGF zv155<|λb14=>Sx 14 hGF O O O qP (dz p k) (gU _)<|aa<|ah<|am (E:=EE [145])<|Asg O<|aa<|au<|bW (ι:={r:Nat // r<=64}) (λx=>[(0,pnt bm),(4,pnt b4),(5,pnt b5),(6,.slice (spt b6) p.length cap6),(7,I ((64*k:Nat):Int)),(8,pnt b8),(14,pnt b14),(15,I (x.1:Int))]) (λx=>[(4,b4,(List.replicate 32 0#8).map U8,27),(6,b6,p.map U8++tail,5),(5,b5,(RK p k).map U32,155),(8,b8,(V2 p (64*k) 48).map U32,156),(14,b14,(RRs (RK p k) (V2 p (64*k) 48) x.1).map U32,155)]) (λx=>64-x.1) ⟨0,om⟩ hGF trv trv<|?_;rintro ⟨r,hr⟩;dsimp only;refine ah<|am (E:=EE [145])<|Mv O<|Bnr O O (λ_=>aI _ _ _)<|aa<|?_;refine cx O (λhc=> ?_) (λhc=> ?_)
    ·simp only[decide_eq_true_eq]at hc
     refine aw<|ah<|au<|Xd [145]<|Ia (4) O O underlying155 sizeOf154<|Lmq 14 U32 0 O O isAgg154 (by rw[dW _ _ (dz p k)];omega)<|Ia (0) O O underlying155 sizeOf154<|Lmq 14 U32 0 O O isAgg154 (by rw[dW _ _ (dz p k)];omega)<|Asg O<|Asg O<|aa<|Xd [145]<|Ia (7) O O underlying155 sizeOf154<|Lmq 14 U32 0 O O isAgg154 (by rw[dW _ _ (dz p k)];omega)<|Mv O<|Ca O (eO _ _ om om)<|Mv O<|Ca O (eO _ _ om om)<|Bnr O O (λ_=>bZ _ _ _)<|Mv O<|Ca O (eO _ _ om om)<|Bnr O O (λ_=>bZ _ _ _)<|Bnr O O (λ_=>bN _ _ _)<|Mv O<|Ia (5) O O underlying155 sizeOf154<|Lmq 14 U32 0 O O isAgg154 (by rw[dW _ _ (dz p k)];omega)<|Bnr O O (λ_=>dL _ _ _)<|Mv O<|bV O (λ_=>qf _) O O<|Ia (6) O O underlying155 sizeOf154<|Lmq 14 U32 0 O O isAgg154 (by rw[dW _ _ (dz p k)];omega)<|Bnr O O (λ_=>dL _ _ _)<|Bnr O O (λ_=>bZ _ _ _)<|Bnr O O (λ_=>bN _ _ _)<|Mv O<|Mv O<|aR O O O<|Fa 8 O underlying158 O sizeOf156<|j7 (r) O O underlying156 sizeOf154 om om O O<|aT O isAgg154 (u7 (B:=pl w) ((ho.cell (8+r)).trans (gm U32 MK 0 (8+r) (by rw[gg];omega))) (λh=>h)) O O<|?_
     refine Bnr O O (λ_=>bN _ _ _)<|Mv O<|Ia (r) O O underlying156 sizeOf154<|Lmq 8 U32 0 O O isAgg154 (by rw[lF];omega)<|Bnr O O (λ_=>bN _ _ _)<|Asg O<|aa<|Xd [145]<|Mv O<|Ca O (eO _ _ om om)<|Mv O<|Ca O (eO _ _ om om)<|Bnr O O (λ_=>bZ _ _ _)<|Mv O<|Ca O (eO _ _ om om)<|Bnr O O (λ_=>bZ _ _ _)<|Mv O<|Ia (1) O O underlying155 sizeOf154<|Lmq 14 U32 0 O O isAgg154 (by rw[dW _ _ (dz p k)];omega)<|Bnr O O (λ_=>dL _ _ _)<|Mv O<|Ia (2) O O underlying155 sizeOf154<|Lmq 14 U32 0 O O isAgg154 (by rw[dW _ _ (dz p k)];omega)<|Bnr O O (λ_=>dL _ _ _)<|Bnr O O (λ_=>bZ _ _ _)<|Ia (1) O O underlying155 sizeOf154<|Lmq 14 U32 0 O O isAgg154 (by rw[dW _ _ (dz p k)];omega)<|Ia (2) O O underlying155 sizeOf154<|Lmq 14 U32 0 O O isAgg154 (by rw[dW _ _ (dz p k)];omega)<|Bnr O O (λ_=>dL _ _ _)<|Bnr O O (λ_=>bZ _ _ _)<|Bnr O O (λ_=>bN _ _ _)<|Asg O<|aa<|cv (E:=EE [145])<|Mv O<|Mv O<|Bnr O O (λ_=>bN _ _ _)<|Ia (0) O O underlying155 sizeOf154<|Lmq 14 U32 0 O O isAgg154 (by rw[dW _ _ (dz p k)];omega)<|?_
     refine Ia (1) O O underlying155 sizeOf154<|Lmq 14 U32 0 O O isAgg154 (by rw[dW _ _ (dz p k)];omega)<|Ia (2) O O underlying155 sizeOf154<|Lmq 14 U32 0 O O isAgg154 (by rw[dW _ _ (dz p k)];omega)<|Ia (3) O O underlying155 sizeOf154<|Lmq 14 U32 0 O O isAgg154 (by rw[dW _ _ (dz p k)];omega)<|Mv O<|Bnr O O (λ_=>bN _ _ _)<|Ia (4) O O underlying155 sizeOf154<|Lmq 14 U32 0 O O isAgg154 (by rw[dW _ _ (dz p k)];omega)<|Ia (5) O O underlying155 sizeOf154<|Lmq 14 U32 0 O O isAgg154 (by rw[dW _ _ (dz p k)];omega)<|Ia (6) O O underlying155 sizeOf154<|Lmq 14 U32 0 O O isAgg154 (by rw[dW _ _ (dz p k)];omega)<|dN (n:=8) O O underlying155 sizeOf154 zeroValue155 O O O O<|ai 14 hGF O O O sizeOf155 O (by rw[List.length_map,dW _ _ (dz p k)]) O O<|aa<|cv (E:=EE [145])<|Mv O<|Bnr O O (λ_=>ay _ _ _ aG)<|Asg O<|aa<|?_
     repeat (refine bh ?_)
     exact aY<|⟨rfl,⟨r+1,om⟩,_,by show 64-(r+1)<64-r;omega,rfl,trv,trv⟩
    ·obtain rfl:r=64:=by simp at hc;omega
     refine bv<|am (E:=EE [145])<|Asg O<|aa<|au<|bW (ι:={t:Nat // t<=8}) (λx=>[(0,pnt bm),(4,pnt b4),(5,pnt b5),(6,.slice (spt b6) p.length cap6),(7,I ((64*k:Nat):Int)),(8,pnt b8),(14,pnt b14),(20,I (x.1:Int))]) (λx=>[(4,b4,(List.replicate 32 0#8).map U8,27),(6,b6,p.map U8++tail,5),(5,b5,(HAs (RK p k) (RRs (RK p k) (V2 p (64*k) 48) 64) x.1).map U32,155),(14,b14,(RRs (RK p k) (V2 p (64*k) 48) 64).map U32,155)]) (λx=>8-x.1) ⟨0,om⟩ hGF trv trv<|?_;rintro ⟨t,ht⟩;dsimp only;refine ah<|am (E:=EE [145])<|Mv O<|Bnr O O (λ_=>aI _ _ _)<|aa<|?_;refine cx O (λhc=> ?_) (λhc=> ?_)
     ·simp only[decide_eq_true_eq]at hc
      refine aw<|ah<|au<|Xe [145]<|Mv O<|Ia (t) O O underlying155 sizeOf154<|Lmq 5 U32 0 O O isAgg154 (by rw[og,dz];omega)<|Mv O<|Ia (t) O O underlying155 sizeOf154<|Lmq 14 U32 0 O O isAgg154 (by rw[dW _ _ (dz p k)];omega)<|Bnr O O (λ_=>bN _ _ _)<|Ia (t) O O underlying155 sizeOf154<|bO 5 U32 hGF O O O sizeOf154 O (by rw[og,dz];omega) O<|aa<|cv (E:=EE [145])<|Mv O<|Bnr O O (λ_=>ay _ _ _ aG)<|Asg O<|aa<|?_
      repeat (refine bh ?_)
      exact aY<|⟨rfl,⟨t+1,om⟩,_,by show 8-(t+1)<8-t;omega,rfl,trv,trv⟩
     ·obtain rfl:t=8:=by simp at hc;omega
      refine bv<|cv (E:=EE [145])<|Mv O<|Bnr O O (λ_=>ay _ _ _ aG)<|Asg O<|aa<|?_
      repeat (refine bh ?_)
      exact aY<|⟨rfl,⟨k+1,om⟩,_,by show p.length-(k+1)<p.length-k;omega,rfl,trv,trv⟩
 ·simp only[decide_eq_false_iff_not]at hc
  obtain rfl:k=p.length / 64:=om;clear hc hk;refine bv<|am (E:=EE [145])<|Al 21 hGF zv27<|λb21=>aa<|ah<|am (E:=EE [145])<|Asg O<|aa<|au<|bW (ι:={i:Nat // i<=32}) (λx=>[(4,pnt b4),(5,pnt b5),(21,pnt b21),(22,I (x.1:Int))]) (λx=>[(4,b4,(List.replicate 32 0#8).map U8,27),(5,b5,(RK p (p.length / 64)).map U32,155),(21,b21,(OD (RK p (p.length / 64)) x.1).map U8,27)]) (λx=>32-x.1) ⟨0,om⟩ hGF trv trv<|?_;rintro ⟨i,hi⟩;dsimp only;refine ah<|am (E:=EE [145])<|Mv O<|Bnr O O (λ_=>aI _ _ _)<|aa<|?_;refine cx O (λhc=> ?_) (λhc=> ?_)
  ·simp only[decide_eq_true_eq]at hc
   refine aw<|ah<|au<|cv (E:=EE [145])<|Mv O<|Mv O<|Bnr (v:=I ((i / 4:Nat):Int)) O O (λ_=>gP _ _ _ aC (show inI ((i / 4:Nat):Int) by unfold inI;omega))<|Ia ((i / 4)) O O underlying155 sizeOf154<|Lmq 5 U32 0 O O isAgg154 (by rw[dz];omega)<|Mv O<|Bnr (v:=I ((i % 4:Nat):Int)) O O (λ_=>eu _ _ _ aC)<|Bnr O O (λ_=>bT _ _ _ aG)<|Bnr O O (λ_=>bC _ _ _ aG)<|Bnr O O (λ_=>lu _ _ _ om)<|bI O O (λ_=>hH underlying154 underlying5 _) O O<|Ia (i) O O underlying27 sizeOf5<|bO 21 U8 hGF O O O sizeOf5 O (by rw[pu];omega) O<|aa<|cv (E:=EE [145])<|Mv O<|Bnr O O (λ_=>ay _ _ _ aG)<|Asg O<|aa<|?_
   repeat (refine bh ?_)
   exact aY<|⟨rfl,⟨i+1,om⟩,_,by show 32-(i+1)<32-i;omega,rfl,trv,trv⟩
  ·obtain rfl:i=32:=by simp at hc;omega
   refine bv<|am (E:=EE [145])<|Lw 21 O O rM (pu _ _)<|Sx 4 hGF O O O rM (pu _ _) (bg _)<|aa<|ao<|Rr<|?_;exact aF 4 O O O isAgg27 sizeOf27 (by rw[List.length_map,pu]) (λw hw=>⟨rfl,ae hw⟩)
end Sh
end
section
open Go.RowKit
namespace Sh
theorem KM(p:L8)(o:Nat):wk p o 0 4=((p.getD o 0).setWidth 32<<<24)|||((p.getD (o+1) 0).setWidth 32<<<16)|||((p.getD (o+2) 0).setWidth 32<<<8)|||(p.getD (o+3) 0).setWidth 32:=by
 simp only[wk,BitVec.shiftLeft_or_distrib,<-BitVec.shiftLeft_add,Nat.add_zero,Nat.reduceAdd];simp
def bk(p:L8)(k:Nat):L8:=(p.drop (64*k)).take 64
theorem oQ(p:L8)(k i:Nat)(h:i<64):(bk p k).getD i 0=p.getD (64*k+i) 0:=by
 simp[bk,List.getD_eq_getElem?_getD,h,List.getElem?_drop]
theorem wN(p:L8)(q:Nat): ∀i j,i<=j->(V1 p q i).getD j 0=0
 |0,j,_=>by
  simp only[V1,List.getD_eq_getElem?_getD,List.getElem?_replicate];split<;>rfl
 |i+1,j,h=>by
  have:=wN p q i j om;rw[List.getD_eq_getElem?_getD]at this⊢;rw[V1,List.getElem?_set_ne om];exact this
theorem Fe(p:L8)(k:Nat): ∀i,i<=16->V1 p (64*k) i=W1 (bk p k) i
 |0,_=>rfl
 |i+1,h=>by
  rw[V1,wN p _ i i (Nat.le_refl _),KM,Fe p k i om,W1,w4,oQ _ _ _ om,oQ _ _ _ om,oQ _ _ _ om,oQ _ _ _ om];rfl
theorem fw(x:BitVec 32)(k:Int)(m:Nat)(h1:(BitVec.ofInt 64 k &&& 31#64).toNat=32-m)(h2:(32#64-(BitVec.ofInt 64 k &&& 31#64)).toNat=m):li x k=turn x m:=by
 rw[li,turn,h1,h2,BitVec.or_comm]
theorem Df(x:BitVec 32):yl x=r0 x:=by
 rw[yl,r0,fw x (-7) 7 aC aC,fw x (-18) 18 aC aC]
theorem CE(x:BitVec 32):yG x=r1 x:=by
 rw[yG,r1,fw x (-17) 17 aC aC,fw x (-19) 19 aC aC]
theorem Iy(x:BitVec 32):tH x=turn x 2^^^turn x 13^^^turn x 22:=by
 rw[tH,fw x (-2) 2 aC aC,fw x (-13) 13 aC aC,fw x (-22) 22 aC aC]
theorem Hi(x:BitVec 32):ph x=turn x 6^^^turn x 11^^^turn x 25:=by
 rw[ph,fw x (-6) 6 aC aC,fw x (-11) 11 aC aC,fw x (-25) 25 aC aC]
theorem JZ(ws:Lz3)(i:Nat):r5 ws i=w5 ws i:=by
 rw[r5,w5,Df,CE]
 ac_rfl
theorem FF(p:L8)(k:Nat): ∀j,V2 p (64*k) j=W2 (bk p k) j
 |0=>Fe p k 16 om
 |j+1=>by rw[V2,W2,FF p k j,JZ]
def toL(v:V8):Lz3:=[v.a,v.b,v.c,v.d,v.e,v.f,v.g,v.h]
theorem He(v:V8)(k w:BitVec 32):rr (toL v) k w=toL (rnd v k w):=by
 have e1:rt (toL v) k w=v.h+ph v.e+(v.e &&& v.f^^^ ~~~v.e &&& v.g)+k+w:=by rw[Hi];rfl
 have e2:ru (toL v)=tH v.a+(v.a &&& v.b^^^v.a &&& v.c^^^v.b &&& v.c):=by rw[Iy];rfl
 rw[rr,e1,e2];rfl
theorem MB(j:Nat):MK.getD (8+j) 0=KW.getD j 0:=by
 rw[MK,List.getD_eq_getElem?_getD,List.getElem?_append_right (by show 8<=8+j;omega),show 8+j-IV.length=j from by show 8+j-8=j;omega,<-List.getD_eq_getElem?_getD]
theorem GK(h:Lz3)(hh:h.length=8):toL (v8 h)=h:=by
 match h,hh with
 |[_,_,_,_,_,_,_,_],_=>rfl
theorem ua(h ws:Lz3)(hh:h.length=8): ∀j,RRs h ws j=toL (lR (v8 h) ws j)
 |0=>(GK h hh).symm
 |j+1=>by rw[RRs,ua h ws hh j,He,MB,lR]
theorem Ad(h:Lz3)(v:V8)(hh:h.length=8):HAs h (toL v) 8=GB h v:=by
 match h,hh with
 |[_,_,_,_,_,_,_,_],_=>rfl
theorem D9(p:L8)(k:Nat):RK p (k+1)=comp (RK p k) (bk p k):=by
 rw[RK,comp,ua _ _ (dz p k),Ad _ _ (dz p k),FF]
theorem IU(h:Lz3)(hh:h.length=8):OD h 32=DG h 8:=by
 match h,hh with
 |[a,b,c,d,e,f,g,i],_=>
  have z: ∀x:BitVec 32,x>>>(0:Nat)=x:=λx=>aB;simp only[OD,DG,List.replicate,List.set,List.getD,Nat.reduceDiv,Nat.reduceMod,Nat.reduceMul,Nat.reduceAdd];simp
theorem wG(p:L8)(L:List L8): ∀k,k<=L.length->(∀i,i<L.length->bk p i=L.getD i [])->RK p k=kh IV L k
 |0,_,_=>rfl
 |k+1,h,hb=>by rw[D9,kh,wG p L k om hb,hb k om]
theorem cR(L:List L8)(h: ∀l∈L,l.length=64):L.flatten.length=64*L.length:=by
 induction L with
 |nil=>rfl
 |cons x r ih=>
  rw[List.flatten_cons,List.length_append,ih (λl hl=>h l (by simp[hl])),h x aB,List.length_cons]
  omega
theorem Ex(L:List L8)(h: ∀l∈L,l.length=64): ∀i,i<L.length->bk L.flatten i=L.getD i []:=by
 induction L with
 |nil=>intro i hi;simp at hi
 |cons x r ih=>
  intro i hi;have hx:x.length=64:=h x aB
  cases i with
  |zero=>simp[bk,hx]
  |succ i=>
   have e:=ih (λl hl=>h l (by simp[hl])) i (by simpa using hi)
   rw[List.getD_cons_succ,<-e,bk,bk,List.flatten_cons,show 64*(i+1)=x.length+64*i from by omega,List.drop_append,List.drop_eq_nil_of_le (by omega:x.length<=x.length+64*i),List.nil_append,Nat.add_sub_cancel_left]
theorem pJ(bs:L8): ∀m,64*m<=bs.length->((List.range m).map λk=>(bs.drop (64*k)).take 64).flatten=bs.take (64*m)
 |0,_=>aB
 |m+1,h=>by
  rw[List.range_succ,List.map_append,List.flatten_append,pJ bs m om];simp only[List.map_cons,List.map_nil,List.flatten_cons,List.flatten_nil,List.append_nil];rw[show 64*(m+1)=64*m+64 from by omega,List.take_add]
theorem Ft(rs:L8)(h:rs.length<64):e1 rs=rs++([128#8]++List.replicate (63-rs.length) 0#8):=by
 rw[e1,List.set_append_right _ _ (Nat.le_refl _),Nat.sub_self,show 64-rs.length=(63-rs.length)+1 from by omega,List.replicate_succ]
 rfl
def b8s(n:BitVec 64):Nat->L8
 |0=>[]
 |k+1=>b8s n k++[((8#64*n)>>>(56-8*(k:Int)).toNat).setWidth 8]
theorem r9(n:BitVec 64): ∀k,(b8s n k).length=k
 |0=>rfl
 |k+1=>by rw[b8s,List.length_append,r9 n k];rfl
theorem Cr(bl:L8)(n:BitVec 64)(h:bl.length=64): ∀k,k<=8->LB bl n k=bl.take 56++(b8s n k++bl.drop (56+k))
 |0,_=>by simp[LB,b8s]
 |k+1,hk=>by
  have hd:bl.drop (56+k)=bl[56+k]::bl.drop (56+(k+1)):=by rw[List.drop_eq_getElem_cons om];rfl
  rw[LB,Cr bl n h k om,hd,List.set_append_right _ _ (by simp[h]),List.set_append_right _ _ (by simp[h,r9]),b8s]
  simp[h,r9]
theorem ER(bs:L8)(n:BitVec 64): ∀j,j<=8->PE bs (n*8#64) j=PD bs (nz bs)++b8s n j
 |0,_=>by simp[PE,b8s]
 |j+1,h=>by
  rw[PE,ER bs n j om,b8s,nb,BitVec.mul_comm,show (8*(7-(j:Int))).toNat=(56-8*(j:Int)).toNat from by omega,List.append_assoc]
theorem Cg(bs:L8):PAD bs=(jX bs).flatten:=by
 rw[PAD,ER bs _ 8 (Nat.le_refl _),jX,List.flatten_append,jt,pJ bs _ om,PD];have hr:=mS bs;have hrl:(bs.drop (64*(bs.length / 64))).length=bs.length % 64:=by rw[List.length_drop];omega
 generalize hrs:bs.drop (64*(bs.length / 64))=rs at hr hrl;have hbs:bs=bs.take (64*(bs.length / 64))++rs:=by rw[<-hrs,List.take_append_drop]
 generalize hn:BitVec.ofInt 64 (bs.length:Int)=n;have key:(gT rs n).flatten=rs++([128#8]++(List.replicate (nz bs) 0#8++b8s n 8)):=by
  unfold gT;split
  ·rename_i h56
   have hz:nz bs=55-rs.length:=by unfold nz;omega
   rw[List.flatten_cons,List.flatten_nil,List.append_nil,Cr _ _ (vw rs om) 8 (Nat.le_refl _),Ft rs hr,hz];rw[List.drop_eq_nil_of_le (by simp;omega),List.append_nil,List.take_append,List.take_of_length_le (by omega:rs.length<=56)]
   rw[List.take_append,List.take_of_length_le (by simp;omega),List.take_replicate]
   simp only[List.append_assoc,List.length_cons,List.length_nil];rw[show min (56-rs.length-(0+1)) (63-rs.length)=55-rs.length from by omega]
  ·rename_i h56
   have hz:nz bs=(63-rs.length)+56:=by unfold nz;omega
   rw[List.flatten_cons,List.flatten_cons,List.flatten_nil,List.append_nil,Cr _ _ aB 8 (Nat.le_refl _),Ft rs hr,hz,<-List.replicate_append_replicate];simp
 rw[key]
 conv=>lhs;lhs;lhs;rw[hbs]
 simp only[List.append_assoc]
theorem Ch(bs:L8):CJ bs=SHA bs:=by
 have hb:=s4 bs;have hl:=cR (jX bs) hb;rw[CJ,SHA,Cg,hl,Nat.mul_div_cancel_left _ aC,wG _ (jX bs) _ (Nat.le_refl _) (Ex _ hb),IU _ (ia _ _ O _)]
end Sh
end
section
open Go.RowKit
open Sh
theorem ent98:aL prog 98:=λ_ _=>kr
theorem ent65:aL prog 65:=λ_ _=>kr
theorem ent113:aL prog 113:=λ_ _=>kr
theorem ent32:aL prog 32:=λ_ _=>kr
theorem ent45:aL prog 45:=λ_ _=>kr
theorem ti5:TI prog 5 (.int .u8 0) 1 1:=lN kr
abbrev Rt:=L8
def Z0:Rt:=List.replicate 32 0#8
theorem cL:Z0.length=32:=rfl
def P2(x y:Rt):Rt:=SHA (x++y)
theorem cZ(x y:Rt):(P2 x y).length=32:=mH _
theorem fu: ∀d,(zrT P2 Z0 d).length=32
 |0=>rfl
 |_+1=>cZ _ _
def AllR(l:List Rt):Prop:= ∀r∈l,r.length=32
theorem cz{l:List Rt}(hl:AllR l): ∀d,(tre P2 Z0 d l).length=32
 |0=>by
  cases l with
  |nil=>rfl
  |cons x r=>exact hl x (List.mem_cons_self ..)
 |_+1=>cZ _ _
theorem AllR.take{l:List Rt}(h:AllR l)(n:Nat):AllR (l.take n):=λr hr=>h r (List.mem_of_mem_take hr)
theorem AllR.drop{l:List Rt}(h:AllR l)(n:Nat):AllR (l.drop n):=λr hr=>h r (List.mem_of_mem_drop hr)
def RtsAt(w:World)(a:Option Addr)(l:List Rt):Prop:= ∀i r,l[i]? =some r->∃ad,a=some ad/\∀j v,(r.map U8)[j]? =some v->w.cell? ((ad.add (i*32)).add j)=some v
theorem RtsAt.grow{w w':World}{a:Option Addr}{l:List Rt}(h:RtsAt w a l)(hg:Grow w w'):RtsAt w' a l:=λi r hr=>by
 obtain ⟨ad,e,h1⟩:=h i r hr;exact ⟨ad,e,λj v hv=>(hg.cell (block_lt_of_cell (h1 j v hv))).trans (h1 j v hv)⟩
theorem RtsAt.take{w:World}{a:Option Addr}{l:List Rt}(h:RtsAt w a l)(n:Nat):RtsAt w a (l.take n):=λi r hr=>by
 rw[List.getElem?_take]at hr;split at hr
 ·exact h i r hr
 ·cases hr
def lU(a:Option Addr)(c m:Nat):Option Addr:=if c=m then a else a.map (·.add (m*32))
theorem tb(ad:Addr)(m n:Nat):(ad.add m).add n=ad.add (m+n):=by
 unfold Addr.add;by_cases h1:m=0
 ·subst h1;simp
 ·by_cases h2:n=0
  ·subst h2;simp
  ·have h3: ¬m+n=0:=om
   simp[h1,h2];omega
theorem RtsAt.drop{w:World}{a:Option Addr}{l:List Rt}(h:RtsAt w a l){c:Nat}(hc:l.length<=c)(m:Nat):RtsAt w (lU a c m) (l.drop m):=λi r hr=>by
 have hr2:=hr;rw[List.getElem?_drop]at hr2;have hlt:m+i<l.length:=(List.getElem?_eq_some_iff.1 hr2).1;obtain ⟨ad,e,h1⟩:=h _ r hr2;unfold lU;rw[if_neg om,e];refine ⟨_,rfl,λj v hv=> ?_⟩;rw[tb ad,show m*32+i*32=(m+i)*32 from by omega]
 exact h1 j v hv
theorem rl(a:Option Addr)(m:Nat):(if m=0 then a else a.map (·.add (0*32)))=a:=by
 split
 ·rfl
 ·cases a<;>simp[Addr.add]
abbrev gZ(w:World)(bm:Nat):Prop:=OwnB w bm (MK.map U32) 158
theorem pt{B:Bs}{L:Hl}{Y:Nat->Prop}{n b:Nat}{t:TypeId}{xs:L8}{c:List Value}(hl:lkB L n=some (b,c,t))(hc:c.take xs.length=xs.map U8): ∀w,Hq B L Y w->BytesAt w (spt b) xs:=λw hw j v hv=>by
 have hr:=av (n:=n) hl w hw;refine ⟨_,rfl, ?_⟩;have hj:j<xs.length:=by have:=(List.getElem?_eq_some_iff.1 hv).1;simpa using this
 have h2:c[j]? =some v:=by rw[<-hv,<-hc,List.getElem?_take,if_pos hj]
 rw[Addr.add_mid];exact hr j v h2
theorem Bu(bm:Nat)(a:Option Addr)(len cap:Nat)(bs:L8)(hlen:bs.length=len)(hl:bs.length<=70368744170000)(w:World)(hw:Gt w)(ho:gZ w bm)(hby:BytesAt w a bs):CLS 111 [pnt bm,.slice a len cap].toArray w (λe w'=>e=.returned (.agg ((SHA bs).map U8).toArray)/\Grow w w'):=by
 subst hlen;have:=vg bm a cap bs hl w hw ho hby;rw[Ch]at this;exact this
theorem fU(bm:Nat)(x y:Rt)(hx:x.length=32)(hy:y.length=32)(w:World)(hw:Gt w)(ho:gZ w bm):CLS 74 [pnt bm,.agg (x.map U8).toArray,.agg (y.map U8).toArray].toArray w (λe w'=>e=.returned (.agg ((P2 x y).map U8).toArray)/\Grow w w'):=by
 refine Hf func74 O hw<|λhGF=>Xp<|Bx 4 hGF O<|λb4=>Bx 5 hGF O<|λb5=>Al 6 hGF zv27<|λb6=>aa<|lO (E:=EE []) [0,1,3,2,4,5,6] de O kr kr kr<|Mv O<|ct (l:=0) (h':=32) O underlying27 sizeOf5 O O om om O O<|ct (l:=0) (h':=32) O underlying27 sizeOf5 O O om om O O<|?_;refine eo (xs:=[]) (ys:=x) 9 hGF O (by rw[hx];rfl) underlying123 underlying123 ti5 (kT _ _ _) (λw' h=>BytesAt.range (av (n:=4) O w' h)) (by rw[hx];decide) O O (λh0=>absurd (congrArg List.length h0) (by simp[hx])) (λb9 c9 cap9 e9 l9 t9=> ?_)
 subst e9;rw[List.nil_append]at l9 t9⊢;refine eo (xs:=x) (ys:=y) 9 hGF O (by rw[hy];rfl) underlying123 underlying123 ti5 (.inr ⟨b9,c9,rfl,rfl,rfl,l9,t9⟩) (λw' h=>BytesAt.range (av (n:=5) O w' h)) (by rw[hx,hy];decide) O O (λh0=>absurd (congrArg List.length h0) (by simp[hx])) (λb11 c11 cap11 e11 l11 t11=> ?_)
 subst e11;refine Cc O ent111 (λw' hw' hG=>Bu bm _ _ _ (x++y) O (by rw[List.length_append,hx,hy];decide) w' hG (ho.of_same ((ae hw').block _ ho.lt)) (pt (n:=9) O t11 w' hw'))<|ai 6 hGF O O O sizeOf27 (by rw[List.length_map];exact mH _) (by rw[List.length_map];exact cL) (bg _) O<|aa<|ao<|Rr<|?_
 exact aF 6 O O O isAgg27 sizeOf27 (by rw[List.length_map];exact mH _) (λw' hw'=>⟨rfl,ae hw'⟩)
theorem Lg(v:Option Addr)(w:World):(Instr.build 47 #[(0,.pointer v)]).run prog w=.ok (.agg [.pointer v].toArray) w:=by
 simp[Instr.build,zeroValue47,run_underlying underlying47,sizeOf45,Value.cells,Instr.fill]
end
section
open Go.RowKit
open Sh
theorem nG(t:TypeId)(k:Nat)(hk:k<=62)(w:World):(binOp .shl t (I 1) (I (k:Int))).run prog w=.ok (I ((2^k:Nat):Int)) w:=by
 have hlt:2^k<=2^62:=Nat.pow_le_pow_right aC hk;have h62:2^62=4611686018427387904:=aC;show (Op.shift .shl .i64 (1:Int) .i64 (k:Int)).run prog w=_;unfold Op.shift;rw[if_neg om];show Result.ok (Value.int .i64 (IntKind.wrap .i64 ((1:Int)*2^(min (k:Int).toNat 64)))) w=_;rw[Int.toNat_natCast,Nat.min_eq_left om,Int.one_mul];have e:(2:Int)^k=((2^k:Nat):Int):=aB;have hpos:=Nat.two_pow_pos k;rw[e,gj _ aG]
theorem uw(bm:Nat)(d:Int)(w:World)(hw:Gt w)(ho:gZ w bm):CLS 98 [.agg [pnt bm].toArray,I d].toArray w (λe w'=>e=.returned (.agg ((zrT P2 Z0 (min d.toNat 64)).map U8).toArray)/\Grow w w'):=by
 refine Hf func98 O hw<|λhGF=>Xp<|Bx 2 hGF O<|λb2=>Al 4 hGF zv27<|λb4=>aa<|Xp<|Al 5 hGF zv27<|λb5=>aa<|ah<|Xp<|Asg O<|aa<|au<|bW (ι:={i:Nat // i<=min d.toNat 64}) (λx=>[(1,I d),(2,pnt b2),(4,pnt b4),(5,pnt b5),(6,I (x.1:Int))]) (λx=>[(2,b2,[pnt bm],47),(4,b4,Z0.map U8,27),(5,b5,(zrT P2 Z0 x.1).map U8,27)]) (λx=>min d.toNat 64-x.1) ⟨0,Nat.zero_le _⟩ hGF trv trv<|?_;rintro ⟨k,hk⟩;dsimp only;refine ah<|Xp<|Mv O<|Mv O<|ki (z:=(if (64:Int)<d then 64 else d)) O O O O O<|?_
 rcases Nat.lt_or_ge k (min d.toNat 64)with hlt|hge
 ·refine Bnb true O O (λ_=>aI _ _ _) (by rw[decide_eq_true_eq];split<;>omega)<|aa<|aQ O<|aw<|ah<|au<|Xq<|Fa 0 O underlying47 O sizeOf45<|aV 2 O O O isAgg45 O O<|aq 5 O O isAgg27 sizeOf27 (by rw[List.length_map];exact fu _) O O<|aq 5 O O isAgg27 sizeOf27 (by rw[List.length_map];exact fu _) O O<|Cc O ent74 (λw' hw' hG=>fU bm _ _ (fu k) (fu k) w' hG (ho.of_same ((ae hw').block _ ho.lt)))<|ai 5 hGF O O O sizeOf27 (by rw[List.length_map];exact cZ _ _) (by rw[List.length_map];exact fu _) (bg _) O<|aa<|Xq<|Mv O<|Bnr (v:=I (((k+1:Nat):Int))) O O (λ_=>(ay _ _ _ aG).trans aE)<|Asg O<|aa<|?_
  repeat (refine bh ?_)
  exact aY<|⟨rfl,⟨k+1,hlt⟩,_,by show min d.toNat 64-(k+1)<min d.toNat 64-k;omega,rfl,trv,trv⟩
 ·obtain rfl:k=min d.toNat 64:=om
  refine Bnb false O O (λ_=>aI _ _ _) (by rw[decide_eq_false_iff_not];split<;>omega)<|aa<|aH O<|bv<|Xp<|aq 5 O O isAgg27 sizeOf27 (by rw[List.length_map];exact fu _) O O<|ai 4 hGF O O O sizeOf27 (by rw[List.length_map];exact fu _) (by rw[List.length_map];exact cL) (bg _) O<|aa<|ao<|Rr<|?_
  exact aF 4 O O O isAgg27 sizeOf27 (by rw[List.length_map];exact fu _) (λw' hw'=>⟨rfl,ae hw'⟩)
theorem iK(n:Int)(w:World)(hw:Gt w):CLS 113 [I n].toArray w (λe w'=>e=.returned (I (dep n.toNat:Nat))/\Grow w w'):=by
 refine Hf func113 O hw<|λhGF=>Xp<|Asg O<|aa<|Xp<|Asg O<|aa<|ah<|au<|bW (ι:={i:Nat // i<=62/\∀e,e<i->2^e<n.toNat}) (λx=>[(0,I n),(3,I (x.1:Int))]) (λx=>[]) (λx=>62-x.1) ⟨0,om,λe he=>om⟩ hGF trv trivial<|?_;rintro ⟨k,hk,hlo⟩;dsimp only;refine ah<|Xp<|Mv O<|?_;rcases Nat.lt_or_ge k 62 with hlt|hge
 ·refine Bnb true O O (λ_=>aI _ _ _) (by simp;omega)<|Mv O<|Mv O<|Bnr (v:=I (((2^k:Nat):Int))) O O (λ_=>nG _ k om _)<|Mv O<|?_
  rcases Nat.lt_or_ge (2^k) n.toNat with hl2|hl2
  ·refine Bnb true O O (λ_=>aI _ _ _) (by rw[decide_eq_true_eq];have:=Nat.two_pow_pos k;omega)<|Pk O O O<|aa<|aQ O<|aw<|au<|Xq<|Mv O<|Bnr (v:=I (((k+1:Nat):Int))) O O (λ_=>(ay _ _ _ aG).trans aE)<|Asg O<|aa<|?_
   repeat (refine bh ?_)
   exact aY<|⟨rfl,⟨k+1,hlt,λe he=>(Nat.lt_or_ge e k).elim (hlo e) (λh=>by (obtain rfl:e=k:=om);exact hl2)⟩,_,by show 62-(k+1)<62-k;omega,rfl,trv,trivial⟩
  ·have hfin:k=62\/n.toNat<=2^k:=.inr hl2
   refine Bnb false O O (λ_=>aI _ _ _) (by rw[decide_eq_false_iff_not];have:=Nat.two_pow_pos k;omega)<|Pk O O O<|aa<|aH O<|bv<|Xp<|Mv O<|Asg O<|aa<|ao<|Rr<|?_
   exact ar O O (λw' hw'=>⟨by rw[vd hk hfin hlo],ae hw'⟩)
 ·have hfin:k=62\/n.toNat<=2^k:=.inl om
  refine Bnb false O O (λ_=>aI _ _ _) (by simp;omega)<|Mv O<|Sk<|Sk<|Sk<|Sk<|Pk O O O<|aa<|aH O<|bv<|Xp<|Mv O<|Asg O<|aa<|ao<|Rr<|?_
  exact ar O O (λw' hw'=>⟨by rw[vd hk hfin hlo],ae hw'⟩)
theorem D3(bm d:Nat)(a:Option Addr)(cap:Nat)(w:World)(hw:Gt w)(ho:gZ w bm):CLS 65 [.agg [pnt bm].toArray,.slice a 0 cap,I (d:Int)].toArray w (λe w'=>e=.returned (.agg ((zrT P2 Z0 (min (d:Int).toNat 64)).map U8).toArray)/\Grow w w'):=by
 refine Hf func65 O hw<|λhGF=>Xp<|Bx 3 hGF O<|λb3=>Al 6 hGF zv27<|λb6=>aa<|ah<|Xp<|Mv O<|bB O (λ_=>aO underlying86 _ _ _ _) O O<|Bnb true O O (λ_=>bK _ _ _) aB<|aa<|aQ O<|Xp<|aq 3 O O isAgg47 sizeOf47 O O O<|Mv O<|Cc O ent98 (λw' hw' hG=>uw bm (d:Int) w' hG (ho.of_same ((ae hw').block _ ho.lt)))<|ai 6 hGF O O O sizeOf27 (by rw[List.length_map];exact fu _) (by rw[List.length_map];exact cL) (bg _) O<|aa<|ao<|Rr<|?_
 exact aF 6 O O O isAgg27 sizeOf27 (by rw[List.length_map];exact fu _) (λw' hw'=>⟨rfl,ae hw'⟩)
theorem D0(bm:Nat)(x:Rt)(hx:x.length=32)(ad:Addr)(len cap:Nat)(hlen:0<len)(w:World)(hw:Gt w)(hc: ∀j v,(x.map U8)[j]? =some v->w.cell? ((ad.add (0*32)).add j)=some v):CLS 65 [.agg [pnt bm].toArray,.slice (some ad) len cap,I 0].toArray w (λe w'=>e=.returned (.agg ((x).map U8).toArray)/\Grow w w'):=by
 refine Hf func65 O hw<|λhGF=>Xp<|Bx 3 hGF O<|λb3=>Al 6 hGF zv27<|λb6=>aa<|ah<|Xp<|Mv O<|bB O (λ_=>aO underlying86 _ _ _ _) O O<|Bnb false O O (λ_=>bK _ _ _) (by simp;omega)<|aa<|aH O<|aw<|ah<|Xp<|Mv O<|Bnb true O O (λ_=>bK _ _ _) aB<|aa<|aQ O<|Xp<|Mv O<|dJ 0 32 O O underlying86 sizeOf27 O om O O<|aP (cs:=x.map U8) O isAgg27 sizeOf27 (by rw[List.length_map];exact hx) (λw' h j v hv=>((ae h).cell (block_lt_of_cell (hc j v hv))).trans (hc j v hv)) O O<|ai 6 hGF O O O sizeOf27 (by rw[List.length_map];exact hx) (by rw[List.length_map];exact cL) (bg _) O<|aa<|ao<|Rr<|?_
 exact aF 6 O O O isAgg27 sizeOf27 (by rw[List.length_map];exact hx) (λw' hw'=>⟨rfl,ae hw'⟩)
def FP(bm d:Nat):Prop:= ∀(l:List Rt),AllR l->∀(len:Nat),l.length=len->len<=1000000->∀(a:Option Addr) (cap:Nat),len<=cap->∀(w:World),Gt w->gZ w bm->RtsAt w a l->CLS 65 [.agg [pnt bm].toArray,.slice a len cap,I (d:Int)].toArray w (λe w'=>e=.returned (.agg ((tre P2 Z0 d l).map U8).toArray)/\Grow w w')
theorem De(bm d:Nat)(hd:d+1<63)(l:List Rt)(hl:AllR l)(len:Nat)(hlen:l.length=len)(hln:len<=1000000)(h0:0<len)(a:Option Addr)(cap:Nat)(hc:len<=cap)(ih:FP bm d)(w:World)(hw:Gt w)(ho:gZ w bm)(hr:RtsAt w a l):CLS 65 [.agg [pnt bm].toArray,.slice a len cap,I ((d+1:Nat):Int)].toArray w (λe w'=>e=.returned (.agg ((P2 (tre P2 Z0 d (l.take (min len (2^d)))) (tre P2 Z0 d (l.drop (min len (2^d))))).map U8).toArray)/\Grow w w'):=by
 have hpos:=Nat.two_pow_pos d;refine Hf func65 O hw<|λhGF=>Xp<|Bx 3 hGF O<|λb3=>Al 6 hGF zv27<|λb6=>aa<|ah<|Xp<|Mv O<|bB O (λ_=>aO underlying86 _ _ _ _) O O<|Bnb false O O (λ_=>bK _ _ _) (by simp;omega)<|aa<|aH O<|aw<|ah<|Xp<|Mv O<|Bnb false O O (λ_=>bK _ _ _) (by simp;omega)<|aa<|aH O<|aw<|Xp<|Mv O<|bB O (λ_=>aO underlying86 _ _ _ _) O O<|Asg O<|aa<|ah<|Xp<|Mv O<|Bnb true O O (λ_=>aI _ _ _) (by simp;omega)<|aa<|aQ O<|Xq<|Mv O<|Mv O<|Bnr (v:=I (((d:Nat):Int))) O O (λ_=>(bC _ _ _ aG).trans (by congr 2;omega))<|Bnr (v:=I (((2^d:Nat):Int))) O O (λ_=>nG _ d om _)<|ki (z:=(((min len (2^d)):Nat):Int)) O O (by split<;>omega) O O<|Asg O<|aa<|Xd []<|?_
 refine Fa 0 O underlying47 O sizeOf45<|aV 3 O O O isAgg45 O O<|aq 3 O O isAgg47 sizeOf47 O O O<|Mv O<|Mv O<|eG (l:=0) (h':=(min len (2^d))) O underlying86 sizeOf27 O O ⟨Nat.zero_le _,om⟩ O O<|?_;rw[rl,Nat.sub_zero,Nat.sub_zero];refine Mv O<|Bnr (v:=I (((d:Nat):Int))) O O (λ_=>(bC _ _ _ aG).trans (by congr 2;omega))<|Cc O ent65 (λw' hw' hG=>ih (l.take (min len (2^d))) (hl.take _) _ (by rw[List.length_take];omega) om a cap om w' hG (ho.of_same ((ae hw').block _ ho.lt)) ((hr.grow (ae hw')).take _))<|aq 3 O O isAgg47 sizeOf47 O O O<|Mv O<|Mv O<|eG (l:=(min len (2^d))) (h':=len) O underlying86 sizeOf27 O O ⟨om,om⟩ O O<|?_
 rw[show (if cap=(min len (2^d))then a else a.map (·.add ((min len (2^d))*32)))=lU a cap (min len (2^d))from O]
 refine Mv O<|Bnr (v:=I (((d:Nat):Int))) O O (λ_=>(bC _ _ _ aG).trans (by congr 2;omega))<|Cc O ent65 (λw' hw' hG=>ih (l.drop (min len (2^d))) (hl.drop _) _ (by rw[List.length_drop];omega) om (lU a cap (min len (2^d))) (cap-(min len (2^d))) om w' hG (ho.of_same ((ae hw').block _ ho.lt)) ((hr.grow (ae hw')).drop om _))<|Cc O ent74 (λw' hw' hG=>fU bm _ _ (cz (hl.take _) d) (cz (hl.drop _) d) w' hG (ho.of_same ((ae hw').block _ ho.lt)))<|ai 6 hGF O O O sizeOf27 (by rw[List.length_map];exact cZ _ _) (by rw[List.length_map];exact cL) (bg _) O<|aa<|ao<|Rr<|?_
 exact aF 6 O O O isAgg27 sizeOf27 (by rw[List.length_map];exact cZ _ _) (λw' hw'=>⟨rfl,ae hw'⟩)
theorem dM(bm:Nat): ∀d,d<63->FP bm d
 |d,hd=>λl hl len hlen hln a cap hc w hw ho hr=>by
  rcases Nat.eq_zero_or_pos len with h0|h0
  ·have hnil:l=[]:=List.eq_nil_of_length_eq_zero om
   subst h0;subst hnil;have:=D3 bm d a cap w hw ho;rw[Int.toNat_natCast,Nat.min_eq_left om,<-wH]at this;exact this
  ·match d,hd with
   |0,_=>
    obtain ⟨x,r,rfl⟩: ∃x r,l=x::r:=by
     cases l with
     |nil=>simp at hlen;omega
     |cons x r=>exact ⟨x,r,rfl⟩
    obtain ⟨ad,rfl,h1⟩:=hr 0 x O;exact D0 bm x (hl x (List.mem_cons_self ..)) ad len cap h0 w hw h1
   |d+1,hd=>
    have:=De bm d hd l hl len hlen hln h0 a cap hc (dM bm d om) w hw ho hr;have e1:l.take (min len (2^d))=l.take (2^d):=by
     rcases Nat.le_total len (2^d)with h|h
     ·rw[Nat.min_eq_left h,List.take_of_length_le om,List.take_of_length_le om]
     ·rw[Nat.min_eq_right h]
    have e2:l.drop (min len (2^d))=l.drop (2^d):=by
     rcases Nat.le_total len (2^d)with h|h
     ·rw[Nat.min_eq_left h,List.drop_of_length_le om,List.drop_of_length_le om]
     ·rw[Nat.min_eq_right h]
    rw[e1,e2]at this;exact this
end
section
open Go.RowKit
open Sh
theorem ent115:aL prog 115:=λ_ _=>kr
theorem ent80:aL prog 80:=λ_ _=>kr
theorem ent151:aL prog 151:=λ_ _=>kr
theorem ent116:aL prog 116:=λ_ _=>kr
theorem ent186:aL prog 186:=λ_ _=>kr
theorem ent75:aL prog 75:=λ_ _=>kr
theorem ent112:aL prog 112:=λ_ _=>kr
def Fr8(w w':World)(v:Value)(xs:L8):Prop:= ∃a cap,v=.slice a xs.length cap/\SlV 5 w' a cap (xs.map U8)/\New w a
theorem wy{w w':World}{L:Hl}{n b:Nat}{xs:L8}(hp:Hp (pl w) L w')(hl:lkB L n=some (b,xs.map U8,5)):Fr8 w w' (.slice (spt b) xs.length xs.length) xs:=
 ⟨_,_,rfl,.inr ⟨b,_,rfl,(hp.own n b _ 5 hl).1,aB,aB,by rw[List.take_of_length_le (Nat.le_refl _)]⟩,λ_ e=>by cases e;exact (hp.own n b _ 5 hl).2.elim id False.elim⟩
def le8(n:BitVec 64)(k:Nat):L8:=(List.range k).map λi=>(n>>>(8*i)).setWidth 8
theorem ej(n:BitVec 64)(k:Nat):(le8 n k).length=k:=by simp[le8]
theorem F6(n:BitVec 64)(k:Nat):le8 n (k+1)=le8 n k++[(n>>>(8*k)).setWidth 8]:=by simp[le8,List.range_succ]
theorem Ey{α:Type}(xs:List α)(x z:α)(m:Nat):(xs++List.replicate (m+1) z).set xs.length x=(xs++[x])++List.replicate m z:=by
 rw[List.set_append_right _ _ (Nat.le_refl _),Nat.sub_self,List.replicate_succ,List.set_cons_zero,List.append_assoc];rfl
theorem D6(n:BitVec 64)(k:Nat)(hk:k<8):(le8 n k++List.replicate (8-k) 0#8).set k ((n>>>(8*k)).setWidth 8)=le8 n (k+1)++List.replicate (8-(k+1)) 0#8:=by
 have:=Ey (le8 n k) ((n>>>(8*k)).setWidth 8) 0#8 (7-k);rw[ej,show 7-k+1=8-k from by omega]at this
 rw[this,F6,show 8-(k+1)=7-k from by omega]
theorem IC(n:BitVec 64)(k:Nat)(t:TypeId)(w:World):(binOp .shr t (U64 n) (I (8*(k:Int)))).run prog w=.ok (U64 (n>>>(8*k))) w:=
 (cB t n _ om).trans (by rw[show ((8*(k:Int))).toNat=8*k from by omega])
attribute [local simp] ej
theorem yK(n:BitVec 64)(w:World)(hw:Gt w):CLS 116 [U64 n].toArray w (λe w'=> ∃v,e=.returned v/\Grow w w'/\Fr8 w w' v (le8 n 8)):=by
 refine Hf func116 O hw<|λhGF=>Xp<|Asg O<|aa<|Xp<|ic (l:=8) (m:=8) (c:=(List.replicate (8) 0#8).map U8) 5 hGF O O (Nat.le_refl _) underlying123 ti5 ⟨om,om,om⟩ (by rw[Nat.mul_one];exact zC _) O O<|λb5=>Asg O<|aa<|ah<|Xp<|Mv O<|bB O (λ_=>aO underlying123 _ _ _ _) O O<|Mv O<|aa<|au<|bW (ι:={i:Nat // i<=8}) (λx=>[(0,U64 n),(3,.slice (spt b5) 8 8),(7,I 8),(8,I (x.1:Int))]) (λx=>[(5,b5,(le8 n x.1++List.replicate (8-x.1) 0#8).map U8,5)]) (λx=>8-x.1) ⟨0,om⟩ hGF trv trv<|?_
 rintro ⟨k,hk⟩;dsimp only;refine Xp<|Bnr O O (λ_=>aI _ _ _)<|aa<|ah<|?_;refine cx O (λhc=> ?_) (λhc=> ?_)
 ·have hlt:k<8:=by simp at hc;omega
  clear hc;refine aw<|ah<|au<|Xp<|Mv O<|Asg O<|aa<|Xq<|Mv O<|Mv O<|Mv O<|Mv O<|Bnr O O (λ_=>bT _ _ _ aG)<|Bnr (v:=U64 (n>>>(8*k))) O O (λ_=>IC n k _ _)<|bI O O (λ_=>ci underlying22 underlying5 _) O O<|j4 k O O underlying123 sizeOf5 O hlt O O<|bO 5 U8 hGF O O O sizeOf5 O (by simp;omega) O<|?_
  rw[show 0+k=k from Nat.zero_add k,D6 n k hlt];refine aa<|Xq<|Bnr (v:=I (((k+1:Nat):Int))) O O (λ_=>(ay _ _ _ aG).trans aE)<|Mv O<|aa<|?_
  repeat (refine bh ?_)
  exact aY<|⟨rfl,⟨k+1,om⟩,_,by show 8-(k+1)<8-k;omega,rfl,trv,trv⟩
 ·obtain rfl:k=8:=by simp at hc;omega
  refine bv<|Xp<|Mv O<|Asg O<|aa<|ao<|Rr<|?_;exact ar O O (λw' hw'=>⟨_,rfl,ae hw',wy (n:=5) (xs:=le8 n 8) hw' (by simp;rfl)⟩)
def szB(n:Nat):Nat:=(n+7) / 8
def pb(l:List Bool):Nat->L8
 |0=>List.replicate (szB l.length) 0#8
 |j+1=>bif l.getD j false then (pb l j).set (j / 8) ((pb l j).getD (j / 8) 0#8|||1#8<<<(j % 8))else pb l j
theorem Az(l:List Bool): ∀j,(pb l j).length=szB l.length
 |0=>by simp[pb]
 |j+1=>by unfold pb;cases l.getD j false<;>simp[Az l j]
def Mh(bs:L8)(t:Nat):Bool:=(bs.getD (t / 8) 0#8>>>(t % 8)) &&& 1#8==1#8
def bt(bs:L8)(n:Nat):List Bool:=(List.range n).map (Mh bs)
theorem Ie(bs:L8)(n:Nat):(bt bs n).length=n:=by simp[bt]
attribute [local simp] Az Ie
structure Ap8(w0:World)(a0:Option Addr)(w:World)(a:Option Addr)(cap:Nat)(xs:L8):Prop where
 g:Gt w
 m:MM (Of a0) w0 w
 s:SlV 5 w a cap (xs.map U8)
 o: ∀k,Of a k->Of a0 k\/w0.heap.size<=k
theorem Ap8.low{w0 w:World}{a0 a:Option Addr}{cap:Nat}{xs:L8}(h:Ap8 w0 a0 w a cap xs)(hl: ∀k,Of a0 k->6<=k)(hw:Gt w0): ∀k,Of a k->6<=k:=λk hk=>by
 rcases h.o k hk with h1|h1
 ·exact hl k h1
 ·exact Nat.le_trans (gt_low.size w0 hw) h1
theorem Ap8.grow{w0 w w1:World}{a0 a:Option Addr}{cap:Nat}{xs:L8}(h:Ap8 w0 a0 w a cap xs)(hg:Grow w w1):Ap8 w0 a0 w1 a cap xs:=⟨gt_low.grow h.g hg,h.m.trans (aZ hg),h.s.grow hg,h.o⟩
theorem Ap8.next{w0 w w1 w2:World}{a0 a a1:Option Addr}{cap cap1:Nat}{xs ys:L8}(h:Ap8 w0 a0 w a cap xs)(hg:Grow w w1)(g2:Gt w2)(hm:MM (Of a) w1 w2)(hs:SlV 5 w2 a1 cap1 (ys.map U8))(ho: ∀k,Of a1 k->Of a k\/w1.heap.size<=k):Ap8 w0 a0 w2 a1 cap1 ys where
 g:=g2
 m:=(h.m.trans (aZ hg)).trans' hm λk hk hl=>(h.o k hk).resolve_right om
 s:=hs
 o:=λk hk=>by
  rcases ho k hk with h1|h1
  ·exact h.o k h1
  ·exact .inr (Nat.le_trans h.m.size (Nat.le_trans hg.size h1))
theorem yF(n:BitVec 64)(xs:L8)(a:Option Addr)(cap:Nat)(hl:xs.length<=1000000)(w:World)(hw:Gt w)(hs:SlV 5 w a cap (xs.map U8))(hlow: ∀k,Of a k->6<=k):CLS 112 [.slice a xs.length cap,U64 n].toArray w (λe w'=> ∃a1 cap1,e=.returned (.slice a1 (xs++le8 n 8).length cap1)/\Ap8 w a w' a1 cap1 (xs++le8 n 8)):=by
 refine Hf func112 O hw<|λhGF=>Xp<|Asg O<|aa<|ah<|Xp<|Asg O<|aa<|au<|j8 gt_low (ι:={x:Nat×World×Option Addr×Nat // x.1<=8/\Ap8 w a x.2.1 x.2.2.1 x.2.2.2 (xs++le8 n x.1)}) (λx=>[(0,.slice x.1.2.2.1 (xs++le8 n x.1.1).length x.1.2.2.2),(1,U64 n),(5,I (x.1.1:Int))]) (λx=>x.1.2.1) (λx=>8-x.1.1) ⟨(0,w,a,cap),om,hw,aZ (Grow.refl w),by simpa [le8]using hs,λ_ h=>.inl h⟩ (λx=>x.2.2.g) O ⟨by rw[show (xs++le8 n 0).length=xs.length from by simp[le8]];rfl,rfl,rfl,trivial⟩<|?_
 rintro ⟨⟨k,wk,ak,ck⟩,hk,hA⟩;dsimp only at hk hA⊢;have hGF:BOk Gt (pl wk):=gt_low.plain hA.g;refine ah<|Xp<|Mv O<|Bnr O O (λ_=>aI _ _ _)<|aa<|?_;refine cx O (λhc=> ?_) (λhc=> ?_)
 ·have hlt:k<8:=by simp at hc;omega
  clear hc;refine aw<|ah<|au<|Xq<|Mv O<|Mv O<|Mv O<|Bnr O O (λ_=>bT _ _ _ aG)<|Bnr (v:=U64 (n>>>(8*k))) O O (λ_=>IC n k _ _)<|bI O O (λ_=>ci underlying22 underlying5 _) O O<|jz 16 [((n>>>(8*k)).setWidth 8)] hGF O O O aC aC underlying123 sizeOf5 zeroValue5 O O<|?_;intro b16;refine C8 (xs:=xs++le8 n k) (ys:=[((n>>>(8*k)).setWidth 8)]) gt_low (λw' h=>hGF.g _ _ _ h) O O underlying123 underlying123 ti5 (λw' h=>hA.s.grow (ae h)) (hA.low hlow hw) (λw' h=>BytesAt.range (av (n:=16) O w' h)) (λw' h _ ad e hof=>by cases e;obtain ⟨ad2,e2,e3⟩:=hof;exact absurd (hA.s.lt ad2 e2) (by rw[<-e3];exact Nat.not_lt.2 ((h.own 16 _ _ _ O).2.elim id False.elim))) (by simp[ej];omega) O O (λw1 w2 a1 cap1 hC g2 hm hs ho=> ?_)
  rw[List.append_assoc,<-F6]at hs⊢;have hA2:=hA.next (ae hC) g2 hm hs ho
  refine Asg O<|aa<|Xq<|Mv O<|Bnr (v:=I (((k+1:Nat):Int))) O O (λ_=>(ay _ _ _ aG).trans aE)<|Asg O<|aa<|?_
  repeat (refine bh ?_)
  exact aY<|⟨rfl,⟨(k+1,w2,a1,cap1),by show k+1<=8;omega,hA2⟩,by show 8-(k+1)<8-k;omega,rfl,trv⟩
 ·obtain rfl:k=8:=by simp at hc;omega
  refine bv<|Xp<|Mv O<|Asg O<|aa<|ao<|Rr<|?_;exact ar O O (λw' hw'=>⟨ak,ck,rfl,hA.grow (ae hw')⟩)
def Il(a:Option Addr)(c m:Nat):Option Addr:=if c=m then a else a.map (·.add (m*1))
theorem wA{w:World}{a:Option Addr}{bs:L8}(h:BytesAt w a bs){c:Nat}(hc:bs.length<=c)(m:Nat):BytesAt w (Il a c m) (bs.drop m):=by
 have:=h.cut m bs.length hc
 rwa [List.take_of_length_le (by rw[List.length_drop];omega)]at this
theorem cut0(a:Option Addr)(m:Nat):(if m=0 then a else a.map (·.add (0*1)))=a:=by
 cases a with
 |none=>simp
 |some ad=>simp[Addr.add]
theorem tiR:TI prog 27 (.agg ((List.replicate 32 0#8).map U8).toArray) 32 32:=lN kr
def ei(bs:L8):L8:=bs++List.replicate (32-bs.length) 0#8
theorem eU{bs:L8}(h:bs.length<=32):(ei bs).length=32:=by simp[ei];omega
theorem rx(bs:L8)(len:Nat)(hlen:bs.length=len)(hl:len<=32)(a:Option Addr)(cap:Nat)(w:World)(hw:Gt w)(hb:BytesAt w a bs):CLS 115 [.slice a len cap].toArray w (λe w'=>e=.returned (.agg ((ei bs).map U8).toArray)/\Grow w w'):=by
 refine Hf func115 O hw<|λhGF=>Xp<|Al 2 hGF zv27<|λb2=>aa<|Xp<|Al 3 hGF zv27<|λb3=>aa<|Xp<|ct (l:=0) (h':=32) O underlying27 sizeOf5 O O om om O O<|Mv O<|ek (cs:=bs) 3 hGF O O O underlying123 kr (by rw[hlen];exact (Nat.min_eq_left hl).symm) (λw' h=>hb.grow (ae h)) (by simp;omega) O O<|?_
 rw[kU bs 32 om];refine aa<|Xp<|Lw 3 O O rM (by rw[show (bs++List.replicate (32-bs.length) 0#8).length=32 from eU om])<|Sx 2 hGF O O O rM (by rw[show (bs++List.replicate (32-bs.length) 0#8).length=32 from eU om]) (bg _)<|aa<|ao<|Rr<|?_
 exact aF 2 O O O isAgg27 sizeOf27 (by rw[List.length_map];exact eU om) (λw' hw'=>⟨rfl,ae hw'⟩)
theorem rd(n:BitVec 64)(w:World)(hw:Gt w):CLS 80 [U64 n].toArray w (λe w'=>e=.returned (.agg ((ei (le8 n 8)).map U8).toArray)/\Grow w w'):=by
 refine Hf func80 O hw<|λhGF=>am (E:=EE [116])<|Al 2 hGF zv27<|λb2=>aa<|am (E:=EE [116])<|Mv O<|?_;refine cn O O ent116 O O (λw1 hC=>(yK n w1 (hGF.g _ _ _ hC)).mono λe1 w2 h=> ?_);obtain ⟨_,rfl,hg,a2,c2,rfl,hsl,hnew⟩:=h;obtain ⟨q,rfl,hqs,hqr⟩:=hsl.at (show (le8 n 8).map U8≠[]from λh=>by have:=congrArg List.length h;simp[ej]at this)
 have hq0:w1.heap.size<=q:=hnew _ O;refine ⟨_,_,rfl,aU (xG hGF),Fw hC hGF.r hg hq0 hqs hqr, ?_⟩;have hGF:=xG (b:=q) (cs:=(le8 n 8).map U8) hGF;clear hC;refine Cc O ent115 (λw3 hC hG=>rx (le8 n 8) 8 (ej _ _) om (spt q) c2 w3 hG (BytesAt.range (F9 hC)))<|ai 2 hGF O O O sizeOf27 (by rw[List.length_map,eU (by rw[ej];omega)]) aB (bg _) O<|aa<|ao<|Rr<|?_
 exact aF 2 O O O isAgg27 sizeOf27 (by rw[List.length_map];exact eU (by rw[ej];omega)) (λw' hw'=>⟨rfl,ae (oU hw')⟩)
theorem ni(n:BitVec 64)(w:World)(hw:Gt w):CLS 75 [U64 n].toArray w (λe w'=>e=.returned (.agg ((ei (le8 n 8)).map U8).toArray)/\Grow w w'):=by
 refine Hf func75 O hw<|λhGF=>am (E:=EE [112])<|Al 2 hGF zv27<|λb2=>aa<|am (E:=EE [112])<|Al 3 hGF zv27<|λb3=>aa<|Xd [112]<|ct (l:=0) (h':=32) O underlying27 sizeOf5 O O om om O O<|Mv O<|?_;refine cn O O ent112 O O (λw1 hC=>(yF n [] none 0 aB w1 (hGF.g _ _ _ hC) (.inl ⟨rfl,rfl,rfl⟩) (λk ⟨ad,e,_⟩=>by cases e)).mono λe1 w2 h=> ?_)
 obtain ⟨a2,c2,rfl,hA⟩:=h;have hg:Grow w1 w2:=hA.m.grow (λk _ ⟨ad,e,_⟩=>by cases e)
 have hsl:=hA.s;have hnew:New w1 a2:=λad e=>(hA.o ad.block ⟨ad,e,rfl⟩).resolve_left (λ⟨ad,e,_⟩=>by cases e)
 rw[List.nil_append]at hsl⊢;rw[ej];obtain ⟨q,rfl,hqs,hqr⟩:=hsl.at (show (le8 n 8).map U8≠[]from λh=>by have:=congrArg List.length h;simp[ej]at this)
 have hq0:w1.heap.size<=q:=hnew _ O;refine ⟨_,_,rfl,aU (xG hGF),Fw hC hGF.r hg hq0 hqs hqr, ?_⟩;have hGF:=xG (b:=q) (cs:=(le8 n 8).map U8) hGF;clear hC;refine ek (cs:=(le8 n 8)) 3 hGF O O O underlying123 kr (by rw[ej];rfl) (λw' h=>BytesAt.range (F9 h)) (by simp[ej]) O O ?_
 rw[kU (le8 n 8) 32 (by rw[ej];omega)]
 refine aa<|am (E:=EE [112])<|aq 3 O O isAgg27 sizeOf27 (by rw[List.length_map,show ((le8 n 8)++List.replicate (32-(le8 n 8).length) 0#8).length=32 from eU (by rw[ej];omega)]) O O<|ai 2 hGF O O O sizeOf27 (by rw[List.length_map,show ((le8 n 8)++List.replicate (32-(le8 n 8).length) 0#8).length=32 from eU (by rw[ej];omega)]) aB (bg _) O<|aa<|ao<|Rr<|?_
 exact aF 2 O O O isAgg27 sizeOf27 (by rw[List.length_map];exact eU (by rw[ej];omega)) (λw' hw'=>⟨rfl,ae (oU hw')⟩)
def ck(bs:L8)(i:Nat):L8:=ei ((bs.drop (32*i)).take 32)
theorem jZ(bs:L8)(i:Nat):(ck bs i).length=32:=eU (by rw[List.length_take];omega)
def cks(bs:L8):Nat:=(bs.length+31) / 32
def SlR(w:World)(a:Option Addr)(cap n:Nat)(f:Nat->L8):Prop:=SlW 27 32 w a cap n ((RW 32 f n).map U8)
structure ApR(w0 w:World)(a:Option Addr)(cap n:Nat)(f:Nat->L8):Prop where
 g:Gt w
 m:Grow w0 w
 s:SlR w a cap n f
 o:New w0 a
theorem ApR.low{w0 w:World}{a:Option Addr}{cap n:Nat}{f:Nat->L8}(h:ApR w0 w a cap n f)(hw:Gt w0): ∀k,Of a k->6<=k:=λk ⟨ad,e,hk⟩=>by
 subst hk;exact Nat.le_trans (gt_low.size w0 hw) (h.o ad e)
theorem ApR.next{w0 w w1 w2:World}{a a1:Option Addr}{cap cap1 n:Nat}{f:Nat->L8}(h:ApR w0 w a cap n f)(hf:(f n).length=32)(hg:Grow w w1)(g2:Gt w2)(hm:MM (Of a) w1 w2)(hs:SlW 27 32 w2 a1 cap1 (n+1) ((RW 32 f n).map U8++(f n).map U8))(ho: ∀k,Of a1 k->Of a k\/w1.heap.size<=k):ApR w0 w2 a1 cap1 (n+1) f where
 g:=g2
 m:=hm.grow0 (h.m.trans hg) λk ⟨ad,e,hk⟩=>by subst hk;exact h.o ad e
 s:=by unfold SlR;rw[oq f n hf,List.map_append];exact hs
 o:=λad e=>by
  rcases ho ad.block ⟨ad,e,rfl⟩with ⟨ad2,e2,e3⟩|h1
  ·rw[e3];exact h.o ad2 e2
  ·exact Nat.le_trans h.m.size (Nat.le_trans hg.size h1)
def FrR(w w':World)(v:Value)(n:Nat)(f:Nat->L8):Prop:= ∃a cap,v=.slice a n cap/\SlR w' a cap n f/\New w a
theorem sX(bs:L8)(k:Nat):bs.drop (32*(k+1))=(bs.drop (32*k)).drop (min 32 (bs.drop (32*k)).length):=by
 rw[List.drop_drop,List.length_drop];rcases Nat.lt_or_ge bs.length (32*k+32)with h|h
 ·rw[List.drop_of_length_le om,List.drop_of_length_le om]
 ·congr 1;omega
theorem Hn(bs:L8)(k:Nat):(bs.drop (32*(k+1))).length=(bs.drop (32*k)).length-min 32 (bs.drop (32*k)).length:=by
 rw[sX,List.length_drop]
theorem nh(bs:L8)(a:Option Addr)(cap:Nat)(hl:bs.length<=1000000)(hc0:bs.length<=cap)(w:World)(hw:Gt w)(hb:BytesAt w a bs):CLS 151 [.slice a bs.length cap].toArray w (λe w'=> ∃v,e=.returned v/\Grow w w'/\FrR w w' v (cks bs) (ck bs)):=by
 refine Hf func151 O hw<|λhGF=>Xp<|Asg O<|aa<|Xp<|Asg O<|aa<|ah<|au<|j8 gt_low (ι:={x:(Nat×World×Option Addr×Nat)×Option Addr×Nat // x.1.1<=cks bs/\ApR w x.1.2.1 x.1.2.2.1 x.1.2.2.2 x.1.1 (ck bs)/\BytesAt w x.2.1 (bs.drop (32*x.1.1))/\(bs.drop (32*x.1.1)).length<=x.2.2}) (λx=>[(0,.slice x.1.2.1 (bs.drop (32*x.1.1.1)).length x.1.2.2),(3,.slice x.1.1.2.2.1 x.1.1.1 x.1.1.2.2.2)]) (λx=>x.1.1.2.1) (λx=>cks bs-x.1.1.1) ⟨((0,w,none,0),a,cap),Nat.zero_le _,⟨hw,Grow.refl w,.inl ⟨rfl,rfl,rfl,rfl⟩,λ_ h=>by cases h⟩,hb,hc0⟩ (λx=>x.2.2.1.g) O trv<|?_
 rintro ⟨⟨⟨k,wk,ak,ck'⟩,ab,cb⟩,hk,hA,hbk,hcb⟩;dsimp only at hk hA hbk hcb⊢;have hGF:BOk Gt (pl wk):=gt_low.plain hA.g;have hrl:(bs.drop (32*k)).length=bs.length-32*k:=List.length_drop;have hkc:k<=1000000:=by unfold cks at hk;omega
 refine ah<|Xp<|Mv O<|bB O (λ_=>aO underlying123 _ _ _ _) O O<|Bnr O O (λ_=>dE _ _ _)<|aa<|?_;refine cx O (λhc=> ?_) (λhc=> ?_)
 ·have hlt:0<bs.length-32*k:=by simp at hc;omega
  clear hc;refine aw<|au<|Xp<|Mv O<|bB O (λ_=>aO underlying123 _ _ _ _) O O<|ki (z:=(((min 32 (bs.drop (32*k)).length):Nat):Int)) O O (by split<;>omega) O O<|Asg O<|aa<|Xp<|Mv O<|Mv O<|Mv O<|Mv O<|o0 (l:=0) (h':=(min 32 (bs.drop (32*k)).length)) (m:=(min 32 (bs.drop (32*k)).length)) O underlying123 sizeOf5 O O O ⟨Nat.zero_le _,Nat.le_refl _,om⟩ O O<|?_
  rw[cut0,Nat.sub_zero];refine Cc O ent115 (λw3 hC hG=>rx ((bs.drop (32*k)).take 32) (min 32 (bs.drop (32*k)).length) (by rw[List.length_take]) om ab (min 32 (bs.drop (32*k)).length) w3 hG ((hbk.grow (hA.m.trans (ae hC))).take 32)) ?_
  rw[show ei ((bs.drop (32*k)).take 32)=ck bs k from O];refine ig 17 ((ck bs k).map U8) hGF O (by rw[List.length_map,jZ]) aC aC underlying86 sizeOf27 zv27 O O ?_
  intro b17;refine j2 (ys:=(ck bs k).map U8) gt_low (λw' h=>hGF.g _ _ _ h) O O underlying86 underlying86 tiR (by simp[Value.cells]) (λw' h=>hA.s.grow (ae h)) (hA.low hw) (by rw[List.length_map];exact jZ bs k) (av (n:=17) O) (bg _) (λw' h hof=>absurd (hA.s.lt _ hof) (Nat.not_lt.2 ((h.own 17 _ _ _ O).2.elim id False.elim))) om om O O (λw1 w2 a1 cap1 hC g2 hm hs ho=> ?_)
  have hA2:=hA.next (jZ bs k) (ae hC) g2 hm hs ho
  have hGF:BOk Gt (pl w2):=gt_low.plain g2;refine Asg O<|aa<|Xq<|Mv O<|Mv O<|eG (l:=(min 32 (bs.drop (32*k)).length)) (h':=(bs.drop (32*k)).length) O underlying123 sizeOf5 O O ⟨om,hcb⟩ O O<|Asg O<|aa<|?_
  repeat (refine bh ?_)
  exact aY<|⟨rfl,⟨((k+1,w2,a1,cap1),Il ab cb (min 32 (bs.drop (32*k)).length),cb-(min 32 (bs.drop (32*k)).length)),by show k+1<=cks bs;unfold cks;omega,hA2,by rw[sX];exact wA hbk hcb _,by rw[sX,List.length_drop];show _-_<=cb-(min 32 (bs.drop (32*k)).length);omega⟩,by show cks bs-(k+1)<cks bs-k;unfold cks;omega,rfl,⟨by show _=some (Value.slice (Il ab cb (min 32 (bs.drop (32*k)).length)) (bs.drop (32*(k+1))).length (cb-(min 32 (bs.drop (32*k)).length)));rw[Hn];rfl,rfl,trivial⟩⟩
 ·have hke:k=cks bs:=by simp at hc;unfold cks at hk⊢;omega
  clear hc;subst hke;refine bv<|Xp<|Mv O<|Asg O<|aa<|ao<|Rr<|?_;exact ar O O (λw' hw'=>⟨_,rfl,hA.m.trans (ae hw'),ak,ck',rfl,hA.s.grow (ae hw'),hA.o⟩)
theorem rm(bs:L8)(a:Option Addr)(cap:Nat)(hl:bs.length<=1000000)(hc0:bs.length<=cap)(w:World)(hw:Gt w)(hb:BytesAt w a bs):CLS 186 [.slice a bs.length cap].toArray w (λe w'=> ∃v,e=.returned v/\Grow w w'/\FrR w w' v (cks bs) (ck bs)):=by
 refine Hf func186 O hw<|λhGF=>Xp<|Asg O<|aa<|Xp<|Asg O<|aa<|ah<|Xp<|Asg O<|aa<|au<|j8 gt_low (ι:={x:Nat×World×Option Addr×Nat // x.1<=cks bs/\ApR w x.2.1 x.2.2.1 x.2.2.2 x.1 (ck bs)}) (λx=>[(0,.slice a bs.length cap),(3,.slice x.1.2.2.1 x.1.1 x.1.2.2.2),(4,I ((32*x.1.1:Nat):Int))]) (λx=>x.1.2.1) (λx=>cks bs-x.1.1) ⟨(0,w,none,0),Nat.zero_le _,⟨hw,Grow.refl w,.inl ⟨rfl,rfl,rfl,rfl⟩,λ_ h=>by cases h⟩⟩ (λx=>x.2.2.g) O trv<|?_
 rintro ⟨⟨k,wk,ak,ck'⟩,hk,hA⟩;dsimp only at hk hA⊢;have hGF:BOk Gt (pl wk):=gt_low.plain hA.g;have hkc:k<=1000000:=by unfold cks at hk;omega
 refine ah<|Xp<|Mv O<|Mv O<|bB O (λ_=>aO underlying123 _ _ _ _) O O<|Bnr O O (λ_=>aI _ _ _)<|aa<|?_;refine cx O (λhc=> ?_) (λhc=> ?_)
 ·have hlt:32*k<bs.length:=by simp at hc;omega
  clear hc;refine aw<|ah<|au<|Xp<|Al 5 hGF zv27<|λb5=>aa<|Xd []<|ct (l:=0) (h':=32) O underlying27 sizeOf5 O O om om O O<|Mv O<|Mv O<|Mv O<|Bnr (v:=I (((32*k+32:Nat):Int))) O O (λ_=>(ay _ _ _ aG).trans aE)<|Mv O<|bB O (λ_=>aO underlying123 _ _ _ _) O O<|ki (z:=(((min (32*k+32) bs.length):Nat):Int)) O O (by split<;>omega) O O<|eG (l:=32*k) (h':=(min (32*k+32) bs.length)) O underlying123 sizeOf5 O O ⟨om,om⟩ O O<|ek (cs:=(bs.drop (32*k)).take 32) 5 hGF O O O underlying123 kr (by rw[List.length_take,List.length_drop];show min 32 (bs.length-32*k)=min ((min (32*k+32) bs.length)-32*k) (32-0);omega) (λw' h=>(wA (hb.grow (hA.m.trans (ae h))) hc0 (32*k)).take 32) (by simp;omega) O O<|?_
  rw[kU ((bs.drop (32*k)).take 32) 32 (by rw[List.length_take];omega)]
  rw[show (bs.drop (32*k)).take 32++List.replicate (32-((bs.drop (32*k)).take 32).length) 0#8=ck bs k from O];refine aa<|Xq<|Mv O<|Lw 5 O O rM (jZ _ _)<|ig 24 ((ck bs k).map U8) hGF O (by rw[List.length_map,jZ]) aC aC underlying86 sizeOf27 zv27 O O<|?_
  intro b24;refine j2 (ys:=(ck bs k).map U8) gt_low (λw' h=>hGF.g _ _ _ h) O O underlying86 underlying86 tiR (by simp[Value.cells]) (λw' h=>hA.s.grow (ae h)) (hA.low hw) (by rw[List.length_map];exact jZ bs k) (av (n:=24) O) (bg _) (λw' h hof=>absurd (hA.s.lt _ hof) (Nat.not_lt.2 ((h.own 24 _ _ _ O).2.elim id False.elim))) om om O O (λw1 w2 a1 cap1 hC g2 hm hs ho=> ?_)
  have hA2:=hA.next (jZ bs k) (ae hC) g2 hm hs ho
  have hGF:BOk Gt (pl w2):=gt_low.plain g2;refine Asg O<|aa<|Xq<|Mv O<|Bnr (v:=I (((32*k+32:Nat):Int))) O O (λ_=>(ay _ _ _ aG).trans aE)<|Asg O<|aa<|?_
  repeat (refine bh ?_)
  exact aY<|⟨rfl,⟨(k+1,w2,a1,cap1),by show k+1<=cks bs;unfold cks;omega,hA2⟩,by show cks bs-(k+1)<cks bs-k;unfold cks;omega,rfl,trv⟩
 ·have hke:k=cks bs:=by simp at hc;unfold cks at hk⊢;omega
  clear hc;subst hke;refine bv<|Xp<|Mv O<|Asg O<|aa<|ao<|Rr<|?_;exact ar O O (λw' hw'=>⟨_,rfl,hA.m.trans (ae hw'),ak,ck',rfl,hA.s.grow (ae hw'),hA.o⟩)
end
section
open Go.RowKit
open Sh
theorem ent76:aL prog 76:=λ_ _=>kr
theorem ent152:aL prog 152:=λ_ _=>kr
theorem ent121:aL prog 121:=λ_ _=>kr
theorem ent34:aL prog 34:=λ_ _=>kr
theorem AG(v:Value)(s:Nat)(hs:0<s)(n:Nat):(madeCells (List.replicate s v).toArray n).toList=List.replicate n v:=by
 rw[madeCells];refine List.ext_getElem aB λi h1 h2=> ?_;have h3:i % s<s:=Nat.mod_lt _ hs;simp[h3]
theorem qa(n:Nat):(madeCells (Value.agg (Z0.map U8).toArray).cells (n*32)).toList=(List.replicate (32*n) 0#8).map U8:=by
 have hz:(Value.agg (Z0.map U8).toArray).cells=(List.replicate 32 (U8 0#8)).toArray:=by
  show (Z0.map U8).toArray=_;rw[Z0,List.map_replicate]
 rw[hz,AG _ 32 aC,List.map_replicate,Nat.mul_comm]
theorem cR: ∀(l:List Rt),AllR l->l.flatten.length=32*l.length
 |[],_=>rfl
 |x::l,h=>by
  rw[List.flatten_cons,List.length_append,cR l (λr hr=>h r (List.mem_cons_of_mem _ hr)),h x (List.mem_cons_self ..),List.length_cons];omega
theorem qe: ∀(l:List Rt),AllR l->∀(i:Nat) (r:Rt),l[i]? =some r->∀(j:Nat) (v:BitVec 8),r[j]? =some v->l.flatten[i*32+j]? =some v
 |[],_,_,_,hr,_,_,_=>by simp at hr
 |x::l,h,0,r,hr,j,v,hv=>by
  simp only[List.getElem?_cons_zero,Option.some.injEq]at hr;subst hr;have hj:=(List.getElem?_eq_some_iff.1 hv).1;rw[List.flatten_cons,Nat.zero_mul,Nat.zero_add,List.getElem?_append_left hj];exact hv
 |x::l,h,i+1,r,hr,j,v,hv=>by
  simp only[List.getElem?_cons_succ]at hr;have hx:=h x (List.mem_cons_self ..);rw[List.flatten_cons,List.getElem?_append_right om,show (i+1)*32+j-x.length=i*32+j from by omega]
  exact qe l (λr hr=>h r (List.mem_cons_of_mem _ hr)) i r hr j v hv
theorem n8{w:World}{b:Nat}{cs:List Value}{l:List Rt}(hl:AllR l)(h:w.rangeAt b 0 cs)(hc:cs.take (32*l.length)=l.flatten.map U8):RtsAt w (spt b) l:=λi r hr=>by
 refine ⟨_,rfl,λj v hv=> ?_⟩;rw[List.getElem?_map,Option.map_eq_some_iff]at hv;obtain ⟨x,hx,rfl⟩:=hv;have hj:=(List.getElem?_eq_some_iff.1 hx).1;have hr32:=hl r (List.mem_of_getElem? hr);have hi:=(List.getElem?_eq_some_iff.1 hr).1;have h1:=qe l hl i r hr j x hx;have h2:cs[i*32+j]? =some (U8 x):=by
  have:(cs.take (32*l.length))[i*32+j]? =some (U8 x):=by rw[hc,List.getElem?_map,h1];rfl
  rw[List.getElem?_take,if_pos om]at this;exact this
 have h3:=h _ _ h2;rw[Addr.add_mid,Addr.add_mid];rw[Nat.zero_add]at h3;rw[Nat.zero_add];exact h3
def FrL(w w':World)(v:Value)(l:List Rt):Prop:= ∃a cap,v=.slice a l.length cap/\SlW 27 32 w' a cap l.length (l.flatten.map U8)/\New w a
theorem SlW.rts{w:World}{a:Option Addr}{cap:Nat}{l:List Rt}(hl:AllR l)(h:SlW 27 32 w a cap l.length (l.flatten.map U8)):RtsAt w a l:=by
 by_cases h0:l=[]
 ·subst h0;intro i r hr;simp at hr
 ·obtain ⟨b,rfl,hr⟩:=h.at (λhe=>by
   have h1:=congrArg List.length he;rw[List.length_map,cR l hl]at h1;exact h0 (List.eq_nil_of_length_eq_zero (by simp at h1;omega)))
  refine n8 hl hr (List.take_of_length_le ?_);rw[List.length_map,cR l hl];exact Nat.le_refl _
theorem zv28(w:World):(zeroValue 28).run prog w=.ok (.agg ((List.replicate 32 0#8).map U8).toArray) w:=(zeroValue28 w).trans aE
def Tor(l:List Rt):Rt:=tre P2 Z0 (dep l.length) l
theorem cF{l:List Rt}(h:AllR l):(Tor l).length=32:=cz h _
def chs(bs:L8):List Rt:=(List.range (cks bs)).map (ck bs)
theorem gV(bs:L8):(chs bs).length=cks bs:=by simp[chs]
theorem gX(bs:L8):AllR (chs bs):=λr hr=>by
 obtain ⟨i,_,rfl⟩:=List.mem_map.1 hr;exact jZ bs i
theorem iG(l:List Rt)(hl:AllR l):RW 32 (λi=>l.getD i []) l.length=l.flatten:=by
 apply List.ext_getElem?;intro m;have hf:=cR l hl;rcases Nat.lt_or_ge m (32*l.length)with h|h
 ·rw[rQ _ _ _ h]
  have hi:m / 32<l.length:=om;have hr:l[m / 32]? =some l[m / 32]:=List.getElem?_eq_getElem hi;have hr32:=hl _ (List.getElem_mem hi);have hj:m % 32<l[m / 32].length:=om;have:=qe l hl (m / 32) _ hr (m % 32) _ (List.getElem?_eq_getElem hj);rw[show m / 32*32+m % 32=m from by omega]at this
  have e:l.getD (m / 32) []=l[m / 32]:=by rw[List.getD_eq_getElem?_getD,hr];rfl
  rw[this,e,List.getD_eq_getElem?_getD,List.getElem?_eq_getElem hj];rfl
 ·rw[List.getElem?_eq_none (by rw[nr];exact h),List.getElem?_eq_none (by rw[hf];exact h)]
theorem A4{f g:Nat->L8}{n:Nat}(h: ∀i,i<n->f i=g i):RW 32 f n=RW 32 g n:=by
 unfold RW;refine List.map_congr_left λm hm=> ?_;rw[h (m / 32) (by have:=List.mem_range.1 hm;omega)]
theorem tP(bs:L8):RW 32 (ck bs) (cks bs)=(chs bs).flatten:=by
 rw[<-iG _ (gX bs),gV];refine A4 λi hi=> ?_;rw[List.getD_eq_getElem?_getD,chs,List.getElem?_map,List.getElem?_range hi];rfl
def BR8(bs:L8):Rt:=Tor (chs bs)
theorem dF(bs:L8):(BR8 bs).length=32:=cF (gX bs)
theorem gq{B:Bs}{L:Hl}{Y:Nat->Prop}{n b:Nat}{l:List Rt}{c:List Value}{t:TypeId}(hl:AllR l)(h:lkB L n=some (b,c,t))(hc:c.take (32*l.length)=l.flatten.map U8): ∀w,Hq B L Y w->RtsAt w (spt b) l:=λw hw=>n8 hl (av (n:=n) h w hw) hc
theorem rV(w:World)(a:Option Addr):RtsAt w a []:=λi r h=>by simp at h
theorem qV(bm:Nat)(l:List Rt)(hl:AllR l)(hln:l.length<=1000000)(a:Option Addr)(cap:Nat)(hc:l.length<=cap)(w:World)(hw:Gt w)(ho:gZ w bm)(hr:RtsAt w a l):CLS 76 [.agg [pnt bm].toArray,.slice a l.length cap].toArray w (λe w'=>e=.returned (.agg ((Tor l).map U8).toArray)/\Grow w w'):=by
 refine Hf func76 O hw<|λhGF=>Xp<|Bx 2 hGF O<|λb2=>Al 4 hGF zv28<|λb4=>aa<|Xd []<|aq 2 O O isAgg47 sizeOf47 O O O<|Mv O<|Mv O<|bB O (λ_=>aO underlying86 _ _ _ _) O O<|Cc O ent113 (λw' _ hG=>iK (l.length:Int) w' hG)<|Cc O ent65 (λw' hw' hG=>dM bm _ (by have:=(nk l.length).1;simp only[Int.toNat_natCast];omega) l hl l.length O hln a cap hc w' hG (ho.of_same ((ae hw').block _ ho.lt)) (hr.grow (ae hw')))<|ai 4 hGF O O O sizeOf28 (by rw[List.length_map];exact cz hl _) (by rw[List.length_map];exact cL) (bg _) O<|aa<|ao<|Rr<|?_
 exact aF 4 O O O isAgg28 sizeOf28 (by rw[List.length_map];exact cz hl _) (λw' hw'=>⟨rfl,ae hw'⟩)
theorem KR(bm:Nat)(a:Option Addr)(cap:Nat)(w:World)(hw:Gt w)(ho:gZ w bm):CLS 152 [.agg [pnt bm].toArray,.slice a 0 cap].toArray w (λe w'=>e=.returned (.agg ((BR8 []).map U8).toArray)/\Grow w w'):=by
 refine Hf func152 O hw<|λhGF=>am (E:=EE [186])<|Bx 2 hGF O<|λb2=>Al 4 hGF zv27<|λb4=>aa<|am (E:=EE [186])<|Mv O<|?_;refine cn O O ent186 O O (λw' hw'=>(rm [] a cap aC (Nat.zero_le _) w' (hGF.g _ _ _ hw') (jJ _ _)).mono λe1 w2 h=> ?_);obtain ⟨_,rfl,hg,a9,c9,rfl,hs9,hn9⟩:=h;refine ⟨_,_,rfl,aU hGF,hw'.news aJ hg [] (λ_ _ _ _ h=>by cases h) (λ_ _ _ _ _ _ _ h=>by cases h), ?_⟩
 clear hw' hg hs9 hn9;refine Asg O<|aa<|Xd [186]<|aq 2 O O isAgg47 sizeOf47 O O O<|Mv O<|Mv O<|bB O (λ_=>aO underlying86 _ _ _ _) O O<|Cc O ent113 (λw' _ hG=>iK (0:Nat) w' hG)<|Cc O ent65 (λw' hw' hG=>dM bm _ (by have:=(nk (0)).1;simp only[Int.toNat_natCast];omega) [] (λ_ h=>by simp at h) (0) O (by first|decide|(rw[gV];unfold cks;omega)) _ c9 (by first|exact Nat.zero_le _|exact hc9) w' hG (ho.of_same ((ae hw').block _ ho.lt)) (rV _ _))<|ai 4 hGF O O O sizeOf27 (by rw[List.length_map];exact cz (λ_ h=>by simp at h) _) (by rw[List.length_map];exact cL) (bg _) O<|aa<|ao<|Rr<|?_
 exact aF 4 O O O isAgg27 sizeOf27 (by rw[List.length_map];exact cz (λ_ h=>by simp at h) _) (λw' hw'=>⟨rfl,ae hw'⟩)
theorem Mc(bm:Nat)(bs:L8)(h0:0<bs.length)(hl:bs.length<=1000000)(a:Option Addr)(cap:Nat)(hc:bs.length<=cap)(w:World)(hw:Gt w)(ho:gZ w bm)(hb:BytesAt w a bs):CLS 152 [.agg [pnt bm].toArray,.slice a bs.length cap].toArray w (λe w'=>e=.returned (.agg ((BR8 bs).map U8).toArray)/\Grow w w'):=by
 refine Hf func152 O hw<|λhGF=>am (E:=EE [186])<|Bx 2 hGF O<|λb2=>Al 4 hGF zv27<|λb4=>aa<|am (E:=EE [186])<|Mv O<|?_;refine cn O O ent186 O O (λw' hw'=>(rm bs a cap hl hc w' (hGF.g _ _ _ hw') (hb.grow (ae hw'))).mono λe1 w2 h=> ?_);obtain ⟨_,rfl,hg,a9,c9,rfl,hs9,hn9⟩:=h;unfold SlR at hs9;rw[tP,<-gV]at hs9;obtain ⟨b9,cs9,rfl,ho9,hl9,hc9,_,ht9⟩:=hs9.resolve_left (λh=>by have h3:=h.2.2.1;rw[gV]at h3;unfold cks at h3;omega)
 refine ⟨_,_,rfl,aU hGF,hw'.news aJ hg [(7,b9,cs9,27)] ?_ cE, ?_⟩
 ·intro n' b' c' t' hl
  rcases bx hl with ⟨_,e⟩|⟨_,hl⟩
  ·cases e;exact ⟨hn9 _ O,ho9⟩
  ·cases hl
 rw[<-gV];rw[List.length_map,cR _ (gX bs)]at ht9;clear hw' hg hn9 ho9;refine Asg O<|aa<|Xd [186]<|aq 2 O O isAgg47 sizeOf47 O O O<|Mv O<|Mv O<|bB O (λ_=>aO underlying86 _ _ _ _) O O<|Cc O ent113 (λw' _ hG=>iK ((chs bs).length:Nat) w' hG)<|Cc O ent65 (λw' hw' hG=>dM bm _ (by have:=(nk ((chs bs).length)).1;simp only[Int.toNat_natCast];omega) (chs bs) (gX bs) ((chs bs).length) O (by first|decide|(rw[gV];unfold cks;omega)) _ c9 (by first|exact Nat.zero_le _|exact hc9) w' hG (ho.of_same ((ae hw').block _ ho.lt)) (gq (n:=7) (gX bs) O ht9 w' hw'))<|ai 4 hGF O O O sizeOf27 (by rw[List.length_map];exact cz (gX bs) _) (by rw[List.length_map];exact cL) (bg _) O<|aa<|ao<|Rr<|?_
 exact aF 4 O O O isAgg27 sizeOf27 (by rw[List.length_map];exact cz (gX bs) _) (λw' hw'=>⟨rfl,ae hw'⟩)
theorem yi(bm:Nat)(bs:L8)(hl:bs.length<=1000000)(a:Option Addr)(cap:Nat)(hc:bs.length<=cap)(w:World)(hw:Gt w)(ho:gZ w bm)(hb:BytesAt w a bs):CLS 152 [.agg [pnt bm].toArray,.slice a bs.length cap].toArray w (λe w'=>e=.returned (.agg ((BR8 bs).map U8).toArray)/\Grow w w'):=by
   rcases Nat.eq_zero_or_pos bs.length with h0|h0
   ·obtain rfl:bs=[]:=List.eq_nil_of_length_eq_zero h0
    exact KR bm a cap w hw ho
   ·exact Mc bm bs h0 hl a cap hc w hw ho hb
end
end Go.Proofs.YtfakhlafilbjkaaGreatDoor
