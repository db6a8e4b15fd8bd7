/-
 The reference's elements of p, as functions of elements.
 The reference's root; what the laws of layer 3 share.
-/
import Derived.Test.YtodgbdcjjhmnkaaGreatDoorX8
import Derived.Test.YtodgbdcjjhmnkaaGreatDoorX7
import Derived.Test.YtodgbdcjjhmnkaaGreatDoorX3
import Derived.Test.YtodgbdcjjhmnkaaGreatDoorXW
set_option maxRecDepth 100000
set_option maxHeartbeats 1000000
namespace Go.Proofs.YtodgbdcjjhmnkaaGreatDoor
open Go.Proofs.Tryz
section
open Go.RowKit
attribute [local simp] a8 bG aE az a6 aY aQ aK a9 PLl d8 ec N1l d6 d9 dR bC bL
theorem DD:fe 0=List.replicate 6 (0:BitVec 64):=gA
theorem AF(x y:Zp):uQ (fe x) (fe y)=fe (x+y):=by
 unfold uQ
 split
 ·rename_i h;exact qb h.2
 ·rename_i h
  refine uj ?_
  by_cases h1:1873798617647539866#64≤(AS (fe x) (fe y) 6).1.getD 5 0
  ·exact xz (Cu (mo _ _ _) (fun h0=>h ⟨h1,h0⟩))
  ·exact Bg _ h1
theorem BU(x y:Zp):zO (fe x) (fe y)=fe (x-y):=by
 unfold zO
 split
 ·rename_i h;exact sO h
 ·rename_i h;exact pV (qB (mo _ _ _) h)
theorem CH(x:Zp):wz (fe x)=fe (-x):=by
 unfold wz
 rw[←DD]
 split
 ·rename_i h
  rw[rJ.1 h]
  exact congrArg fe (by grind)
 ·rename_i h;exact xb (fun e=>h (by rw[e]))
def BTn(bs:List (BitVec 8)):Nat→Nat
 |0=>0
 |i+1=>2*BTn bs i+(cZ bs i).toNat
theorem zw(bs:List (BitVec 8))(k j:Nat)(hj:j<8):(cZ bs (8*k+j)).toNat=(bs.getD k 0).toNat / 2^(7-j) % 2:=by
 rw[cZ,show (8*k+j) / 8=k by omega,show (8*k+j) % 8=j by omega,BitVec.toNat_and,BitVec.toNat_ushiftRight,show (1#8).toNat=1 from rfl,Nat.and_one_is_mod,Nat.shiftRight_eq_div_pow]
theorem Az{B b q r X:Nat}(hr:r=2*q)(hX:X=B+b / r):2*X+b / q % 2=2*B+b / q:=by
 have e:b / r=b / q / 2:=by rw[hr,Nat.mul_comm,Nat.div_div_eq_div_mul]
 rw[hX,e]
 omega
theorem pT(bs:List (BitVec 8))(k:Nat): ∀j,j≤8→BTn bs (8*k+j)=BTn bs (8*k)*2^j+(bs.getD k 0).toNat / 2^(8-j)
 |0,_=>by
  have h:=(bs.getD k 0).isLt
  rw[Nat.add_zero,Nat.pow_zero,Nat.mul_one,Nat.div_eq_of_lt h,Nat.add_zero]
 |j+1,h=>by
  have ih:=pT bs k j (by omega)
  rw[←Nat.add_assoc,BTn,zw bs k j (by omega),show 8-(j+1)=7-j by omega,Az (r:=2^(8-j)) (by rw[show 8-j=7-j+1 by omega,Nat.pow_succ,Nat.mul_comm]) ih,Nat.pow_succ,Nat.mul_left_comm,Nat.mul_comm 2 (2^j)]
theorem fS(bs:List (BitVec 8)): ∀k,BTn bs (8*k)=BN bs k
 |0=>rfl
 |k+1=>by
  rw[Nat.mul_add,pT bs k 8 (Nat.le_refl _),fS bs k,BN,Nat.sub_self,Nat.pow_zero,Nat.div_one,Nat.mul_comm]
theorem nt(bs:List (BitVec 8))(i:Nat):cZ bs i=1#8∧(cZ bs i).toNat=1∨¬cZ bs i=1#8∧(cZ bs i).toNat=0:=by
 by_cases h:cZ bs i=1#8
 ·exact .inl ⟨h,by rw[h];rfl⟩
 ·refine .inr ⟨h, ?_⟩
  have e:(cZ bs i).toNat≤1:=by
   rw[cZ,BitVec.toNat_and,show (1#8).toNat=1 from rfl,Nat.and_one_is_mod]
   omega
  have:(cZ bs i).toNat≠1:=fun e1=>h (BitVec.eq_of_toNat_eq (by rw[e1];rfl))
  omega
theorem vF(x:Zp)(bs:List (BitVec 8)): ∀i,RP (fe x) bs i=fe (x^BTn bs i)
 |0=>by rw[RP,BTn,p0,Gf]
 |i+1=>by
  have ih:=vF x bs i
  rcases nt bs i with ⟨h,e⟩|⟨h,e⟩
  ·rw[Fh _ _ _ h,ih,sS,sS,BTn,e,Nat.two_mul,ps,kv]
  ·rw[ED _ _ _ h,ih,sS,BTn,e,Nat.two_mul,Nat.add_zero,kv]
theorem G9(x:Zp)(bs:List (BitVec 8)):RP (fe x) bs (8*bs.length)=fe (x^BN bs bs.length):=by rw[vF,fS]
theorem BS:BN EX2 48=PP-2:=by
 rw[EX2,n6 _ (by rw[bT,az]) 48 rfl]
 decide+kernel
theorem BE:BN EX1 48=hf:=by
 rw[EX1,n6 _ (by rw[bT,az]) 48 rfl]
 decide+kernel
theorem BY:BN EX4 48=rg:=by
 rw[EX4,n6 _ (by rw[bT,aE]) 48 rfl]
 decide+kernel
theorem Ew(x:Zp):RP (fe x) EX2 384=fe (x^(PP-2)):=by rw[vF,show 384=8*48 from rfl,fS,BS]
theorem u9(x:Zp):decide ((SS (FRs EX1 48) (RM (fe x) N1) 6).2=1)=decide (hf<x.val):=by
 apply decide_eq_decide.2
 have e:=mJ EX1 (by rw[ny];exact Nat.le_refl _)
 rw[ny,BE]at e
 rw[yW]
 rcases mw (FRs EX1 48) (nm x)with ⟨h,h'⟩|⟨h,_,h'⟩
 ·rw[e,pu]at h'
  exact ⟨fun e'=>(by rw[h]at e';exact absurd e' (by decide)),fun _=>by omega⟩
 ·rw[e,pu]at h'
  exact ⟨fun _=>h',fun _=>h⟩
/-! ### The reference's numbers of many bytes -/
theorem zz(x y:Zp):Pure Tryz.prog Gt 120 [EV x,EV y] (EV (x*y)):=by
 have h:=jF (fe x) (fe y) (by simp) (by simp)
 rw[sS]at h
 exact h
theorem Jy(x y:Zp):Pure Tryz.prog Gt 123 [EV x,EV y] (EV (x+y)):=by
 have h:=rY (fe x) (fe y) (by simp) (by simp)
 rw[AF]at h
 exact h
theorem JI(x y:Zp):Pure Tryz.prog Gt 122 [EV x,EV y] (EV (x-y)):=by
 have h:=qL (fe x) (fe y) (by simp) (by simp)
 rw[BU]at h
 exact h
theorem vE(x:Zp):Pure Tryz.prog Gt 111 [EV x] (EV (-x)):=by
 have h:=vw (fe x) (by simp)
 rw[CH]at h
 exact h
theorem It(x:Zp):Pure Tryz.prog Gt 155 [EV x] (EV (x^(PP-2))):=by
 have h:=uD (fe x) (by simp)
 rw[Ew]at h
 exact h
theorem yK(x:Zp):Pure Tryz.prog Gt 121 [EV x] (.bool (decide (x=0))):=by
 have h:=gb (fe x) (by simp)
 rw[←DD,dS]at h
 exact h
theorem Ih(x:Zp):Pure Tryz.prog Gt 158 [EV x] (.bool (decide (x.val % 2=1))):=by
 have h:=vh (fe x) (by simp)
 rw[yW,BI]at h
 exact h
theorem nj(x:Zp):Pure Tryz.prog Gt 172 [EV x] (.bool (decide (hf<x.val))):=by
 have h:=qv (fe x) (by simp)
 rw[u9]at h
 exact h
theorem rofE(x:Zp):Pure Tryz.prog Gt 103 [NV (nm x)] (EV x):=by
 have h:=o8 (nm x) (by simp)
 rw[uS]at h
 exact h
theorem IH:18446744073709551616<PP:=by decide+kernel
theorem i3(n:BitVec 64):Pure Tryz.prog Gt 110 [U64 n] (EV (zp n.toNat)):=by
 have h:=pJ n
 have hn:=n.isLt
 have hp:=IH
 rw[yI _ (by rw[nQ];omega),nQ]at h
 exact h
theorem Li(x:Zp)(e:Option Addr)(cap:Nat)(bs:List (BitVec 8))(hlen:bs.length≤4096)(w:World)(hw:Gt w)(hby:BytesAt w e bs):
 Calls Tryz.prog 170 [EV x,.slice e bs.length cap].toArray w (fun r w'=>r=.returned (EV (x^BN bs bs.length))∧Grow w w'):=by
 have h:=lO (fe x) (by simp) e cap bs hlen w hw hby
 rw[G9]at h
 exact h
end
section
open Go.RowKit
attribute [local simp] a8 bG aE az a6 aY aQ aK a9 PLl d8 ec N1l d6 d9 dR bC bL
theorem ent156:ah Tryz.prog 156:=fun _ _=>by kernel_rfl
theorem Dw(op:BinOp)(x y:Operand)(xs ys:Array Value)(w:World):(eqGuard op 37 x y (.agg xs) (.agg ys)).run Tryz.prog w=.ok () w:=eqgF op x y xs ys w
theorem Eg(xs ys:List (BitVec 64))(h:xs.length=6)(h':ys.length=6)(w:World):(binOp .neq 37 (.agg (xs.map U64).toArray) (.agg (ys.map U64).toArray)).run Tryz.prog w=.ok (.bool (!decide (xs=ys))) w:=Am underlying37 rfl (by decide) (by kernel_rfl) isAgg35 sizeOf35 underlying35 underlying24 sizeOf24 isAgg24 xs ys h h' w
theorem Bq(x:Zp)(b:Nat)(t:TypeId)(bs:List (BitVec 8))(h48:bs.length=48)(w:World)(hw:Gt w)(ho:OwnB w b (bs.map U8) t):
 Calls Tryz.prog 170 [EV x,.slice (some ⟨b,0,none⟩) 48 48].toArray w (fun r w'=>r=.returned (EV (x^BN bs 48))∧Grow w w'):=by
 have h:=Li x (some ⟨b,0,none⟩) 48 bs (by omega) w hw (BytesAt.range ho.range)
 rw[h48]at h
 exact h
theorem uo(x:Zp)(b:Nat)(t:TypeId)(w:World)(hw:Gt w)(ho:OwnB w b (EX4.map U8) t):
 Calls Tryz.prog 170 [EV x,.slice (some ⟨b,0,none⟩) 48 48].toArray w (fun r w'=>r=.returned (EV (SQr x))∧Grow w w'):=by
 have h:=Bq x b t EX4 AT w hw ho
 rw[BY]at h
 exact h
theorem EM(x:Zp):Pure Tryz.prog Gt 156 [EV x] (.tuple #[EV (SQ x),.bool (decide (SQr x*SQr x=x))]):=by
 intro w hw
 refine Hf func156 rfl hw<|fun hGF=>Xp<|Bx 1 hGF rfl<|fun b1=>Al 2 hGF zv37<|fun b2=>Asg rfl<|aa<|nC (EE [171,2000171,2999999]) iq (by kernel_rfl) (by kernel_rfl)<|aO (m:=4) [0] (by kernel_rfl)<|La 1 rfl rfl bU<|aa<|gj (m:=3) [1,3] (by kernel_rfl) (by kernel_rfl) (by decide)<|?_
 intro i hi
 simp only[List.mem_cons,List.not_mem_nil,or_false]at hi
 rcases hi with rfl|rfl
 ·refine bq rfl rfl ent171 rfl rfl (fun w' hw'=>(lZ w' (hGF.g _ _ _ hw')).mono fun e w'' h=> ?_)
  obtain ⟨bm,rfl,hg,hb,hob⟩:=h
  refine ⟨_,_,rfl,ay hGF,hw'.news ao hg [(6,bm,EX4.map U8,60)] ?_ bJ,bx ao rfl, ?_⟩
  ·intro n' b' c' t' hl
   rcases aF hl with ⟨_,e⟩|⟨_,hl⟩
   ·cases e;exact ⟨hb,hob⟩
   ·cases hl
  clear hw' hg hb hob
  refine aa<|aO (m:=2) [2] (by kernel_rfl)<|Cc rfl ent170 (fun w' hw' hG=>uo x bm _ w' hG (hw'.own 6 _ _ _ rfl).1)<|aa<|aO (m:=0) [3,4] (by kernel_rfl)<|bf 4 hGF zv37 rfl rfl rfl<|fun b4=>Sa 4 hGF rfl rfl rfl bU<|aa<|da (by kernel_rfl)<|aG<|ae<|Xd []<|La 4 rfl rfl bU<|La 4 rfl rfl bU<|Ca rfl (zz _ _)<|La 1 rfl rfl bU<|bW rfl rfl (fun _=>Dw _ _ _ _ _ _) (fun w=>Eg _ _ (by simp) (by simp) w) rfl rfl<|aa<|?_
  refine bj rfl (fun hc=> ?_) (fun hc=> ?_)
  ·have hs: ¬SQr x*SQr x=x:=by rw[dS]at hc;simpa using hc
   refine Xp<|dv zv37 underlying37 (jv sizeOf35) rfl rfl<|Sa 2 hGF rfl rfl rfl bU<|Asg rfl<|aa<|ap<|Rr<|?_
   exact bw 2 rfl rfl rfl rfl isAgg37 sizeOf37 (by simp) (fun w hw=>⟨by rw[SQ,if_neg hs,decide_eq_false hs,←gA]<;>rfl,ac hw⟩)
  ·have hs:SQr x*SQr x=x:=by rw[dS]at hc;simpa using hc
   clear hc
   refine au<|ae<|Xp<|La 4 rfl rfl bU<|Ca rfl (nj _)<|aa<|?_
   refine bj rfl (fun hc=> ?_) (fun hc=> ?_)
   ·simp only[decide_eq_true_eq]at hc
    refine Xq<|La 4 rfl rfl bU<|Ca rfl (vE _)<|Sa 4 hGF rfl rfl rfl bU<|aa<|Xp<|La 4 rfl rfl bU<|Sa 2 hGF rfl rfl rfl bU<|Asg rfl<|aa<|ap<|Rr<|?_
    exact bw 2 rfl rfl rfl rfl isAgg37 sizeOf37 (by simp) (fun w hw=>⟨by rw[SQ,if_pos hs,SQn,if_pos hc,decide_eq_true hs]<;>rfl,ac hw⟩)
   ·simp only[decide_eq_false_iff_not]at hc
    refine au<|Xp<|La 4 rfl rfl bU<|Sa 2 hGF rfl rfl rfl bU<|Asg rfl<|aa<|ap<|Rr<|?_
    exact bw 2 rfl rfl rfl rfl isAgg37 sizeOf37 (by simp) (fun w hw=>⟨by rw[SQ,if_pos hs,SQn,if_neg hc,decide_eq_true hs]<;>rfl,ac hw⟩)
 ·refine bf 4 hGF zv37 rfl rfl rfl<|fun b4=>aa<|aO (m:=0) [1,2,4] (by kernel_rfl)<|?_
  refine bq rfl rfl ent171 rfl rfl (fun w' hw'=>(lZ w' (hGF.g _ _ _ hw')).mono fun e w'' h=> ?_)
  obtain ⟨bm,rfl,hg,hb,hob⟩:=h
  refine ⟨_,_,rfl,ay hGF,hw'.news ao hg [(6,bm,EX4.map U8,60)] ?_ bJ,bx ao rfl, ?_⟩
  ·intro n' b' c' t' hl
   rcases aF hl with ⟨_,e⟩|⟨_,hl⟩
   ·cases e;exact ⟨hb,hob⟩
   ·cases hl
  clear hw' hg hb hob
  refine Cc rfl ent170 (fun w' hw' hG=>uo x bm _ w' hG (hw'.own 6 _ _ _ rfl).1)<|Sa 4 hGF rfl rfl rfl bU<|aa<|da (by kernel_rfl)<|aG<|ae<|Xd []<|La 4 rfl rfl bU<|La 4 rfl rfl bU<|Ca rfl (zz _ _)<|La 1 rfl rfl bU<|bW rfl rfl (fun _=>Dw _ _ _ _ _ _) (fun w=>Eg _ _ (by simp) (by simp) w) rfl rfl<|aa<|?_
  refine bj rfl (fun hc=> ?_) (fun hc=> ?_)
  ·have hs: ¬SQr x*SQr x=x:=by rw[dS]at hc;simpa using hc
   refine Xp<|dv zv37 underlying37 (jv sizeOf35) rfl rfl<|Sa 2 hGF rfl rfl rfl bU<|Asg rfl<|aa<|ap<|Rr<|?_
   exact bw 2 rfl rfl rfl rfl isAgg37 sizeOf37 (by simp) (fun w hw=>⟨by rw[SQ,if_neg hs,decide_eq_false hs,←gA]<;>rfl,ac hw⟩)
  ·have hs:SQr x*SQr x=x:=by rw[dS]at hc;simpa using hc
   clear hc
   refine au<|ae<|Xp<|La 4 rfl rfl bU<|Ca rfl (nj _)<|aa<|?_
   refine bj rfl (fun hc=> ?_) (fun hc=> ?_)
   ·simp only[decide_eq_true_eq]at hc
    refine Xq<|La 4 rfl rfl bU<|Ca rfl (vE _)<|Sa 4 hGF rfl rfl rfl bU<|aa<|Xp<|La 4 rfl rfl bU<|Sa 2 hGF rfl rfl rfl bU<|Asg rfl<|aa<|ap<|Rr<|?_
    exact bw 2 rfl rfl rfl rfl isAgg37 sizeOf37 (by simp) (fun w hw=>⟨by rw[SQ,if_pos hs,SQn,if_pos hc,decide_eq_true hs]<;>rfl,ac hw⟩)
   ·simp only[decide_eq_false_iff_not]at hc
    refine au<|Xp<|La 4 rfl rfl bU<|Sa 2 hGF rfl rfl rfl bU<|Asg rfl<|aa<|ap<|Rr<|?_
    exact bw 2 rfl rfl rfl rfl isAgg37 sizeOf37 (by simp) (fun w hw=>⟨by rw[SQ,if_pos hs,SQn,if_neg hc,decide_eq_true hs]<;>rfl,ac hw⟩)
end
end Go.Proofs.YtodgbdcjjhmnkaaGreatDoor
