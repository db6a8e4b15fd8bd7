/-
 The reference's elements of p, as functions of elements.
 The reference's root; what the laws of layer 3 share.
-/
import Derived.Test.YtodgbdcjjhmnkaaGreatDoorX8
import Derived.Test.YtodgbdcjjhmnkaaGreatDoorX7
import Derived.Test.YtodgbdcjjhmnkaaGreatDoorX3
import Derived.Test.YtodgbdcjjhmnkaaGreatDoorXW
set_option maxRecDepth 100000
set_option maxHeartbeats 1000000
namespace Go.Proofs.YtodgbdcjjhmnkaaGreatDoor
open Go.Proofs.Tryz
section
open Go.RowKit
attribute [local simp] bp bQ aI aB bj bc aX aW bv PLl eK eI N1l eP eU eW bJ bV
theorem FY:fe 0=List.replicate 6 (0:BitVec 64):=ij
theorem Du(x y:Zp):xg (fe x) (fe y)=fe (x+y):=by
 unfold xg
 split
 ·rename_i h;exact rR h.2
 ·rename_i h
  refine ww ?_
  by_cases h1:1873798617647539866#64≤(AS (fe x) (fe y) 6).1.getD 5 0
  ·exact zJ (CK (me _ _ _) (fun h0=>h ⟨h1,h0⟩))
  ·exact Df _ h1
theorem C9(x y:Zp):ym (fe x) (fe y)=fe (x-y):=by
 unfold ym
 split
 ·rename_i h;exact vl h
 ·rename_i h;exact rE (td (me _ _ _) h)
theorem Ej(x:Zp):Bu (fe x)=fe (-x):=by
 unfold Bu
 rw[←FY]
 split
 ·rename_i h
  rw[sF.1 h]
  exact congrArg fe (by grind)
 ·rename_i h;exact A3 (fun e=>h (by rw[e]))
def BTn(bs:List (BitVec 8)):Nat→Nat
 |0=>0
 |i+1=>2*BTn bs i+(dM bs i).toNat
theorem Ac(bs:List (BitVec 8))(k j:Nat)(hj:j<8):(dM bs (8*k+j)).toNat=(bs.getD k 0).toNat / 2^(7-j) % 2:=by
 rw[dM,show (8*k+j) / 8=k by omega,show (8*k+j) % 8=j by omega,BitVec.toNat_and,BitVec.toNat_ushiftRight,show (1#8).toNat=1 from rfl,Nat.and_one_is_mod,Nat.shiftRight_eq_div_pow]
theorem Db{B b q r X:Nat}(hr:r=2*q)(hX:X=B+b / r):2*X+b / q % 2=2*B+b / q:=by
 have e:b / r=b / q / 2:=by rw[hr,Nat.mul_comm,Nat.div_div_eq_div_mul]
 rw[hX,e]
 omega
theorem qw(bs:List (BitVec 8))(k:Nat): ∀j,j≤8→BTn bs (8*k+j)=BTn bs (8*k)*2^j+(bs.getD k 0).toNat / 2^(8-j)
 |0,_=>by
  have h:=(bs.getD k 0).isLt
  rw[Nat.add_zero,Nat.pow_zero,Nat.mul_one,Nat.div_eq_of_lt h,Nat.add_zero]
 |j+1,h=>by
  have ih:=qw bs k j (by omega)
  rw[←Nat.add_assoc,BTn,Ac bs k j (by omega),show 8-(j+1)=7-j by omega,Db (r:=2^(8-j)) (by rw[show 8-j=7-j+1 by omega,Nat.pow_succ,Nat.mul_comm]) ih,Nat.pow_succ,Nat.mul_left_comm,Nat.mul_comm 2 (2^j)]
theorem ge(bs:List (BitVec 8)): ∀k,BTn bs (8*k)=BN bs k
 |0=>rfl
 |k+1=>by
  rw[Nat.mul_add,qw bs k 8 (Nat.le_refl _),ge bs k,BN,Nat.sub_self,Nat.pow_zero,Nat.div_one,Nat.mul_comm]
theorem pO(bs:List (BitVec 8))(i:Nat):dM bs i=1#8∧(dM bs i).toNat=1∨¬dM bs i=1#8∧(dM bs i).toNat=0:=by
 by_cases h:dM bs i=1#8
 ·exact .inl ⟨h,by rw[h];rfl⟩
 ·refine .inr ⟨h, ?_⟩
  have e:(dM bs i).toNat≤1:=by
   rw[dM,BitVec.toNat_and,show (1#8).toNat=1 from rfl,Nat.and_one_is_mod]
   omega
  have:(dM bs i).toNat≠1:=fun e1=>h (BitVec.eq_of_toNat_eq (by rw[e1];rfl))
  omega
theorem ye(x:Zp)(bs:List (BitVec 8)): ∀i,RP (fe x) bs i=fe (x^BTn bs i)
 |0=>by rw[RP,BTn,p0,IC]
 |i+1=>by
  have ih:=ye x bs i
  rcases pO bs i with ⟨h,e⟩|⟨h,e⟩
  ·rw[Jw _ _ _ h,ih,u0,u0,BTn,e,Nat.two_mul,ps,lx]
  ·rw[Iz _ _ _ h,ih,u0,BTn,e,Nat.two_mul,Nat.add_zero,lx]
theorem Il(x:Zp)(bs:List (BitVec 8)):RP (fe x) bs (8*bs.length)=fe (x^BN bs bs.length):=by rw[ye,ge]
theorem EM:BN EX2 48=PP-2:=by
 rw[EX2,pD _ (by rw[cj,aB]) 48 rfl]
 decide+kernel
theorem CG:BN EX1 48=hf:=by
 rw[EX1,pD _ (by rw[cj,aB]) 48 rfl]
 decide+kernel
theorem CI:BN EX4 48=rg:=by
 rw[EX4,pD _ (by rw[cj,aI]) 48 rfl]
 decide+kernel
theorem Hs(x:Zp):RP (fe x) EX2 384=fe (x^(PP-2)):=by rw[ye,show 384=8*48 from rfl,ge,EM]
theorem xN(x:Zp):decide ((SS (FRs EX1 48) (RM (fe x) N1) 6).2=1)=decide (hf<x.val):=by
 apply decide_eq_decide.2
 have e:=nL EX1 (by rw[oI];exact Nat.le_refl _)
 rw[oI,CG]at e
 rw[zW]
 rcases oz (FRs EX1 48) (nm x)with ⟨h,h'⟩|⟨h,_,h'⟩
 ·rw[e,rQ]at h'
  exact ⟨fun e'=>(by rw[h]at e';exact absurd e' (by decide)),fun _=>by omega⟩
 ·rw[e,rQ]at h'
  exact ⟨fun _=>h',fun _=>h⟩
/-! ### The reference's numbers of many bytes -/
theorem BK(t:List (BitVec 64))(n k:Nat)(hk:k<t.length)(hn:k<n)(x:BitVec 64):V (t.set k x) n+(t.getD k 0).toNat*2^(64*k)=V t n+x.toNat*2^(64*k):=mP t k x hk n hn
theorem BV{v0 v1 x y a W q c:Nat}(h:v1+a*q=v0+x*q)(e:x+y*W=a+c):v1+y*(q*W)=v0+c*q:=by
 have:(x+y*W)*q=(a+c)*q:=by rw[e]
 rw[Nat.add_mul,Nat.add_mul,Nat.mul_assoc,Nat.mul_comm W]at this
 omega
theorem Aa(t:List (BitVec 64))(c:BitVec 64)(n:Nat)(ht:t.length=n): ∀j,j<n→V (AB t c j).1 n+(AB t c j).2.toNat*2^(64*(j+1))=V t n+c.toNat
 |0,h=>by
  have h1:=BK t n 0 (by omega) h (ADC (t.getD 0 0) c 0).1
  have h2:=lM (t.getD 0 0) c 0
  rw[show (0:BitVec 64).toNat=0 from rfl,Nat.add_zero]at h2
  have h3:=BV (W:=18446744073709551616) h1 h2
  rw[Nat.mul_zero,Nat.pow_zero,Nat.one_mul,Nat.mul_one]at h3
  rw[AB,show 64*(0+1)=64 from rfl]
  exact h3
 |j+1,h=>by
  have ih:=Aa t c n ht j (by omega)
  have h1:=BK (AB t c j).1 n (j+1) (by rw[kF];omega) h (ADC ((AB t c j).1.getD (j+1) 0) 0 (AB t c j).2).1
  have h2:=lM ((AB t c j).1.getD (j+1) 0) 0 (AB t c j).2
  rw[show (0:BitVec 64).toNat=0 from rfl,Nat.add_zero]at h2
  have h3:=BV (W:=18446744073709551616) h1 h2
  rw[AB,fB (j+1)]
  simp only[]
  rw[h3,ih]
theorem n256:V (256#64::List.replicate 5 0) 6=256:=lJ 256#64
theorem C2{v y q m c:Nat}(h:v+y*q=m+c)(hm:m+c<q):v=m+c:=by
 rcases Nat.eq_zero_or_pos y with rfl|hy
 ·omega
 ·have:q≤y*q:=Nat.le_mul_of_pos_left q hy
  omega
theorem MP:PL≠List.replicate 6 0:=by decide
theorem DY{k:Nat}(h:R6=2^k)(hk:64*12=k+k):2^(64*12)=R6*R6:=by rw[hk,Nat.pow_add,h]
theorem qd(bs:List (BitVec 8)): ∀i,V (WDs bs PL i) 6=BN bs i % PP
 |0=>(gX 6 6).trans (Nat.zero_mod _).symm
 |i+1=>by
  have ih:=qd bs i
  have hlt:V (WDs bs PL i) 6<PP:=by rw[ih];exact Nat.mod_lt _ tJ
  have hb:=(bs.getD i 0).isLt
  have e0:((bs.getD i 0).setWidth 64).toNat=(bs.getD i 0).toNat:=by
   rw[BitVec.toNat_setWidth];exact Nat.mod_eq_of_lt (by omega)
  have h1:=Aa (MU (WDs bs PL i) (256#64::List.replicate 5 0) 6) ((bs.getD i 0).setWidth 64) 12 (fv _ _ _) 11 (by decide)
  rw[AH _ _ 6 (Nat.le_refl _),n256,e0]at h1
  have h2:V (AB (MU (WDs bs PL i) (256#64::List.replicate 5 0) 6) ((bs.getD i 0).setWidth 64) 11).1 12=V (WDs bs PL i) 6*256+(bs.getD i 0).toNat:=by
   refine C2 h1 ?_
   have hR:=qH
   have hbig:1000*R6≤R6*R6:=Nat.mul_le_mul_right _ (Nat.le_of_lt (Nat.lt_trans jy hR))
   rw[show 64*(11+1)=64*12 from rfl,DY dH rfl]
   omega
  rw[rB,wo _ PL rfl MP,h2,ft,ih,BN,Nat.add_mod,Nat.mod_mul_mod,←Nat.add_mod,Nat.mul_comm]
theorem HT(bs:List (BitVec 8)):RM (WDs bs PL bs.length) TWO=fe (ZB bs):=by
 rw[tI _ (by rw[qd];exact Nat.mod_lt _ tJ),qd,oW];rfl
theorem zU(x y:Zp):Pure Tryz.prog Gt 120 [EV x,EV y] (EV (x*y)):=by
 have h:=kE (fe x) (fe y) (by simp) (by simp)
 rw[u0]at h
 exact h
theorem Ld(x y:Zp):Pure Tryz.prog Gt 123 [EV x,EV y] (EV (x+y)):=by
 have h:=ua (fe x) (fe y) (by simp) (by simp)
 rw[Du]at h
 exact h
theorem KN(x y:Zp):Pure Tryz.prog Gt 122 [EV x,EV y] (EV (x-y)):=by
 have h:=sX (fe x) (fe y) (by simp) (by simp)
 rw[C9]at h
 exact h
theorem sp(x:Zp):Pure Tryz.prog Gt 111 [EV x] (EV (-x)):=by
 have h:=w7 (fe x) (by simp)
 rw[Ej]at h
 exact h
theorem MT(x:Zp):Pure Tryz.prog Gt 155 [EV x] (EV (x^(PP-2))):=by
 have h:=xt (fe x) (by simp)
 rw[Hs]at h
 exact h
theorem xS(x:Zp):Pure Tryz.prog Gt 121 [EV x] (.bool (decide (x=0))):=by
 have h:=gH (fe x) (by simp)
 rw[←FY,eQ]at h
 exact h
theorem LK(x:Zp):Pure Tryz.prog Gt 158 [EV x] (.bool (decide (x.val % 2=1))):=by
 have h:=wR (fe x) (by simp)
 rw[zW,CS]at h
 exact h
theorem pf(x:Zp):Pure Tryz.prog Gt 172 [EV x] (.bool (decide (hf<x.val))):=by
 have h:=rq (fe x) (by simp)
 rw[xN]at h
 exact h
theorem GM(x:Zp):Pure Tryz.prog Gt 103 [NV (nm x)] (EV x):=by
 have h:=ma (nm x) (by simp)
 rw[xj]at h
 exact h
theorem Nq(bs:List (BitVec 8)):Pure Tryz.prog Gt 103 [NV (WDs bs PL bs.length)] (EV (ZB bs)):=by
 have h:=ma (WDs bs PL bs.length) (eD _ _ _)
 rw[HT]at h
 exact h
theorem LA:18446744073709551616<PP:=by decide+kernel
theorem fE(n:BitVec 64):Pure Tryz.prog Gt 110 [U64 n] (EV (zp n.toNat)):=by
 have h:=rV n
 have hn:=n.isLt
 have hp:=LA
 rw[tI _ (by rw[lJ];omega),lJ]at h
 exact h
theorem Oe(x:Zp)(e:Option Addr)(cap:Nat)(bs:List (BitVec 8))(hlen:bs.length≤4096)(w:World)(hw:Gt w)(hby:BytesAt w e bs):
 Calls Tryz.prog 170 [EV x,.slice e bs.length cap].toArray w (fun r w'=>r=.returned (EV (x^BN bs bs.length))∧Grow w w'):=by
 have h:=mc (fe x) (by simp) e cap bs hlen w hw hby
 rw[Il]at h
 exact h
end
section
open Go.RowKit
attribute [local simp] bp bQ aI aB bj bc aX aW bv PLl eK eI N1l eP eU eW bJ bV
theorem ent156:am Tryz.prog 156:=fun _ _=>by kernel_rfl
theorem Fh(op:BinOp)(x y:Operand)(xs ys:Array Value)(w:World):(eqGuard op 37 x y (.agg xs) (.agg ys)).run Tryz.prog w=.ok () w:=eqgF op x y xs ys w
theorem Gi(xs ys:List (BitVec 64))(h:xs.length=6)(h':ys.length=6)(w:World):(binOp .neq 37 (.agg (xs.map U64).toArray) (.agg (ys.map U64).toArray)).run Tryz.prog w=.ok (.bool (!decide (xs=ys))) w:=DZ underlying37 rfl (by decide) (by kernel_rfl) isAgg35 sizeOf35 underlying35 underlying24 sizeOf24 isAgg24 xs ys h h' w
theorem CF(x:Zp)(b:Nat)(t:TypeId)(bs:List (BitVec 8))(h48:bs.length=48)(w:World)(hw:Gt w)(ho:OwnB w b (bs.map U8) t):
 Calls Tryz.prog 170 [EV x,.slice (some ⟨b,0,none⟩) 48 48].toArray w (fun r w'=>r=.returned (EV (x^BN bs 48))∧Grow w w'):=by
 have h:=Oe x (some ⟨b,0,none⟩) 48 bs (by omega) w hw (BytesAt.range ho.range)
 rw[h48]at h
 exact h
theorem vX(x:Zp)(b:Nat)(t:TypeId)(w:World)(hw:Gt w)(ho:OwnB w b (EX4.map U8) t):
 Calls Tryz.prog 170 [EV x,.slice (some ⟨b,0,none⟩) 48 48].toArray w (fun r w'=>r=.returned (EV (SQr x))∧Grow w w'):=by
 have h:=CF x b t EX4 DU w hw ho
 rw[CI]at h
 exact h
theorem GR(x:Zp):Pure Tryz.prog Gt 156 [EV x] (.tuple #[EV (SQ x),.bool (decide (SQr x*SQr x=x))]):=by
 intro w hw
 refine Hf func156 rfl hw<|fun hGF=>Xp<|Bx 1 hGF rfl<|fun b1=>Al 2 hGF zv37<|fun b2=>Asg rfl<|aa<|o9 (EE [171,2000171,2999999]) eH (by kernel_rfl) (by kernel_rfl)<|aG (m:=4) [0] (by kernel_rfl)<|La 1 rfl rfl cm<|aa<|eJ (m:=3) [1,3] (by kernel_rfl) (by kernel_rfl) (by decide)<|?_
 intro i hi
 simp only[List.mem_cons,List.not_mem_nil,or_false]at hi
 rcases hi with rfl|rfl
 ·refine bx rfl rfl ent171 rfl rfl (fun w' hw'=>(mx w' (hGF.g _ _ _ hw')).mono fun e w'' h=> ?_)
  obtain ⟨bm,rfl,hg,hb,hob⟩:=h
  refine ⟨_,_,rfl,az hGF,hw'.news ao hg [(6,bm,EX4.map U8,60)] ?_ bH,bB ao rfl, ?_⟩
  ·intro n' b' c' t' hl
   rcases aH hl with ⟨_,e⟩|⟨_,hl⟩
   ·cases e;exact ⟨hb,hob⟩
   ·cases hl
  clear hw' hg hb hob
  refine aa<|aG (m:=2) [2] (by kernel_rfl)<|Cc rfl ent170 (fun w' hw' hG=>vX x bm _ w' hG (hw'.own 6 _ _ _ rfl).1)<|aa<|aG (m:=0) [3,4] (by kernel_rfl)<|a5 4 hGF zv37 rfl rfl rfl<|fun b4=>Sa 4 hGF rfl rfl rfl cm<|aa<|cv (by kernel_rfl)<|aA<|ah<|Xd []<|La 4 rfl rfl cm<|La 4 rfl rfl cm<|Ca rfl (zU _ _)<|La 1 rfl rfl cm<|bO rfl rfl (fun _=>Fh _ _ _ _ _ _) (fun w=>Gi _ _ (by simp) (by simp) w) rfl rfl<|aa<|?_
  refine ba rfl (fun hc=> ?_) (fun hc=> ?_)
  ·have hs: ¬SQr x*SQr x=x:=by rw[eQ]at hc;simpa using hc
   refine Xp<|dO zv37 underlying37 (kD sizeOf35) rfl rfl<|Sa 2 hGF rfl rfl rfl cm<|Asg rfl<|aa<|aq<|Rr<|?_
   exact bG 2 rfl rfl rfl rfl isAgg37 sizeOf37 (by simp) (fun w hw=>⟨by rw[SQ,if_neg hs,decide_eq_false hs,←ij]<;>rfl,ac hw⟩)
  ·have hs:SQr x*SQr x=x:=by rw[eQ]at hc;simpa using hc
   clear hc
   refine au<|ah<|Xp<|La 4 rfl rfl cm<|Ca rfl (pf _)<|aa<|?_
   refine ba rfl (fun hc=> ?_) (fun hc=> ?_)
   ·simp only[decide_eq_true_eq]at hc
    refine Xq<|La 4 rfl rfl cm<|Ca rfl (sp _)<|Sa 4 hGF rfl rfl rfl cm<|aa<|Xp<|La 4 rfl rfl cm<|Sa 2 hGF rfl rfl rfl cm<|Asg rfl<|aa<|aq<|Rr<|?_
    exact bG 2 rfl rfl rfl rfl isAgg37 sizeOf37 (by simp) (fun w hw=>⟨by rw[SQ,if_pos hs,SQn,if_pos hc,decide_eq_true hs]<;>rfl,ac hw⟩)
   ·simp only[decide_eq_false_iff_not]at hc
    refine au<|Xp<|La 4 rfl rfl cm<|Sa 2 hGF rfl rfl rfl cm<|Asg rfl<|aa<|aq<|Rr<|?_
    exact bG 2 rfl rfl rfl rfl isAgg37 sizeOf37 (by simp) (fun w hw=>⟨by rw[SQ,if_pos hs,SQn,if_neg hc,decide_eq_true hs]<;>rfl,ac hw⟩)
 ·refine a5 4 hGF zv37 rfl rfl rfl<|fun b4=>aa<|aG (m:=0) [1,2,4] (by kernel_rfl)<|?_
  refine bx rfl rfl ent171 rfl rfl (fun w' hw'=>(mx w' (hGF.g _ _ _ hw')).mono fun e w'' h=> ?_)
  obtain ⟨bm,rfl,hg,hb,hob⟩:=h
  refine ⟨_,_,rfl,az hGF,hw'.news ao hg [(6,bm,EX4.map U8,60)] ?_ bH,bB ao rfl, ?_⟩
  ·intro n' b' c' t' hl
   rcases aH hl with ⟨_,e⟩|⟨_,hl⟩
   ·cases e;exact ⟨hb,hob⟩
   ·cases hl
  clear hw' hg hb hob
  refine Cc rfl ent170 (fun w' hw' hG=>vX x bm _ w' hG (hw'.own 6 _ _ _ rfl).1)<|Sa 4 hGF rfl rfl rfl cm<|aa<|cv (by kernel_rfl)<|aA<|ah<|Xd []<|La 4 rfl rfl cm<|La 4 rfl rfl cm<|Ca rfl (zU _ _)<|La 1 rfl rfl cm<|bO rfl rfl (fun _=>Fh _ _ _ _ _ _) (fun w=>Gi _ _ (by simp) (by simp) w) rfl rfl<|aa<|?_
  refine ba rfl (fun hc=> ?_) (fun hc=> ?_)
  ·have hs: ¬SQr x*SQr x=x:=by rw[eQ]at hc;simpa using hc
   refine Xp<|dO zv37 underlying37 (kD sizeOf35) rfl rfl<|Sa 2 hGF rfl rfl rfl cm<|Asg rfl<|aa<|aq<|Rr<|?_
   exact bG 2 rfl rfl rfl rfl isAgg37 sizeOf37 (by simp) (fun w hw=>⟨by rw[SQ,if_neg hs,decide_eq_false hs,←ij]<;>rfl,ac hw⟩)
  ·have hs:SQr x*SQr x=x:=by rw[eQ]at hc;simpa using hc
   clear hc
   refine au<|ah<|Xp<|La 4 rfl rfl cm<|Ca rfl (pf _)<|aa<|?_
   refine ba rfl (fun hc=> ?_) (fun hc=> ?_)
   ·simp only[decide_eq_true_eq]at hc
    refine Xq<|La 4 rfl rfl cm<|Ca rfl (sp _)<|Sa 4 hGF rfl rfl rfl cm<|aa<|Xp<|La 4 rfl rfl cm<|Sa 2 hGF rfl rfl rfl cm<|Asg rfl<|aa<|aq<|Rr<|?_
    exact bG 2 rfl rfl rfl rfl isAgg37 sizeOf37 (by simp) (fun w hw=>⟨by rw[SQ,if_pos hs,SQn,if_pos hc,decide_eq_true hs]<;>rfl,ac hw⟩)
   ·simp only[decide_eq_false_iff_not]at hc
    refine au<|Xp<|La 4 rfl rfl cm<|Sa 2 hGF rfl rfl rfl cm<|Asg rfl<|aa<|aq<|Rr<|?_
    exact bG 2 rfl rfl rfl rfl isAgg37 sizeOf37 (by simp) (fun w hw=>⟨by rw[SQ,if_pos hs,SQn,if_neg hc,decide_eq_true hs]<;>rfl,ac hw⟩)
end
end Go.Proofs.YtodgbdcjjhmnkaaGreatDoor
