/- L1 -/
import Derived.Test.YtjookodjbjabbaaGreatDoorL0
import Derived.Test.YtjookodjbjabbaaGreatDoorQ1
import Derived.Test.YtjookodjbjabbaaGreatDoorM1
set_option maxRecDepth 100000
set_option maxHeartbeats 1000000
namespace Go.Proofs.YtjookodjbjabbaaGreatDoor
open Go.Proofs.Tryz
section
open Go.RowKit
attribute [local simp] a6 bv aH aA aQ aY aR aK aM PLl cJ cH N1l cI cL cK bf bB
theorem LA:fe 0=List.replicate 6 (0:BitVec 64):=i2
theorem Kr(x y:Zp):Cv (fe x) (fe y)=fe (x+y):=by
 unfold Cv;split
 ·rename_i h;exact vu h.2
 ·rename_i h
  refine zh ?_;by_cases h1:1873798617647539866#64<=(AS (fe x) (fe y) 6).1.getD 5 0
  ·exact HW (IE (n8 _ _ _) (λh0=>h ⟨h1,h0⟩))
  ·exact Jv _ h1
theorem Ie(x y:Zp):DV (fe x) (fe y)=fe (x-y):=by
 unfold DV;split
 ·rename_i h;exact Ba h
 ·rename_i h;exact vH (tI (n8 _ _ _) h)
theorem Kp(x:Zp):EH (fe x)=fe (-x):=by
 unfold EH;rw[<-LA];split
 ·rename_i h
  rw[pi.1 h];exact congrArg fe (by grind)
 ·rename_i h;exact DX (λe=>h (by rw[e]))
def BTn(bs:L8):Nat->Nat
 |0=>0
 |i+1=>2*BTn bs i+(dH bs i).toNat
theorem C8(bs:L8)(k j:Nat)(hj:j<8):(dH bs (8*k+j)).toNat=(bs.getD k 0).toNat / 2^(7-j) % 2:=by
 rw[dH,show (8*k+j) / 8=k by omega,show (8*k+j) % 8=j by omega,BitVec.toNat_and,BitVec.toNat_ushiftRight,show (1#8).toNat=1 from O,Nat.and_one_is_mod,Nat.shiftRight_eq_div_pow]
theorem Iv{B b q r X:Nat}(hr:r=2*q)(hX:X=B+b / r):2*X+b / q % 2=2*B+b / q:=by
 have e:b / r=b / q / 2:=by rw[hr,Nat.mul_comm,Nat.div_div_eq_div_mul]
 rw[hX,e];omega
theorem ve(bs:L8)(k:Nat): ∀j,j<=8->BTn bs (8*k+j)=BTn bs (8*k)*2^j+(bs.getD k 0).toNat / 2^(8-j)
 |0,_=>by
  have h:=(bs.getD k 0).isLt;rw[Nat.add_zero,Nat.pow_zero,Nat.mul_one,Nat.div_eq_of_lt h,Nat.add_zero]
 |j+1,h=>by
  have ih:=ve bs k j om;rw[<-Nat.add_assoc,BTn,C8 bs k j om,show 8-(j+1)=7-j by omega,Iv (r:=2^(8-j)) (by rw[show 8-j=7-j+1 by omega,Nat.pow_succ,Nat.mul_comm]) ih,Nat.pow_succ,Nat.mul_left_comm,Nat.mul_comm 2 (2^j)]
theorem gE(bs:L8): ∀k,BTn bs (8*k)=BN bs k
 |0=>rfl
 |k+1=>by
  rw[Nat.mul_add,ve bs k 8 (Nat.le_refl _),gE bs k,BN,Nat.sub_self,Nat.pow_zero,Nat.div_one,Nat.mul_comm]
theorem mP(bs:L8)(i:Nat):dH bs i=1#8/\(dH bs i).toNat=1\/¬dH bs i=1#8/\(dH bs i).toNat=0:=by
 by_cases h:dH bs i=1#8
 ·exact .inl ⟨h,by rw[h];rfl⟩
 ·refine .inr ⟨h, ?_⟩
  have e:(dH bs i).toNat<=1:=by
   rw[dH,BitVec.toNat_and,show (1#8).toNat=1 from O,Nat.and_one_is_mod];omega
  have:(dH bs i).toNat≠1:=λe1=>h (BitVec.eq_of_toNat_eq (by rw[e1];rfl))
  omega
theorem EM(x:Zp)(bs:L8): ∀i,RP (fe x) bs i=fe (x^BTn bs i)
 |0=>by rw[RP,BTn,p0,QC]
 |i+1=>by
  have ih:=EM x bs i;rcases mP bs i with ⟨h,e⟩|⟨h,e⟩
  ·rw[N0 _ _ _ h,ih,Av,Av,BTn,e,Nat.two_mul,ps,n7]
  ·rw[Oh _ _ _ h,ih,Av,BTn,e,Nat.two_mul,Nat.add_zero,n7]
theorem Nu(x:Zp)(bs:L8):RP (fe x) bs (8*bs.length)=fe (x^BN bs bs.length):=by rw[EM,gE]
theorem Ij:BN EX2 48=PP-2:=by
 rw[EX2,lX _ (by rw[dj,aA]) 48 O]
 decide+kernel
theorem IK:BN EX1 48=hf:=by
 rw[EX1,lX _ (by rw[dj,aA]) 48 O]
 decide+kernel
theorem JR:BN EX4 48=rg:=by
 rw[EX4,lX _ (by rw[dj,aH]) 48 O]
 decide+kernel
theorem P3(x:Zp):RP (fe x) EX2 384=fe (x^(PP-2)):=by rw[EM,show 384=8*48 from O,gE,Ij]
theorem Ci(x:Zp):decide ((SS (FRs EX1 48) (RM (fe x) N1) 6).2=1)=decide (hf<x.val):=by
 apply decide_eq_decide.2;have e:=nC EX1 (by rw[uv];exact Nat.le_refl _)
 rw[uv,IK]at e;rw[wO];rcases nH (FRs EX1 48) (nm x)with ⟨h,h'⟩|⟨h,_,h'⟩
 ·rw[e,sZ]at h'
  exact ⟨λe'=>(by rw[h]at e';exact absurd e' dc),λ_=>om⟩
 ·rw[e,sZ]at h'
  exact ⟨λ_=>h',λ_=>h⟩
/-! ### The reference's numbers of many bytes -/
theorem DY(t:L6)(n k:Nat)(hk:k<t.length)(hn:k<n)(x:BitVec 64):V (t.set k x) n+(t.getD k 0).toNat*2^(64*k)=V t n+x.toNat*2^(64*k):=pS t k x hk n hn
theorem Ea{v0 v1 x y a W q c:Nat}(h:v1+a*q=v0+x*q)(e:x+y*W=a+c):v1+y*(q*W)=v0+c*q:=by
 have:(x+y*W)*q=(a+c)*q:=by rw[e]
 rw[Nat.add_mul,Nat.add_mul,Nat.mul_assoc,Nat.mul_comm W]at this;omega
theorem Es(t:L6)(c:BitVec 64)(n:Nat)(ht:t.length=n): ∀j,j<n->V (AB t c j).1 n+(AB t c j).2.toNat*2^(64*(j+1))=V t n+c.toNat
 |0,h=>by
  have h1:=DY t n 0 om h (ADC (t.getD 0 0) c 0).1;have h2:=oR (t.getD 0 0) c 0;rw[show (0:BitVec 64).toNat=0 from O,Nat.add_zero]at h2;have h3:=Ea (W:=18446744073709551616) h1 h2;rw[Nat.mul_zero,Nat.pow_zero,Nat.one_mul,Nat.mul_one]at h3;rw[AB,show 64*(0+1)=64 from O];exact h3
 |j+1,h=>by
  have ih:=Es t c n ht j om;have h1:=DY (AB t c j).1 n (j+1) (by rw[nt];omega) h (ADC ((AB t c j).1.getD (j+1) 0) 0 (AB t c j).2).1
  have h2:=oR ((AB t c j).1.getD (j+1) 0) 0 (AB t c j).2;rw[show (0:BitVec 64).toNat=0 from O,Nat.add_zero]at h2;have h3:=Ea (W:=18446744073709551616) h1 h2;rw[AB,ij (j+1)];simp only[];rw[h3,ih]
theorem n256:V (256#64::List.replicate 5 0) 6=256:=oD 256#64
theorem KO{v y q m c:Nat}(h:v+y*q=m+c)(hm:m+c<q):v=m+c:=by
 rcases Nat.eq_zero_or_pos y with rfl|hy
 ·omega
 ·have:q<=y*q:=Nat.le_mul_of_pos_left q hy
  omega
theorem WQ:PL≠List.replicate 6 0:=dc
theorem J4{k:Nat}(h:R6=2^k)(hk:64*12=k+k):2^(64*12)=R6*R6:=by rw[hk,Nat.pow_add,h]
theorem sY(bs:L8): ∀i,V (WDs bs PL i) 6=BN bs i % PP
 |0=>(iP 6 6).trans (Nat.zero_mod _).symm
 |i+1=>by
  have ih:=sY bs i;have hlt:V (WDs bs PL i) 6<PP:=by rw[ih];exact Nat.mod_lt _ wN
  have hb:=(bs.getD i 0).isLt;have e0:((bs.getD i 0).setWidth 64).toNat=(bs.getD i 0).toNat:=by
   rw[BitVec.toNat_setWidth];exact Nat.mod_eq_of_lt om
  have h1:=Es (MU (WDs bs PL i) (256#64::List.replicate 5 0) 6) ((bs.getD i 0).setWidth 64) 12 (ib _ _ _) 11 dc;rw[HC _ _ 6 (Nat.le_refl _),n256,e0]at h1;have h2:V (AB (MU (WDs bs PL i) (256#64::List.replicate 5 0) 6) ((bs.getD i 0).setWidth 64) 11).1 12=V (WDs bs PL i) 6*256+(bs.getD i 0).toNat:=by
   refine KO h1 ?_;have hR:=vd;have hbig:1000*R6<=R6*R6:=Nat.mul_le_mul_right _ (Nat.le_of_lt (Nat.lt_trans nj hR));rw[show 64*(11+1)=64*12 from O,J4 eB O];omega
  rw[uL,Bg _ PL O WQ,h2,ic,ih,BN,Nat.add_mod,Nat.mod_mul_mod,<-Nat.add_mod,Nat.mul_comm]
theorem Nv(bs:L8):RM (WDs bs PL bs.length) TWO=fe (ZB bs):=by
 rw[yG _ (by rw[sY];exact Nat.mod_lt _ wN),sY,ui];rfl
theorem ER(x y:Zp):PUR 147 [EV x,EV y] (EV (x*y)):=by
 have h:=m3 (fe x) (fe y) sm sm;rw[Av]at h;exact h
theorem We(x y:Zp):PUR 149 [EV x,EV y] (EV (x+y)):=by
 have h:=ya (fe x) (fe y) sm sm;rw[Kr]at h;exact h
theorem Tp(x y:Zp):PUR 148 [EV x,EV y] (EV (x-y)):=by
 have h:=xh (fe x) (fe y) sm sm;rw[Ie]at h;exact h
theorem v4(x:Zp):PUR 141 [EV x] (EV (-x)):=by
 have h:=CE (fe x) sm;rw[Kp]at h;exact h
theorem U4(x:Zp):PUR 155 [EV x] (EV (x^(PP-2))):=by
 have h:=BG (fe x) sm;rw[P3]at h;exact h
theorem mL(x:Zp):PUR 48 [EV x] (NV (nm x)):=by
 have h:=jH (fe x) sm;rw[wO]at h;exact h
theorem Dy(x:Zp):PUR 98 [EV x] (.bool (decide (x=0))):=by
 have h:=jA (fe x) sm;rw[<-LA,gx]at h;exact h
theorem VC(x:Zp):PUR 185 [EV x] (.bool (decide (x.val % 2=1))):=by
 have h:=BJ (fe x) sm;rw[wO,J5]at h;exact h
theorem tz(x:Zp):PUR 99 [EV x] (.bool (decide (hf<x.val))):=by
 have h:=uH (fe x) sm;rw[Ci]at h;exact h
theorem IH(x:Zp):PUR 134 [NV (nm x)] (EV x):=by
 have h:=pJ (nm x) sm;rw[CJ]at h;exact h
theorem SJ(bs:L8):PUR 134 [NV (WDs bs PL bs.length)] (EV (ZB bs)):=by
 have h:=pJ (WDs bs PL bs.length) (fY _ _ _);rw[Nv]at h;exact h
theorem Ve:18446744073709551616<PP:=by decide+kernel
theorem iq(n:BitVec 64):PUR 100 [U64 n] (EV (zp n.toNat)):=by
 have h:=we n;have hn:=n.isLt;have hp:=Ve;rw[yG _ (by rw[oD];omega),oD]at h
 exact h
theorem ot(x:Zp):PUR 42 [NV (nm x)] (.agg ((cG x).map U8).toArray):=fF (nm x) sm
theorem U5(x:Zp)(e:Option Addr)(cap:Nat)(bs:L8)(hlen:bs.length<=4096)(w:World)(hw:Gt w)(hby:BytesAt w e bs):
 CLS 189 [EV x,.slice e bs.length cap].toArray w (λr w'=>r=.returned (EV (x^BN bs bs.length))/\Grow w w'):=by
 have h:=pI (fe x) sm e cap bs hlen w hw hby;rw[Nu]at h;exact h
end
section
open Go.RowKit
attribute [local simp] a6 bv aH aA aQ aY aR aK aM PLl cJ cH N1l cI cL cK bf bB
theorem ent158:ai prog 158:=λ_ _=>kr
theorem K7(op:BinOp)(x y:Operand)(xs ys:Array Value)(w:World):(eqGuard op 39 x y (.agg xs) (.agg ys)).run prog w=.ok () w:=eqgF op x y xs ys w
theorem M4(xs ys:L6)(h:xs.length=6)(h':ys.length=6)(w:World):(binOp .neq 39 (aJ xs) (aJ ys)).run prog w=.ok (.bool (!decide (xs=ys))) w:=IC underlying39 O dc kr isAgg37 sizeOf37 underlying37 underlying24 sizeOf24 isAgg24 xs ys h h' w
theorem II(x:Zp)(b:Nat)(t:TypeId)(bs:L8)(h48:bs.length=48)(w:World)(hw:Gt w)(ho:OwnB w b (bs.map U8) t):
 CLS 189 [EV x,.slice (spt b) 48 48].toArray w (λr w'=>r=.returned (EV (x^BN bs 48))/\Grow w w'):=by
 have h:=U5 x (spt b) 48 bs om w hw (BytesAt.range ho.range);rw[h48]at h;exact h
theorem Az(x:Zp)(b:Nat)(t:TypeId)(w:World)(hw:Gt w)(ho:OwnB w b (EX4.map U8) t):
 CLS 189 [EV x,.slice (spt b) 48 48].toArray w (λr w'=>r=.returned (EV (SQr x))/\Grow w w'):=by
 have h:=II x b t EX4 J0 w hw ho;rw[JR]at h;exact h
theorem NE(x:Zp):PUR 158 [EV x] (.tuple #[EV (SQ x),.bool (decide (SQr x*SQr x=x))]):=by
 intro w hw;refine Hf func158 O hw<|λhGF=>Xp<|Bx 1 hGF O<|λb1=>Al 2 hGF zv39<|λb2=>Asg O<|aa<|oz (EE [156,2000156,2999999]) cY kr kr<|aO (m:=4) [0] kr<|La 1 O O dp<|aa<|ew (m:=3) [1,3] kr kr dc<|?_;intro i hi;simp only[List.mem_cons,List.not_mem_nil,or_false]at hi;rcases hi with rfl|rfl
 ·refine bK O O ent156 O O (λw' hw'=>(qB w' (hGF.g _ _ _ hw')).mono λe w'' h=> ?_)
  obtain ⟨bm,rfl,hg,hb,hob⟩:=h;refine ⟨_,_,rfl,ay hGF,hw'.news am hg [(6,bm,EX4.map U8,29)] ?_ bQ,bO am O, ?_⟩
  ·intro n' b' c' t' hl
   rcases aI hl with ⟨_,e⟩|⟨_,hl⟩
   ·cases e;exact ⟨hb,hob⟩
   ·cases hl
  clear hw' hg hb hob;refine aa<|aO (m:=2) [2] kr<|Cc O ent189 (λw' hw' hG=>Az x bm _ w' hG (hw'.own 6 _ _ _ O).1)<|aa<|aO (m:=0) [3,4] kr<|bE 4 hGF zv39 O O O<|λb4=>Sa 4 hGF O O O dp<|aa<|cF kr<|aB<|ae<|Xd []<|La 4 O O dp<|La 4 O O dp<|Ca O (ER _ _)<|La 1 O O dp<|cr O O (λ_=>K7 _ _ _ _ _ _) (λw=>M4 _ _ sm sm w) O O<|aa<|?_;refine bC O (λhc=> ?_) (λhc=> ?_)
  ·have hs: ¬SQr x*SQr x=x:=by rw[gx]at hc;simpa using hc
   refine Xp<|el zv39 underlying39 (lL sizeOf37) O O<|Sa 2 hGF O O O dp<|Asg O<|aa<|ak<|Rr<|?_;exact aZ 2 O O O O isAgg39 sizeOf39 sm (λw hw=>⟨by rw[SQ,if_neg hs,decide_eq_false hs,<-i2]<;>rfl,ab hw⟩)
  ·have hs:SQr x*SQr x=x:=by rw[gx]at hc;simpa using hc
   clear hc;refine ap<|ae<|Xp<|La 4 O O dp<|Ca O (tz _)<|aa<|?_;refine bC O (λhc=> ?_) (λhc=> ?_)
   ·simp only[decide_eq_true_eq]at hc
    refine Xq<|La 4 O O dp<|Ca O (v4 _)<|Sa 4 hGF O O O dp<|aa<|Xp<|La 4 O O dp<|Sa 2 hGF O O O dp<|Asg O<|aa<|ak<|Rr<|?_;exact aZ 2 O O O O isAgg39 sizeOf39 sm (λw hw=>⟨by rw[SQ,if_pos hs,SQn,if_pos hc,decide_eq_true hs]<;>rfl,ab hw⟩)
   ·simp only[decide_eq_false_iff_not]at hc
    refine ap<|Xp<|La 4 O O dp<|Sa 2 hGF O O O dp<|Asg O<|aa<|ak<|Rr<|?_;exact aZ 2 O O O O isAgg39 sizeOf39 sm (λw hw=>⟨by rw[SQ,if_pos hs,SQn,if_neg hc,decide_eq_true hs]<;>rfl,ab hw⟩)
 ·refine bE 4 hGF zv39 O O O<|λb4=>aa<|aO (m:=0) [1,2,4] kr<|?_
  refine bK O O ent156 O O (λw' hw'=>(qB w' (hGF.g _ _ _ hw')).mono λe w'' h=> ?_);obtain ⟨bm,rfl,hg,hb,hob⟩:=h;refine ⟨_,_,rfl,ay hGF,hw'.news am hg [(6,bm,EX4.map U8,29)] ?_ bQ,bO am O, ?_⟩
  ·intro n' b' c' t' hl
   rcases aI hl with ⟨_,e⟩|⟨_,hl⟩
   ·cases e;exact ⟨hb,hob⟩
   ·cases hl
  clear hw' hg hb hob;refine Cc O ent189 (λw' hw' hG=>Az x bm _ w' hG (hw'.own 6 _ _ _ O).1)<|Sa 4 hGF O O O dp<|aa<|cF kr<|aB<|ae<|Xd []<|La 4 O O dp<|La 4 O O dp<|Ca O (ER _ _)<|La 1 O O dp<|cr O O (λ_=>K7 _ _ _ _ _ _) (λw=>M4 _ _ sm sm w) O O<|aa<|?_;refine bC O (λhc=> ?_) (λhc=> ?_)
  ·have hs: ¬SQr x*SQr x=x:=by rw[gx]at hc;simpa using hc
   refine Xp<|el zv39 underlying39 (lL sizeOf37) O O<|Sa 2 hGF O O O dp<|Asg O<|aa<|ak<|Rr<|?_;exact aZ 2 O O O O isAgg39 sizeOf39 sm (λw hw=>⟨by rw[SQ,if_neg hs,decide_eq_false hs,<-i2]<;>rfl,ab hw⟩)
  ·have hs:SQr x*SQr x=x:=by rw[gx]at hc;simpa using hc
   clear hc;refine ap<|ae<|Xp<|La 4 O O dp<|Ca O (tz _)<|aa<|?_;refine bC O (λhc=> ?_) (λhc=> ?_)
   ·simp only[decide_eq_true_eq]at hc
    refine Xq<|La 4 O O dp<|Ca O (v4 _)<|Sa 4 hGF O O O dp<|aa<|Xp<|La 4 O O dp<|Sa 2 hGF O O O dp<|Asg O<|aa<|ak<|Rr<|?_;exact aZ 2 O O O O isAgg39 sizeOf39 sm (λw hw=>⟨by rw[SQ,if_pos hs,SQn,if_pos hc,decide_eq_true hs]<;>rfl,ab hw⟩)
   ·simp only[decide_eq_false_iff_not]at hc
    refine ap<|Xp<|La 4 O O dp<|Sa 2 hGF O O O dp<|Asg O<|aa<|ak<|Rr<|?_;exact aZ 2 O O O O isAgg39 sizeOf39 sm (λw hw=>⟨by rw[SQ,if_pos hs,SQn,if_neg hc,decide_eq_true hs]<;>rfl,ab hw⟩)
end
theorem zZ{a:Zp}(h:a≠0):(-a).val=PP-a.val:=by
 have h0:a.val≠0:=λe=>h (Fin.ext e);have hl:=a.isLt;have e:zp (PP-a.val)+a=0:=by
  have:zp (PP-a.val)+zp a.val=0:=by rw[<-ga,show PP-a.val+a.val=PP by omega,mI]
  rw[sA]at this;exact this
 have e2: -a=zp (PP-a.val):=by grind
 rw[e2,fy,Nat.mod_eq_of_lt om]
theorem Cd{a:Zp}(h: ¬a=0):(decide (hf<a.val) !=decide (hf<(-a).val))=true:=by
 have hl:=a.isLt;have hp:=lP;rw[zZ h];by_cases h1:hf<a.val
 ·rw[decide_eq_true h1,decide_eq_false om];rfl
 ·rw[decide_eq_false h1,decide_eq_true om];rfl
theorem s4{a:Zp}(h:a≠0):a^hf*a^hf=1:=by
 rw[<-n7,show hf+hf=PP-1 by have:=lP;omega,fermat h]
theorem zV{a:Zp}(h:a≠0):a^hf=1\/a^hf= -1:=by
 have e:=s4 h;have:(a^hf-1)*(a^hf+1)=0:=by grind
 rcases mV this with h|h
 ·left;grind
 ·right;grind
theorem tK: ¬(1:Zp)= -1:=λh=>by
 have h2:(1:Zp)+1=0:=(congrArg (λz=>z+(1:Zp)) h).trans (by grind)
 have h3:=congrArg Fin.val h2;rw[Fin.val_add,show (1:Zp).val=1 % PP from O,Nat.mod_eq_of_lt pr_p.1,Nat.mod_eq_of_lt (by have:=nj;omega)]at h3
 cases h3
theorem Ax(a:Zp):SQr a*SQr a=a^hf*a:=by rw[SQr,<-n7,<-Nat.two_mul,Tl,ps]
theorem iT{a:Zp}(h:SQr a*SQr a=a):SQ a*SQ a=a:=by
 rw[SQ,if_pos h,SQn];split
 ·grind
 ·exact h
theorem kv{a:Zp}(h:SQr a*SQr a=a): ¬hf<(SQ a).val:=by
 rw[SQ,if_pos h,SQn];split
 ·rename_i h1
  have h0:SQr a≠0:=λe=>by rw[e]at h1;exact absurd h1 (Nat.not_lt_zero _)
  rw[zZ h0];have:=lP;omega
 ·rename_i h1;exact h1
theorem yf(a:Zp):SQr (a*a)*SQr (a*a)=a*a:=by
 rw[Ax];by_cases h:a=0
 ·rw[h];grind
 ·rw[JL,s4 h];grind
theorem Vx{x y:Zp}(h:x*x=y*y):x=y\/x= -y:=by
 have:(x-y)*(x+y)=0:=by grind
 rcases mV this with h|h
 ·left;grind
 ·right;grind
theorem WH(a:Zp):SQ (a*a)=a\/SQ (a*a)= -a:=Vx (iT (yf a))
theorem Jz(a:Zp)(n:Nat):(-a)^(2*n+1)= -(a^(2*n+1)):=by
 rw[ps,ps,It,It,show (-a)^2=a^2 by grind];grind
theorem xi(a:Zp):(-a)^hf= -(a^hf):=by
 obtain ⟨n,hn⟩: ∃n,hf=2*n+1:=⟨hf / 2,by have:=Qe;omega⟩
 rw[hn];exact Jz a n
theorem yp:zp 2≠0:=λh=>by
 have:=congrArg Fin.val h;rw[fy,Nat.mod_eq_of_lt (by have:=nj;omega)]at this
 cases this
theorem E5:zp 4=zp 2*zp 2/\zp 2=1+1:=⟨i5 2 2,ga 1 1⟩
abbrev W2:=Zp×Zp
def ad2(x y:W2):W2:=(x.1+y.1,x.2+y.2)
def ng2(x:W2):W2:=(-x.1,-x.2)
def sb2(x y:W2):W2:=(x.1-y.1,x.2-y.2)
def ml2(x y:W2):W2:=(x.1*y.1-x.2*y.2,x.1*y.2+x.2*y.1)
def cj2(x:W2):W2:=(x.1,-x.2)
def sc2(x:W2)(c:Zp):W2:=(x.1*c,x.2*c)
def xi2(x:W2):W2:=(x.1-x.2,x.1+x.2)
def nm2(x:W2):Zp:=x.1*x.1+x.2*x.2
def iv2(x:W2):W2:=(x.1*nm2 x^(PP-2),-x.2*nm2 x^(PP-2))
def on2:W2:=(1,0)
def ze2:W2:=(0,0)
theorem bU{x y:W2}(h1:x.1=y.1)(h2:x.2=y.2):x=y:=Prod.ext h1 h2
def R2:Rg W2 where
 zero:=ze2
 one:=on2
 add:=ad2
 mul:=ml2
 neg:=ng2
 add_assoc:=λa b c=>bU (by simp only[ad2];grind) (by simp only[ad2];grind)
 add_comm:=λa b=>bU (by simp only[ad2];grind) (by simp only[ad2];grind)
 add_zero:=λa=>bU (by simp only[ad2,ze2];grind) (by simp only[ad2,ze2];grind)
 add_neg:=λa=>bU (by simp only[ad2,ng2,ze2];grind) (by simp only[ad2,ng2,ze2];grind)
 mul_assoc:=λa b c=>bU (by simp only[ml2];grind) (by simp only[ml2];grind)
 mul_comm:=λa b=>bU (by simp only[ml2];grind) (by simp only[ml2];grind)
 mul_one:=λa=>bU (by simp only[ml2,on2];grind) (by simp only[ml2,on2];grind)
 mul_add:=λa b c=>bU (by simp only[ml2,ad2];grind) (by simp only[ml2,ad2];grind)
theorem m6(x y:W2):sb2 x y=ad2 x (ng2 y):=bU (by simp only[sb2,ad2,ng2];grind) (by simp only[sb2,ad2,ng2];grind)
theorem C7(x:W2):xi2 x=ml2 x (1,1):=bU (by simp only[xi2,ml2];grind) (by simp only[xi2,ml2];grind)
theorem iZ(x y:W2):nm2 (ml2 x y)=nm2 x*nm2 y:=by simp only[nm2,ml2];grind
theorem NO(x:W2):ml2 x (cj2 x)=(nm2 x,0):=bU (by simp only[ml2,cj2,nm2];grind) (by simp only[ml2,cj2];grind)
theorem ir(x y:W2):cj2 (ml2 x y)=ml2 (cj2 x) (cj2 y):=bU (by simp only[ml2,cj2];grind) (by simp only[ml2,cj2];grind)
theorem Im(x y:W2):cj2 (ad2 x y)=ad2 (cj2 x) (cj2 y):=bU (by simp only[ad2,cj2]) (by simp only[ad2,cj2];grind)
/-! ### -1 is no square -/
theorem tH{a:Zp}(h:a≠0):(a*a)^hf=1:=by rw[JL,s4 h]
theorem Cn{a:Zp}(h:0= -a):a=0:=by grind
theorem rq(a:Zp):a*1=a:=by grind
theorem AV(a:Zp): -(-a)=a:=by grind
theorem jX(a:Zp):a*0=0:=by grind
theorem Cr{a b:Zp}(h:a*a+b*b=0):b=0:=by
 by_cases hb:b=0
 ·exact hb
 ·exfalso
  have e:a*a= -(b*b):=by grind
  have e2:(a*a)^hf= -1:=by rw[e,xi,tH hb]
  by_cases ha:a=0
  ·obtain ⟨n,hn⟩:=PB
   rw[ha,jX,hn,Mi]at e2;exact jI (Cn e2)
  ·rw[tH ha]at e2
   exact tK e2
theorem pL{x:W2}(h:nm2 x=0):x=ze2:=by
 have h1:=Cr h;have h2:=Cr (a:=x.2) (b:=x.1) (by rw[<-h];simp only[nm2];grind)
 exact bU h2 h1
theorem Uc:(0:Zp)+0=0:=sm
theorem Q4:nm2 ze2=0:=by simp only[nm2,ze2];rw[jX,Uc]
theorem Q5{x:W2}(h:x≠ze2):nm2 x≠0:=λe=>h (pL e)
theorem dD{x:W2}(h:x≠ze2):ml2 x (iv2 x)=on2:=by
 have hz:=nf (Q5 h);have e:nm2 x=x.1*x.1+x.2*x.2:=rfl;have k: ∀j:Zp,nm2 x*j=1->ml2 x (x.1*j,-x.2*j)=on2:=λj hj=>by
  rw[e]at hj;refine bU ?_ ?_
  ·simp only[ml2,on2];grind
  ·simp only[ml2,on2];grind
 exact k _ hz
theorem g9{x y:W2}(h:ml2 x y=ze2):x=ze2\/y=ze2:=by
 have e:=iZ x y;rw[h,Q4]at e;rcases mV e.symm with h|h
 ·exact .inl (pL h)
 ·exact .inr (pL h)
/-! ### Powers -/
def pw2(x:W2)(n:Nat):W2:=R2.pw x n
theorem nR(x:W2)(n:Nat):pw2 x (n+1)=ml2 (pw2 x n) x:=rfl
theorem um(x:W2)(m n:Nat):pw2 x (m+n)=ml2 (pw2 x m) (pw2 x n):=R2.pw_add x m n
theorem zQ(x:W2)(m n:Nat):pw2 x (m*n)=pw2 (pw2 x m) n:=R2.pw_mul x m n
theorem IT(x y:W2)(n:Nat):pw2 (ml2 x y) n=ml2 (pw2 x n) (pw2 y n):=R2.mul_pw x y n
theorem rc(a:Zp):0*a=0:=by grind
theorem Kz:(0:Zp)+0=0:=sm
theorem nc(a b:Zp):ml2 (a,0) (b,0)=(a*b,0):=bU (by simp only[ml2];grind) (by simp only[ml2];rw[jX,rc,Kz])
theorem Pp(a b:Zp):ml2 (a,0) (0,b)=(0,a*b):=bU (by simp only[ml2];rw[jX,rc];simp) (by simp only[ml2];grind)
theorem ut(a b:Zp):ml2 (0,a) (0,b)=(-(a*b),0):=bU (by simp only[ml2];grind) (by simp only[ml2];rw[jX,rc,Kz])
theorem oe:(1:Zp)*1=1:=rq 1
theorem z_nn(a:Zp): -a* -a=a*a:=by grind
theorem yl(a:Zp): ∀n,pw2 (a,0) n=(a^n,0)
 |0=>bU (p0 a).symm O
 |n+1=>by rw[nR,yl a n,nc,ps]
theorem VX:pw2 (0,1) PP=(0,-1):=by
 have h1:pw2 (0,1) 1=(0,1):=R2.pw_one _;have h2:pw2 (0,1) 2=(-1,0):=by rw[nR,h1,ut,oe]
 have h3:pw2 (0,1) 3=(0,-1):=by rw[nR,h2,Pp,rq]
 have h4:pw2 (0,1) 4=on2:=by rw[nR,h3,ut,rq,AV];rfl
 obtain ⟨k,hk⟩: ∃k,PP=4*k+3:=⟨PP / 4,by have:=uk;omega⟩
 have e:pw2 (0,1) PP=pw2 (0,1) (4*k+3):=congrArg (λn=>pw2 (0,1) n) hk;have h5:pw2 on2 k=on2:=R2.one_pw k;rw[e,um,zQ,h4,h3,h5];exact R2.one_mul _
theorem HP(a:Zp):a^PP=a:=by
 by_cases h:a=0
 ·rw[h];exact Mi PQ
 ·have e:a^PP=a^(PP-1+1):=congrArg (λn=>a^n) (show PQ+1=PQ+1-1+1 from O)
  rw[e,ps,fermat h];grind
theorem yJ: ∀n,R2.nat n=(zp n,0)
 |0=>rfl
 |n+1=>by
  show ad2 (R2.nat n) on2=_;rw[yJ n];exact bU (by simp only[ad2,on2];rw[ga,U9]) Kz
theorem NU(x:W2):pw2 x PP=cj2 x:=by
 have e:x=ad2 (x.1,0) (ml2 (x.2,0) (0,1)):=bU (by simp only[ad2,ml2];grind) (by simp only[ad2,ml2];grind)
 have hf:=R2.frob pr_p ((yJ PP).trans (by rw[mI];rfl)) (x.1,0) (ml2 (x.2,0) (0,1))
 have h2:pw2 x PP=ad2 (pw2 (x.1,0) PP) (pw2 (ml2 (x.2,0) (0,1)) PP):=(congrArg (λy=>pw2 y PP) e).trans hf;rw[h2,IT,yl,yl,VX,HP,HP];exact bU (by simp only[ad2,ml2,cj2];grind) (by simp only[ad2,ml2,cj2];grind)
/-! ### Roots -/
theorem NR{x y:W2}(h:ml2 x x=ml2 y y):x=y\/x=ng2 y:=by
 have hk:ml2 (sb2 x y) (ad2 x y)=ze2:=by
  have h1:=congrArg Prod.fst h;have h2:=congrArg Prod.snd h;simp only[ml2]at h1 h2;refine bU ?_ ?_
  ·simp only[ml2,sb2,ad2,ze2];grind
  ·simp only[ml2,sb2,ad2,ze2];grind
 rcases g9 hk with h|h
 ·left
  have h1:=congrArg Prod.fst h;have h2:=congrArg Prod.snd h;simp only[sb2,ze2]at h1 h2;exact bU (by grind) (by grind)
 ·right
  have h1:=congrArg Prod.fst h;have h2:=congrArg Prod.snd h;simp only[ad2,ze2]at h1 h2;exact bU (by simp only[ng2];grind) (by simp only[ng2];grind)
def LG2(x:W2):Bool:=if x.2=0 then decide (hf<x.1.val)else decide (hf<x.2.val)
theorem rE{a:Zp}(h:a≠0):decide (hf<(-a).val)= !decide (hf<a.val):=by
 have:=Cd h
 cases h1:decide (hf<a.val)<;>cases h2:decide (hf<(-a).val)<;>rw[h1,h2]at this<;>first|rfl|cases this
theorem mQ{a:Zp}: -a=0↔a=0:=⟨λh=>by grind,λh=>by rw[h];grind⟩
theorem ow{x:W2}(h:x≠ze2):LG2 (ng2 x)= !LG2 x:=by
 unfold LG2 ng2;by_cases h2:x.2=0
 ·rw[if_pos (mQ.2 h2),if_pos h2]
  exact rE λe=>h (bU e h2)
 ·rw[if_neg (λe=>h2 (mQ.1 e)),if_neg h2]
  exact rE h2
theorem s7:LG2 ze2=false:=by decide+kernel
theorem Fj:ng2 ze2=ze2:=bU (by simp only[ng2,ze2];grind) (by simp only[ng2,ze2];grind)
theorem C4(x:W2):ml2 (ng2 x) (ng2 x)=ml2 x x:=bU (by simp only[ml2,ng2];grind) (by simp only[ml2,ng2];grind)
theorem Cj{x y:W2}(h:ml2 x x=ml2 y y)(hx:LG2 x=false)(hy:LG2 y=false):x=y:=by
 rcases NR h with e|e
 ·exact e
 ·by_cases h0:y=ze2
  ·rw[e,h0,Fj]
  ·rw[e,ow h0,hy]at hx;cases hx
def IsQ(a:Zp):Prop:=SQr a*SQr a=a
theorem pF{a s:Zp}(h:s*s=a):IsQ a:=by rw[<-h];exact yf s
theorem ka(a:Zp):IsQ a↔a=0\/a^hf=1:=by
 unfold IsQ;rw[Ax];constructor
 ·intro h
  by_cases h0:a=0
  ·exact .inl h0
  ·right
   have:(a^hf-1)*a=0:=by grind
   rcases mV this with h|h
   ·grind
   ·exact absurd h h0
 ·rintro (h|h)
  ·rw[h];grind
  ·rw[h];grind
theorem ti(a:Zp):IsQ a\/IsQ (-a):=by
 by_cases h:a=0
 ·exact .inl ((ka a).2 (.inl h))
 ·rcases zV h with h1|h1
  ·exact .inl ((ka a).2 (.inr h1))
  ·right
   refine (ka (-a)).2 (.inr ?_);rw[xi,h1];grind
theorem kF{a b c:Zp}(h:a*b= -(c*c))(hc:c≠0):(IsQ a/\¬IsQ b)\/(¬IsQ a/\IsQ b):=by
 have ha:a≠0:=λe=>hc (Cr (a:=0) (b:=c) (by rw[e]at h;grind))
 have hb:b≠0:=λe=>hc (Cr (a:=0) (b:=c) (by rw[e]at h;grind))
 have e:a^hf*b^hf= -1:=by rw[<-JL,h,xi,tH hc]
 rcases zV ha with h1|h1
 ·left
  refine ⟨(ka a).2 (.inr h1),λk=> ?_⟩;rcases (ka b).1 k with k|k
  ·exact hb k
  ·rw[h1,k]at e;exact tK (by grind)
 ·right
  refine ⟨λk=> ?_,(ka b).2 (.inr (by rw[h1]at e;grind))⟩
  rcases (ka a).1 k with k|k
  ·exact ha k
  ·rw[h1]at k;exact tK k.symm
theorem nN(a:Zp):IsQ (a*a):=pF O
theorem fM{x s:W2}(h:ml2 s s=x):IsQ (nm2 x):=by rw[<-h,iZ];exact nN _
theorem mc{x:W2}{n s t h2:Zp}(hn:n*n=nm2 x)(h2e:(1+1)*h2=1)(hs:s*s=(x.1+n)*h2\/s*s=(x.1-n)*h2)(ht:s*t=1):ml2 (s,x.2*h2*t) (s,x.2*h2*t)=x:=by
 have e:nm2 x=x.1*x.1+x.2*x.2:=rfl;rw[e]at hn;have key:s*s-x.2*h2*t*(x.2*h2*t)=x.1:=by
  have e1:x.2*h2*t*(x.2*h2*t)=(x.2*x.2)*(h2*h2)*(t*t):=by grind
  have e2:x.2*x.2=n*n-x.1*x.1:=by grind
  rcases hs with hs|hs
  ·have e3:(n*n-x.1*x.1)*(h2*h2)=s*s*((n-x.1)*h2):=by grind
   have e4:s*s*((n-x.1)*h2)*(t*t)=(n-x.1)*h2:=by
    have:s*s*(t*t)=1:=by grind
    grind
   rw[e1,e2,e3,e4,hs];grind
  ·have e3:(n*n-x.1*x.1)*(h2*h2)=s*s*(-(n+x.1)*h2):=by grind
   have e4:s*s*(-(n+x.1)*h2)*(t*t)= -(n+x.1)*h2:=by
    have:s*s*(t*t)=1:=by grind
    grind
   rw[e1,e2,e3,e4,hs];grind
 refine bU key ?_;simp only[ml2];have e5:s*(x.2*h2*t)+x.2*h2*t*s=x.2*((1+1)*h2)*(s*t):=by grind
 rw[e5,h2e,ht];grind
theorem y9: ∃j:Zp,(1+1)*j=1:=⟨zp 2^(PP-2),by have h:=nf yp;rw[show (1+1:Zp)=zp 2 from E5.2.symm];exact h⟩
theorem AE{x:W2}{n j:Zp}(hn:n*n=nm2 x):((x.1+n)*j)*((x.1-n)*j)= -(x.2*j*(x.2*j)):=by
 have hn':n*n=x.1*x.1+x.2*x.2:=hn;grind
theorem A8{x:W2}{j:Zp}(hj:(1+1)*j=1)(h2:x.2≠0):x.2*j≠0:=λe=>by
 rcases mV e with e|e
 ·exact h2 e
 ·rw[e]at hj;exact jI (hj.symm.trans (jX _))
theorem AR{a b c:Zp}(h:a*b= -(c*c))(hc:c≠0):a≠0/\b≠0:=
 ⟨λe=>hc (Cr (a:=0) (b:=c) (by rw[e]at h;grind)),λe=>hc (Cr (a:=0) (b:=c) (by rw[e]at h;grind))⟩
theorem GJ{a:Zp}(h:IsQ a)(h0:a≠0):SQr a≠0:=λe=>h0 (by
 have h':SQr a*SQr a=a:=h;rw[e,jX]at h';exact h'.symm)
theorem kw(x:W2):(∃s,ml2 s s=x)↔IsQ (nm2 x):=by
 refine ⟨λ⟨s,h⟩=>fM h,λh=> ?_⟩;by_cases h2:x.2=0
 ·rcases ti x.1 with hq|hq
  ·exact ⟨(SQr x.1,0),by rw[nc,show SQr x.1*SQr x.1=x.1 from hq];exact bU O h2.symm⟩
  ·exact ⟨(0,SQr (-x.1)),by rw[ut,show SQr (-x.1)*SQr (-x.1)= -x.1 from hq,AV];exact bU O h2.symm⟩
 ·obtain ⟨j,hj⟩:=y9
  have hp:=AE (x:=x) (j:=j) (n:=SQr (nm2 x)) h;have hb:=A8 hj h2;have hne:=AR hp hb;rcases kF hp hb with ⟨hq,_⟩|⟨_,hq⟩
  ·exact ⟨_,mc h hj (.inl hq) (nf (GJ hq hne.1))⟩
  ·exact ⟨_,mc h hj (.inr hq) (nf (GJ hq hne.2))⟩
/-! ### Equality, signs -/
theorem xX{x y:W2}(h:x.1=y.1):decide (x.2=y.2)=decide (x=y):=decide_eq_decide.2 ⟨λh'=>bU h h',λh'=>by rw[h']⟩
theorem yN{x y:W2}(h: ¬x.1=y.1):false=decide (x=y):=(decide_eq_false λh'=>h (by rw[h'])).symm
theorem JP{x y:W2}:fe x.1++fe x.2=fe y.1++fe y.2↔x=y:=by
 constructor
 ·intro h
  have:=List.append_inj h (by rw[a6,a6])
  exact bU (pi.1 this.1) (pi.1 this.2)
 ·intro h;rw[h]
theorem Jb(x y:W2):decide (fe x.1++fe x.2=fe y.1++fe y.2)=decide (x=y):=decide_eq_decide.2 JP
def SG2(x:W2):Int:=if x.1.val % 2=1 then 1 else if x.1=0 then (if x.2.val % 2=1 then 1 else 0)else 0
/-! ### Powers by digits -/
def fe2(x:W2):L6:=fe x.1++fe x.2
theorem a7(x:W2):(fe2 x).length=12:=by rw[fe2,List.length_append,a6,a6]
/-! ### Roots -/
theorem MQ{a:Zp}(h: ¬hf<a.val):LG2 (a,0)=false:=by
 show (if (0:Zp)=0 then decide (hf<a.val)else decide (hf<(0:Zp).val))=false
 rw[if_pos O];exact decide_eq_false h
theorem Vs{a:Zp}(h: ¬hf<a.val):LG2 (0,a)=false:=by
 show (if a=0 then decide (hf<(0:Zp).val)else decide (hf<a.val))=false
 split
 ·exact decide_eq_false (Nat.not_lt_zero _)
 ·exact decide_eq_false h
def RO(c:Zp):W2:=if SQr c*SQr c=c then (SQ c,0)else (0,SQ (-c))
theorem uj{c:Zp}(h: ¬SQr c*SQr c=c):SQr (-c)*SQr (-c)= -c:=(ti c).resolve_left h
theorem Ly(c:Zp):ml2 (RO c) (RO c)=(c,0):=by
 unfold RO;split
 ·rename_i h
  rw[nc,iT h]
 ·rename_i h
  rw[ut,iT (uj h),AV]
theorem Fz(c:Zp):LG2 (RO c)=false:=by
 unfold RO;split
 ·rename_i h
  exact MQ (kv h)
 ·rename_i h
  exact Vs (kv (uj h))
theorem rb_a{s t j a b n:Zp}(ht:t*t=s+s)(hj:t*j=1)(hs:s=a+n)(hn:n*n=a*a+b*b):s*j*(s*j)-b*j*(b*j)=a:=by
 have e:(s+s)*(j*j)=1:=by
  rw[<-ht];have:t*t*(j*j)=(t*j)*(t*j):=by grind
  rw[this,hj,oe]
 have e2:s*s-b*b=(s+s)*a:=by
  subst hs;grind
 have e3:s*j*(s*j)-b*j*(b*j)=(s*s-b*b)*(j*j):=by grind
 have e4:(s+s)*a*(j*j)=(s+s)*(j*j)*a:=by grind
 rw[e3,e2,e4,e];grind
theorem rb_b{s t j b:Zp}(ht:t*t=s+s)(hj:t*j=1):s*j*(b*j)+b*j*(s*j)=b:=by
 have e:(s+s)*(j*j)=1:=by
  rw[<-ht];have:t*t*(j*j)=(t*j)*(t*j):=by grind
  rw[this,hj,oe]
 have e3:s*j*(b*j)+b*j*(s*j)=(s+s)*(j*j)*b:=by grind
 rw[e3,e];grind
theorem rb_c{s t j a b n:Zp}(ht:t*t= -(s+s))(hj:t*j=1)(hs:s=a+n)(hn:n*n=a*a+b*b):b*j*(b*j)- -s*j*(-s*j)=a:=by
 have e: -(s+s)*(j*j)=1:=by
  rw[<-ht];have:t*t*(j*j)=(t*j)*(t*j):=by grind
  rw[this,hj,oe]
 have e2:b*b-s*s= -(s+s)*a:=by
  subst hs;grind
 have e3:b*j*(b*j)- -s*j*(-s*j)=(b*b-s*s)*(j*j):=by grind
 have e4: -(s+s)*a*(j*j)= -(s+s)*(j*j)*a:=by grind
 rw[e3,e2,e4,e];grind
theorem rb_d{s t j b:Zp}(ht:t*t= -(s+s))(hj:t*j=1):b*j*(-s*j)+ -s*j*(b*j)=b:=by
 have e: -(s+s)*(j*j)=1:=by
  rw[<-ht];have:t*t*(j*j)=(t*j)*(t*j):=by grind
  rw[this,hj,oe]
 have e3:b*j*(-s*j)+ -s*j*(b*j)= -(s+s)*(j*j)*b:=by grind
 rw[e3,e];grind
theorem PC{s:Zp}(h:s≠0):s+s≠0:=λe=>by
 obtain ⟨j,hj⟩:=y9;have:s=(s+s)*j:=by
  have e1:(s+s)*j=s*((1+1)*j):=by grind
  rw[e1,hj,rq]
 rw[e,rc]at this;exact h this
theorem Qw{a b n:Zp}(hn:n*n=a*a+b*b)(hb:b≠0):a+n≠0:=λe=>by
 have:b*b=(a+n)*(n-a):=by grind
 rw[e,rc]at this;exact hb ((mV this).elim id id)
theorem z6{a t:Zp}(h:t*t=a)(ha:a≠0):t≠0:=λe=>ha (by rw[<-h,e,jX])
def RBs(x:W2)(n:Zp):Zp:=x.1+n+(x.1+n)
def RB(x:W2)(n:Zp):W2:=
 if SQr (RBs x n)*SQr (RBs x n)=RBs x n then ((x.1+n)*SQ (RBs x n)^(PP-2),x.2*SQ (RBs x n)^(PP-2))
 else (x.2*SQ (-RBs x n)^(PP-2),-(x.1+n)*SQ (-RBs x n)^(PP-2))
theorem TF{x:W2}{n:Zp}(hn:n*n=nm2 x)(h2:x.2≠0):ml2 (RB x n) (RB x n)=x:=by
 have hd:RBs x n≠0:=PC (Qw hn h2);have hm: -RBs x n≠0:=λe=>hd (mQ.1 e);unfold RB;split
 ·rename_i h
  have e:=iT h;have hj:=nf (z6 e hd);generalize SQ (RBs x n)^(PP-2)=j at*;generalize SQ (RBs x n)=t at*;exact bU (rb_a e hj O hn) (rb_b e hj)
 ·rename_i h
  have e:=iT (uj h);have hj:=nf (z6 e hm);generalize SQ (-RBs x n)^(PP-2)=j at*;generalize SQ (-RBs x n)=t at*;exact bU (rb_c e hj O hn) (rb_d e hj)
def RF(x:W2)(n h:Zp):W2:=
 if SQr ((x.1+n)*h)*SQr ((x.1+n)*h)=(x.1+n)*h then (SQ ((x.1+n)*h),x.2*h*SQ ((x.1+n)*h)^(PP-2))
 else (SQ ((x.1-n)*h),x.2*h*SQ ((x.1-n)*h)^(PP-2))
theorem vX{x:W2}{n h:Zp}(hn:n*n=nm2 x)(hh:(1+1)*h=1)(h2:x.2≠0):ml2 (RF x n h) (RF x n h)=x:=by
 have hs:=AE (j:=h) hn;have hc:=A8 hh h2;have hne:=AR hs hc;have hq:=kF hs hc;unfold RF;split
 ·rename_i q
  have e:=iT q;exact mc hn hh (.inl e) (nf (z6 e hne.1))
 ·rename_i q
  have q2:IsQ ((x.1-n)*h):=by
   rcases hq with ⟨a,_⟩|⟨_,b⟩
   ·exact absurd a q
   ·exact b
  have e:=iT q2;exact mc hn hh (.inr e) (nf (z6 e hne.2))
def NL(x:W2):W2:=if LG2 x=true then ng2 x else x
theorem zy(x:W2):ml2 (NL x) (NL x)=ml2 x x:=by
 unfold NL;split
 ·exact C4 x
 ·rfl
theorem mv(x:W2):LG2 (NL x)=false:=by
 unfold NL;split
 ·rename_i h
  have hx:x≠ze2:=λe=>by rw[e,s7]at h;cases h
  rw[ow hx,h];rfl
 ·rename_i h
  exact Bool.eq_false_iff.2 h
theorem jw{x r q:W2}(hr:ml2 r r=x)(hl:LG2 r=false)(hq:ml2 q q=x)(hl':LG2 q=false):q=r:=Cj (hq.trans hr.symm) hl' hl
theorem uy{x r:W2}(hr:ml2 r r=x)(hl:LG2 r=false)(h:x.2=0):RO x.1=r:=jw hr hl ((Ly x.1).trans (bU O h.symm)) (Fz _)
theorem Bb{x r:W2}(hr:ml2 r r=x)(hl:LG2 r=false)(h:x.2≠0):NL (RB x (SQ (nm2 x)))=r:=jw hr hl ((zy _).trans (TF (iT (fM hr)) h)) (mv _)
theorem oy{x r:W2}{j:Zp}(hr:ml2 r r=x)(hl:LG2 r=false)(hj:(1+1)*j=1)(h:x.2≠0):NL (RF x (SQ (nm2 x)) j)=r:=jw hr hl ((zy _).trans (vX (iT (fM hr)) hj h)) (mv _)
theorem Mk{x:W2}(h: ¬IsQ (nm2 x)):x.2≠0:=λe=>h ((kw x).1 ⟨RO x.1,(Ly x.1).trans (bU O e.symm)⟩)
theorem gU:(1+1)*zp 2^(PP-2)=(1:Zp):=by
 have h:=nf yp;rw[show (1+1:Zp)=zp 2 from E5.2.symm];exact h
section
open Go.RowKit
theorem qu: ∀k,cel (List.replicate k 0)=List.replicate (6*k) 0#64
 |0=>rfl
 |k+1=>by rw[List.replicate_succ,ju,qu k,i2,List.replicate_append_replicate];congr 1;omega
theorem jb{t k:Nat}(h: ∀w,(zeroValue t).run prog w=.ok (aJ (List.replicate (6*k) 0#64)) w): ∀w,(zeroValue t).run prog w=.ok (.agg (clv (List.replicate k 0)).toArray) w:=λw=>by rw[clv,qu];exact h w
def szL:List (Nat×Nat):=[(25,1),(27,1),(37,1),(39,1),(41,2),(43,6),(52,1),(54,3),(78,2),(80,6),(117,2),(169,9),(209,6),(211,12),(238,6),(240,12),(264,6),(269,16),(283,12),(297,4),(298,16)]
def fsL:List (Nat×List (Nat×Nat)):=[(27,[(0,1)]),(39,[(0,1)]),(41,[(0,1),(1,1)]),(43,[(0,2),(2,2),(4,2)]),(52,[(0,1)]),(54,[(0,1),(1,1),(2,1)]),(78,[(0,1),(1,1)]),(80,[(0,2),(2,2),(4,2)]),(169,[(0,3),(3,6)]),(209,[(0,2),(2,2),(4,2)]),(211,[(0,6),(6,6)]),(238,[(0,2),(2,2),(4,2)]),(240,[(0,1),(1,1),(2,2),(4,2),(6,2),(8,2),(10,2)]),(297,[(0,2),(2,2)])]
abbrev iR(t k:Nat):Prop:=(∀w,(isAgg t).run prog w=.ok true w)/\(∀w,(sizeOf t).run prog w=.ok (6*k) w)/\∀w,(zeroValue t).run prog w=.ok (.agg (clv (List.replicate k 0)).toArray) w
theorem sz25:iR 25 1:=⟨isAgg25,sizeOf25,jb λw=>(zeroValue25 w).trans rr⟩
theorem sz27:iR 27 1:=⟨isAgg27,sizeOf27,jb λw=>(zeroValue27 w).trans rr⟩
theorem sz37:iR 37 1:=⟨isAgg37,sizeOf37,jb λw=>(zeroValue37 w).trans rr⟩
theorem sz39:iR 39 1:=⟨isAgg39,sizeOf39,jb λw=>(zeroValue39 w).trans rr⟩
theorem sz41:iR 41 2:=⟨isAgg41,sizeOf41,jb λw=>(zeroValue41 w).trans rr⟩
theorem sz43:iR 43 6:=⟨isAgg43,sizeOf43,jb λw=>(zeroValue43 w).trans rr⟩
theorem sz52:iR 52 1:=⟨isAgg52,sizeOf52,jb λw=>(zeroValue52 w).trans rr⟩
theorem sz54:iR 54 3:=⟨isAgg54,sizeOf54,jb λw=>(zeroValue54 w).trans rr⟩
theorem sz78:iR 78 2:=⟨isAgg78,sizeOf78,jb λw=>(zeroValue78 w).trans rr⟩
theorem sz80:iR 80 6:=⟨isAgg80,sizeOf80,jb λw=>(zeroValue80 w).trans rr⟩
theorem Tk:iR 117 2:=⟨isAgg117,sizeOf117,jb λw=>(zeroValue117 w).trans rr⟩
theorem Ue:iR 169 9:=⟨isAgg169,sizeOf169,jb λw=>(zeroValue169 w).trans rr⟩
theorem WY:iR 209 6:=⟨isAgg209,sizeOf209,jb λw=>(zeroValue209 w).trans rr⟩
theorem UN:iR 211 12:=⟨isAgg211,sizeOf211,jb λw=>(zeroValue211 w).trans rr⟩
theorem Vg:iR 238 6:=⟨isAgg238,sizeOf238,jb λw=>(zeroValue238 w).trans rr⟩
theorem Uh:iR 240 12:=⟨isAgg240,sizeOf240,jb λw=>(zeroValue240 w).trans rr⟩
theorem XD:iR 264 6:=⟨isAgg264,sizeOf264,jb λw=>(zeroValue264 w).trans rr⟩
theorem To:iR 269 16:=⟨isAgg269,sizeOf269,jb λw=>(zeroValue269 w).trans rr⟩
theorem Vc:iR 283 12:=⟨isAgg283,sizeOf283,jb λw=>(zeroValue283 w).trans rr⟩
theorem Xz:iR 297 4:=⟨isAgg297,sizeOf297,jb λw=>(zeroValue297 w).trans rr⟩
theorem WR:iR 298 16:=⟨isAgg298,sizeOf298,jb λw=>(zeroValue298 w).trans rr⟩
theorem szOk(t k:Nat)(h:oh szL t=some k):iR t k:=by
 have h:=kD h;simp only[szL,List.mem_cons,List.not_mem_nil,or_false,Prod.mk.injEq]at h;rcases h with ⟨rfl,rfl⟩|⟨rfl,rfl⟩|⟨rfl,rfl⟩|⟨rfl,rfl⟩|⟨rfl,rfl⟩|⟨rfl,rfl⟩|⟨rfl,rfl⟩|⟨rfl,rfl⟩|⟨rfl,rfl⟩|⟨rfl,rfl⟩|⟨rfl,rfl⟩|⟨rfl,rfl⟩|⟨rfl,rfl⟩|⟨rfl,rfl⟩|⟨rfl,rfl⟩|⟨rfl,rfl⟩|⟨rfl,rfl⟩|⟨rfl,rfl⟩|⟨rfl,rfl⟩|⟨rfl,rfl⟩|⟨rfl,rfl⟩
 ·exact sz25
 ·exact sz27
 ·exact sz37
 ·exact sz39
 ·exact sz41
 ·exact sz43
 ·exact sz52
 ·exact sz54
 ·exact sz78
 ·exact sz80
 ·exact Tk
 ·exact Ue
 ·exact WY
 ·exact UN
 ·exact Vg
 ·exact Uh
 ·exact XD
 ·exact To
 ·exact Vc
 ·exact Xz
 ·exact WR
abbrev lQ(t:Nat)(l:List (Nat×Nat)):Prop:= ∃fields,prog.underlying t=some (.struct fields)/\(∀w,(Array.mapM (λf=>Prod.mk f.offset<$>sizeOf f.type) fields:Sem _).run prog w=.ok (l.map (λp=>(6*p.1,6*p.2))).toArray w)/\∀(i:Nat) (p:Nat×Nat),l[i]? =some p->∃(fd:Field) (m:Nat),fields[i]? =some fd/\fd.offset=6*p.1/\m≠0/\∀w,(sizeOf fd.type).run prog w=.ok m w
theorem fs27:lQ 27 [(0,1)]:=by
 refine ⟨_,underlying27,λw=>by simp[sizeOf25],λi p h=> ?_⟩
 match i,h with
 |0,h=>cases h;exact ⟨_,6,rfl,rfl,dc,sizeOf25⟩
 |n+1,h=>simp at h
theorem fs39:lQ 39 [(0,1)]:=by
 refine ⟨_,underlying39,λw=>by simp[sizeOf37],λi p h=> ?_⟩
 match i,h with
 |0,h=>cases h;exact ⟨_,6,rfl,rfl,dc,sizeOf37⟩
 |n+1,h=>simp at h
theorem fs41:lQ 41 [(0,1),(1,1)]:=by
 refine ⟨_,underlying41,λw=>by simp[sizeOf39],λi p h=> ?_⟩
 match i,h with
 |0,h=>cases h;exact ⟨_,6,rfl,rfl,dc,sizeOf39⟩
 |1,h=>cases h;exact ⟨_,6,rfl,rfl,dc,sizeOf39⟩
 |n+2,h=>simp at h
theorem fs43:lQ 43 [(0,2),(2,2),(4,2)]:=by
 refine ⟨_,underlying43,λw=>by simp[sizeOf41],λi p h=> ?_⟩
 match i,h with
 |0,h=>cases h;exact ⟨_,12,rfl,rfl,dc,sizeOf41⟩
 |1,h=>cases h;exact ⟨_,12,rfl,rfl,dc,sizeOf41⟩
 |2,h=>cases h;exact ⟨_,12,rfl,rfl,dc,sizeOf41⟩
 |n+3,h=>simp at h
theorem fs52:lQ 52 [(0,1)]:=by
 refine ⟨_,underlying52,λw=>by simp[sizeOf25],λi p h=> ?_⟩
 match i,h with
 |0,h=>cases h;exact ⟨_,6,rfl,rfl,dc,sizeOf25⟩
 |n+1,h=>simp at h
theorem fs54:lQ 54 [(0,1),(1,1),(2,1)]:=by
 refine ⟨_,underlying54,λw=>by simp[sizeOf52],λi p h=> ?_⟩
 match i,h with
 |0,h=>cases h;exact ⟨_,6,rfl,rfl,dc,sizeOf52⟩
 |1,h=>cases h;exact ⟨_,6,rfl,rfl,dc,sizeOf52⟩
 |2,h=>cases h;exact ⟨_,6,rfl,rfl,dc,sizeOf52⟩
 |n+3,h=>simp at h
theorem fs78:lQ 78 [(0,1),(1,1)]:=by
 refine ⟨_,underlying78,λw=>by simp[sizeOf52],λi p h=> ?_⟩
 match i,h with
 |0,h=>cases h;exact ⟨_,6,rfl,rfl,dc,sizeOf52⟩
 |1,h=>cases h;exact ⟨_,6,rfl,rfl,dc,sizeOf52⟩
 |n+2,h=>simp at h
theorem fs80:lQ 80 [(0,2),(2,2),(4,2)]:=by
 refine ⟨_,underlying80,λw=>by simp[sizeOf78],λi p h=> ?_⟩
 match i,h with
 |0,h=>cases h;exact ⟨_,12,rfl,rfl,dc,sizeOf78⟩
 |1,h=>cases h;exact ⟨_,12,rfl,rfl,dc,sizeOf78⟩
 |2,h=>cases h;exact ⟨_,12,rfl,rfl,dc,sizeOf78⟩
 |n+3,h=>simp at h
theorem UJ:lQ 169 [(0,3),(3,6)]:=by
 refine ⟨_,underlying169,λw=>by simp[sizeOf54,sizeOf80],λi p h=> ?_⟩
 match i,h with
 |0,h=>cases h;exact ⟨_,18,rfl,rfl,dc,sizeOf54⟩
 |1,h=>cases h;exact ⟨_,36,rfl,rfl,dc,sizeOf80⟩
 |n+2,h=>simp at h
theorem U6:lQ 209 [(0,2),(2,2),(4,2)]:=by
 refine ⟨_,underlying209,λw=>by simp[sizeOf78],λi p h=> ?_⟩
 match i,h with
 |0,h=>cases h;exact ⟨_,12,rfl,rfl,dc,sizeOf78⟩
 |1,h=>cases h;exact ⟨_,12,rfl,rfl,dc,sizeOf78⟩
 |2,h=>cases h;exact ⟨_,12,rfl,rfl,dc,sizeOf78⟩
 |n+3,h=>simp at h
theorem Ug:lQ 211 [(0,6),(6,6)]:=by
 refine ⟨_,underlying211,λw=>by simp[sizeOf209],λi p h=> ?_⟩
 match i,h with
 |0,h=>cases h;exact ⟨_,36,rfl,rfl,dc,sizeOf209⟩
 |1,h=>cases h;exact ⟨_,36,rfl,rfl,dc,sizeOf209⟩
 |n+2,h=>simp at h
theorem Xl:lQ 238 [(0,2),(2,2),(4,2)]:=by
 refine ⟨_,underlying238,λw=>by simp[sizeOf78],λi p h=> ?_⟩
 match i,h with
 |0,h=>cases h;exact ⟨_,12,rfl,rfl,dc,sizeOf78⟩
 |1,h=>cases h;exact ⟨_,12,rfl,rfl,dc,sizeOf78⟩
 |2,h=>cases h;exact ⟨_,12,rfl,rfl,dc,sizeOf78⟩
 |n+3,h=>simp at h
theorem Wh:lQ 240 [(0,1),(1,1),(2,2),(4,2),(6,2),(8,2),(10,2)]:=by
 refine ⟨_,underlying240,λw=>by simp[sizeOf52,sizeOf78],λi p h=> ?_⟩
 match i,h with
 |0,h=>cases h;exact ⟨_,6,rfl,rfl,dc,sizeOf52⟩
 |1,h=>cases h;exact ⟨_,6,rfl,rfl,dc,sizeOf52⟩
 |2,h=>cases h;exact ⟨_,12,rfl,rfl,dc,sizeOf78⟩
 |3,h=>cases h;exact ⟨_,12,rfl,rfl,dc,sizeOf78⟩
 |4,h=>cases h;exact ⟨_,12,rfl,rfl,dc,sizeOf78⟩
 |5,h=>cases h;exact ⟨_,12,rfl,rfl,dc,sizeOf78⟩
 |6,h=>cases h;exact ⟨_,12,rfl,rfl,dc,sizeOf78⟩
 |n+7,h=>simp at h
theorem W5:lQ 297 [(0,2),(2,2)]:=by
 refine ⟨_,underlying297,λw=>by simp[sizeOf78],λi p h=> ?_⟩
 match i,h with
 |0,h=>cases h;exact ⟨_,12,rfl,rfl,dc,sizeOf78⟩
 |1,h=>cases h;exact ⟨_,12,rfl,rfl,dc,sizeOf78⟩
 |n+2,h=>simp at h
theorem fsOk(t:Nat)(l:List (Nat×Nat))(h:oh fsL t=some l):lQ t l:=by
 have h:=kD h;simp only[fsL,List.mem_cons,List.not_mem_nil,or_false,Prod.mk.injEq]at h;rcases h with ⟨rfl,rfl⟩|⟨rfl,rfl⟩|⟨rfl,rfl⟩|⟨rfl,rfl⟩|⟨rfl,rfl⟩|⟨rfl,rfl⟩|⟨rfl,rfl⟩|⟨rfl,rfl⟩|⟨rfl,rfl⟩|⟨rfl,rfl⟩|⟨rfl,rfl⟩|⟨rfl,rfl⟩|⟨rfl,rfl⟩|⟨rfl,rfl⟩
 ·exact fs27
 ·exact fs39
 ·exact fs41
 ·exact fs43
 ·exact fs52
 ·exact fs54
 ·exact fs78
 ·exact fs80
 ·exact UJ
 ·exact U6
 ·exact Ug
 ·exact Xl
 ·exact Wh
 ·exact W5
abbrev mR(t k:Nat):Prop:=(∀(op:BinOp) (x y:Operand) (xs ys:Array Value) (w:World),(eqGuard op t x y (.agg xs) (.agg ys)).run prog w=.ok () w)/\∃d0,d0<=100/\EqF prog t (6*k) d0
theorem Ub:mR 25 1:=⟨λop x y xs ys w=>run_eqGuard_agg w op 25 x y xs ys kr,2,dc,(cE underlying25 underlying24 sizeOf24 isAgg24)⟩
theorem T3:mR 27 1:=⟨λop x y xs ys w=>run_eqGuard_agg w op 27 x y xs ys kr,3,dc,(cZ underlying27 O dc kr isAgg25 sizeOf25 (cE underlying25 underlying24 sizeOf24 isAgg24))⟩
theorem Tg:mR 37 1:=⟨λop x y xs ys w=>run_eqGuard_agg w op 37 x y xs ys kr,2,dc,(cE underlying37 underlying24 sizeOf24 isAgg24)⟩
theorem Uy:mR 39 1:=⟨λop x y xs ys w=>run_eqGuard_agg w op 39 x y xs ys kr,3,dc,(cZ underlying39 O dc kr isAgg37 sizeOf37 (cE underlying37 underlying24 sizeOf24 isAgg24))⟩
theorem Wn:mR 41 2:=⟨λop x y xs ys w=>run_eqGuard_agg w op 41 x y xs ys kr,4,dc,(gh (m:=6) (n:=6) underlying41 O O dc dc kr isAgg39 sizeOf39 (cZ underlying39 O dc kr isAgg37 sizeOf37 (cE underlying37 underlying24 sizeOf24 isAgg24)) isAgg39 sizeOf39 (cZ underlying39 O dc kr isAgg37 sizeOf37 (cE underlying37 underlying24 sizeOf24 isAgg24)))⟩
theorem Ww:mR 52 1:=⟨λop x y xs ys w=>run_eqGuard_agg w op 52 x y xs ys kr,3,dc,(cZ underlying52 O dc kr isAgg25 sizeOf25 (cE underlying25 underlying24 sizeOf24 isAgg24))⟩
theorem UR:mR 78 2:=⟨λop x y xs ys w=>run_eqGuard_agg w op 78 x y xs ys kr,4,dc,(gh (m:=6) (n:=6) underlying78 O O dc dc kr isAgg52 sizeOf52 (cZ underlying52 O dc kr isAgg25 sizeOf25 (cE underlying25 underlying24 sizeOf24 isAgg24)) isAgg52 sizeOf52 (cZ underlying52 O dc kr isAgg25 sizeOf25 (cE underlying25 underlying24 sizeOf24 isAgg24)))⟩
theorem Rf:mR 117 2:=⟨λop x y xs ys w=>run_eqGuard_agg w op 117 x y xs ys kr,2,dc,(cE underlying117 underlying24 sizeOf24 isAgg24)⟩
theorem PK:mR 264 6:=⟨λop x y xs ys w=>run_eqGuard_agg w op 264 x y xs ys kr,5,dc,(mT (k:=3) (n:=12) dc underlying264 isAgg78 sizeOf78 (gh (m:=6) (n:=6) underlying78 O O dc dc kr isAgg52 sizeOf52 (cZ underlying52 O dc kr isAgg25 sizeOf25 (cE underlying25 underlying24 sizeOf24 isAgg24)) isAgg52 sizeOf52 (cZ underlying52 O dc kr isAgg25 sizeOf25 (cE underlying25 underlying24 sizeOf24 isAgg24))))⟩
theorem Rk:mR 269 16:=⟨λop x y xs ys w=>run_eqGuard_agg w op 269 x y xs ys kr,4,dc,(mT (k:=16) (n:=6) dc underlying269 isAgg52 sizeOf52 (cZ underlying52 O dc kr isAgg25 sizeOf25 (cE underlying25 underlying24 sizeOf24 isAgg24)))⟩
theorem N8:mR 283 12:=⟨λop x y xs ys w=>run_eqGuard_agg w op 283 x y xs ys kr,5,dc,(mT (k:=6) (n:=12) dc underlying283 isAgg78 sizeOf78 (gh (m:=6) (n:=6) underlying78 O O dc dc kr isAgg52 sizeOf52 (cZ underlying52 O dc kr isAgg25 sizeOf25 (cE underlying25 underlying24 sizeOf24 isAgg24)) isAgg52 sizeOf52 (cZ underlying52 O dc kr isAgg25 sizeOf25 (cE underlying25 underlying24 sizeOf24 isAgg24))))⟩
theorem Sc:mR 297 4:=⟨λop x y xs ys w=>run_eqGuard_agg w op 297 x y xs ys kr,5,dc,(gh (m:=12) (n:=12) underlying297 O O dc dc kr isAgg78 sizeOf78 (gh (m:=6) (n:=6) underlying78 O O dc dc kr isAgg52 sizeOf52 (cZ underlying52 O dc kr isAgg25 sizeOf25 (cE underlying25 underlying24 sizeOf24 isAgg24)) isAgg52 sizeOf52 (cZ underlying52 O dc kr isAgg25 sizeOf25 (cE underlying25 underlying24 sizeOf24 isAgg24))) isAgg78 sizeOf78 (gh (m:=6) (n:=6) underlying78 O O dc dc kr isAgg52 sizeOf52 (cZ underlying52 O dc kr isAgg25 sizeOf25 (cE underlying25 underlying24 sizeOf24 isAgg24)) isAgg52 sizeOf52 (cZ underlying52 O dc kr isAgg25 sizeOf25 (cE underlying25 underlying24 sizeOf24 isAgg24))))⟩
theorem QQ:mR 298 16:=⟨λop x y xs ys w=>run_eqGuard_agg w op 298 x y xs ys kr,6,dc,(mT (k:=4) (n:=24) dc underlying298 isAgg297 sizeOf297 (gh (m:=12) (n:=12) underlying297 O O dc dc kr isAgg78 sizeOf78 (gh (m:=6) (n:=6) underlying78 O O dc dc kr isAgg52 sizeOf52 (cZ underlying52 O dc kr isAgg25 sizeOf25 (cE underlying25 underlying24 sizeOf24 isAgg24)) isAgg52 sizeOf52 (cZ underlying52 O dc kr isAgg25 sizeOf25 (cE underlying25 underlying24 sizeOf24 isAgg24))) isAgg78 sizeOf78 (gh (m:=6) (n:=6) underlying78 O O dc dc kr isAgg52 sizeOf52 (cZ underlying52 O dc kr isAgg25 sizeOf25 (cE underlying25 underlying24 sizeOf24 isAgg24)) isAgg52 sizeOf52 (cZ underlying52 O dc kr isAgg25 sizeOf25 (cE underlying25 underlying24 sizeOf24 isAgg24)))))⟩
def eqL:List (Nat×Nat):=[(25,1),(27,1),(37,1),(39,1),(41,2),(52,1),(78,2),(117,2),(264,6),(269,16),(283,12),(297,4),(298,16)]
theorem eqOk(t k:Nat)(h:(oh eqL t).isSome=true)(hk:oh szL t=some k):mR t k:=by
 obtain ⟨q,hq⟩:=Option.isSome_iff_exists.1 h;have h:=kD hq;simp only[eqL,List.mem_cons,List.not_mem_nil,or_false,Prod.mk.injEq]at h;rcases h with ⟨rfl,rfl⟩|⟨rfl,rfl⟩|⟨rfl,rfl⟩|⟨rfl,rfl⟩|⟨rfl,rfl⟩|⟨rfl,rfl⟩|⟨rfl,rfl⟩|⟨rfl,rfl⟩|⟨rfl,rfl⟩|⟨rfl,rfl⟩|⟨rfl,rfl⟩|⟨rfl,rfl⟩|⟨rfl,rfl⟩
 ·cases hk;exact Ub
 ·cases hk;exact T3
 ·cases hk;exact Tg
 ·cases hk;exact Uy
 ·cases hk;exact Wn
 ·cases hk;exact Ww
 ·cases hk;exact UR
 ·cases hk;exact Rf
 ·cases hk;exact PK
 ·cases hk;exact Rk
 ·cases hk;exact N8
 ·cases hk;exact Sc
 ·cases hk;exact QQ
def arL:List (Nat×Nat):=[(264,2),(269,1),(283,2),(298,4)]
theorem arOk(t m:Nat)(h:oh arL t=some m): ∃n e,prog.underlying t=some (.array n e)/\∀w,(sizeOf e).run prog w=.ok (6*m) w:=by
 have h:=kD h;simp only[arL,List.mem_cons,List.not_mem_nil,or_false,Prod.mk.injEq]at h;rcases h with ⟨rfl,rfl⟩|⟨rfl,rfl⟩|⟨rfl,rfl⟩|⟨rfl,rfl⟩
 ·exact ⟨_,78,underlying264,sizeOf78⟩
 ·exact ⟨_,52,underlying269,sizeOf52⟩
 ·exact ⟨_,78,underlying283,sizeOf78⟩
 ·exact ⟨_,297,underlying298,sizeOf297⟩
theorem boOk(t:Nat)(h:[4].any (Nat.beq t)=true):prog.underlying t=some .bool:=by
 simp only[List.any_cons,List.any_nil,Bool.or_false]at h;rw[Nat.eq_of_beq_eq_true h];exact underlying4
def TB:Tb prog Gt:=⟨oh szL,oh fsL,[],szOk,fsOk,(λ_ h=>by cases h),λt=>(oh eqL t).isSome,eqOk,oh arL,arOk,λt=>[4].any (Nat.beq t),boOk⟩
theorem Q3{P:Program}{G:Cls}(T:Tb P G){f:Nat}{c:List S0->Option S1}(h:Snd P G f c): ∀e∈(f,c)::T.ct,Snd P G e.1 e.2:=λe he=>by
 rcases List.mem_cons.1 he with rfl|he
 ·exact h
 ·exact T.hct e he
def Tb.add{P:Program}{G:Cls}(T:Tb P G){f:Nat}{c:List S0->Option S1}(h:Snd P G f c):Tb P G:={T with ct:=(f,c)::T.ct,hct:=Q3 T h}
theorem gtS(w:World)(h:Gt w):BOk Gt (pl w):=gt_low.plain h
end
section
open Go.RowKit
attribute [local simp] a6 bv aH aA aQ aY aR aK aM PLl cJ cH N1l cI cL cK bf bB a7 bu
theorem ent221:ai prog 221:=λ_ _=>kr
theorem ent235:ai prog 235:=λ_ _=>kr
theorem ent175:ai prog 175:=λ_ _=>kr
theorem ent210:ai prog 210:=λ_ _=>kr
theorem ent181:ai prog 181:=λ_ _=>kr
theorem ent214:ai prog 214:=λ_ _=>kr
theorem ent176:ai prog 176:=λ_ _=>kr
theorem ent130:ai prog 130:=λ_ _=>kr
theorem ent129:ai prog 129:=λ_ _=>kr
theorem ent177:ai prog 177:=λ_ _=>kr
theorem ent260:ai prog 260:=λ_ _=>kr
theorem ent128:ai prog 128:=λ_ _=>kr
theorem ent178:ai prog 178:=λ_ _=>kr
theorem ent253:ai prog 253:=λ_ _=>kr
theorem ent254:ai prog 254:=λ_ _=>kr
theorem ent251:ai prog 251:=λ_ _=>kr
theorem ent81:ai prog 81:=λ_ _=>kr
theorem ent51:ai prog 51:=λ_ _=>kr
theorem ent57:ai prog 57:=λ_ _=>kr
theorem ent101:ai prog 101:=λ_ _=>kr
theorem ent90:ai prog 90:=λ_ _=>kr
theorem ent105:ai prog 105:=λ_ _=>kr
theorem ent89:ai prog 89:=λ_ _=>kr
theorem ent154:ai prog 154:=λ_ _=>kr
theorem ent96:ai prog 96:=λ_ _=>kr
theorem ent49:ai prog 49:=λ_ _=>kr
theorem ent146:ai prog 146:=λ_ _=>kr
abbrev EV2(x:W2):Value:=aJ (fe x.1++fe x.2)
theorem zf52(w:World):(zeroValue 52).run prog w=.ok (aJ (fe 0)) w:=by rw[i2];exact (zeroValue52 w).trans rr
theorem zv78(w:World):(zeroValue 78).run prog w=.ok (aJ (fe 0++fe 0)) w:=by rw[i2];exact (zeroValue78 w).trans rr
theorem fV:Two prog 78 ⟨ "C0",52,0,false, "", "",0⟩ ⟨ "C1",52,6,false, "", "",48⟩ 6 6 (fe 0) (fe 0):=⟨underlying78,rfl,rfl,sizeOf52,sizeOf52,zv78,a6 0,a6 0⟩
theorem zv41(w:World):(zeroValue 41).run prog w=.ok (aJ (fe 0++fe 0)) w:=by rw[i2];exact (zeroValue41 w).trans rr
theorem rU:Two prog 41 ⟨ "A",39,0,false, "", "",0⟩ ⟨ "B",39,6,false, "", "",48⟩ 6 6 (fe 0) (fe 0):=⟨underlying41,rfl,rfl,sizeOf39,sizeOf39,zv41,a6 0,a6 0⟩
theorem Wj:EqF prog 41 12 4:=
 have h:EqF prog 39 6 3:=cZ underlying39 O dc kr isAgg37 sizeOf37 (cE underlying37 underlying24 sizeOf24 isAgg24)
 gh underlying41 O O dc dc kr isAgg39 sizeOf39 h isAgg39 sizeOf39 h
theorem MS(op:BinOp)(x y:Operand)(xs ys:Array Value)(w:World):(eqGuard op 41 x y (.agg xs) (.agg ys)).run prog w=.ok () w:=run_eqGuard_agg w op 41 x y xs ys kr
theorem Nm(xs ys:L6)(h:xs.length=12)(h':ys.length=12)(w:World):(binOp .eql 41 (aJ xs) (aJ ys)).run prog w=.ok (.bool (decide (xs=ys))) w:=zD Wj dc xs ys h h' w
theorem rb{a b:Bool}(h:a=b):Ending.returned (.bool a)=.returned (.bool b):=by rw[h]
def q3:Sh (Zp×Zp×Zp):=q1.two (q1.two q1 1) 1
theorem pE{f:FuncId}{fn:Func}{c:Code}(T:Tb prog Gt)(hf:prog.funcs[f]? =some fn)(a:List S0)(v:S1)(vc:S1×CB)(p:Pa)(h:xF T fn c a p=some vc)(hc:Ok vc.2)(e:vc.1=v)(hb:fn.body=some c:=by rfl)(hn:Nat.ble a.length fn.ntmps=true:=by rfl):PUR f (a.map (dn rid)) (dn1 rid v):=by rw[<-e];exact NC (v:=vc.1) (cs:=vc.2) T cY gtS hf hb h hc hn rid
theorem el2{a b c d:Zp}(h1:a=c)(h2:b=d):(Sum.inl (Sum.inl [a,b]):S1)=.inl (.inl [c,d]):=by rw[h1,h2]
theorem eb{a b:Bool}(h:a=b):(Sum.inl (.inr (.inl a)):S1)=.inl (.inr (.inl b)):=by rw[h]
theorem ei{a b:Int}(h:a=b):(Sum.inl (.inr (.inr (.inl (I a)))):S1)=.inl (.inr (.inr (.inl (I b)))):=by rw[h]
theorem dk{f:Nat}{g:Zp->Zp->Zp}(en:ai prog f)(h: ∀a b,PUR f [EV a,EV b] (EV (g a b))):Snd prog Gt f (c2 q1.ag q1.ag q1.rd g):=gv q1.ag q1.ag q1.rd en h
def TO1:Tb prog Gt:=TB.add (dk (g:=λx y=>x*y) ent117 iz)
theorem sk{f:Nat}{g:BitVec 64->Zp}(en:ai prog f)(h: ∀a,PUR f [U64 a] (EV (g a))):Snd prog Gt f (c1 agU q1.rd g):=gt agU q1.rd en h
def TO2:Tb prog Gt:=TO1.add (sk (g:=λn=>zp n.toNat) ent120 eS)
theorem pf{f:Nat}{g:Zp->Zp->Bool}(en:ai prog f)(h: ∀a b,PUR f [EV a,EV b] (.bool (g a b))):Snd prog Gt f (c2 q1.ag q1.ag rdB g):=gv q1.ag q1.ag rdB en h
def TO3:Tb prog Gt:=TO2.add (pf (g:=λx y=>decide (x=y)) ent188 nM)
theorem iA{f:Nat}{g:Zp->Bool}(en:ai prog f)(h: ∀a,PUR f [EV a] (.bool (g a))):Snd prog Gt f (c1 q1.ag rdB g):=gt q1.ag rdB en h
def TO4:Tb prog Gt:=TO3.add (iA (g:=λx=>decide (x=0)) ent53 s8)
def TO5:Tb prog Gt:=TO4.add (dk (g:=λx y=>x+y) ent179 rB)
def TO6:Tb prog Gt:=TO5.add (dk (g:=λx y=>x-y) ent169 nq)
theorem gC{f:Nat}{g:Zp->Zp}(en:ai prog f)(h: ∀a,PUR f [EV a] (EV (g a))):Snd prog Gt f (c1 q1.ag q1.rd g):=gt q1.ag q1.rd en h
def TO7:Tb prog Gt:=TO6.add (gC (g:=λx=> -x) ent153 dY)
def TO8:Tb prog Gt:=TO7.add (gC (g:=λx=>x*x) ent116 jM)
theorem qT{f:Nat}{g:Zp}(en:ai prog f)(h:PUR f [U64 1#64] (EV g)):Snd prog Gt f (c1 (agL 1) q1.rd (λ_=>g)):=gt (agL 1) q1.rd en (λ_=>h)
def TO9:Tb prog Gt:=TO8.add (qT (g:=1) ent120 rN)
def TO10:Tb prog Gt:=TO9.add (gC (g:=λx=>x^(PP-2)) ent115 BV)
def TO11:Tb prog Gt:=TO10.add (iA (g:=λx=>decide (x.val % 2=1)) ent271 BI)
def TO12:Tb prog Gt:=TO11.add (iA (g:=λx=>decide (hf<x.val)) ent73 kG)
theorem nF{f:Nat}{g:Zp->Zp}{k:Zp->Bool}(en:ai prog f)(h: ∀a,PUR f [EV a] (.tuple #[EV (g a),.bool (k a)])):Snd prog Gt f (c1 q1.ag q1.rdB (λa=>((g a),(k a)))):=gt q1.ag q1.rdB en h
def TO13:Tb prog Gt:=TO12.add (nF (g:=SQ) (k:=λx=>decide (SQr x*SQr x=x)) ent152 lY)
def TO14:Tb prog Gt:=TO13.add (dk (g:=λx y=>x*y) ent147 ER)
def TO15:Tb prog Gt:=TO14.add (dk (g:=λx y=>x+y) ent149 We)
def TO16:Tb prog Gt:=TO15.add (dk (g:=λx y=>x-y) ent148 Tp)
def TO17:Tb prog Gt:=TO16.add (gC (g:=λx=> -x) ent141 v4)
def TO18:Tb prog Gt:=TO17.add (gC (g:=λx=>x^(PP-2)) ent155 U4)
def TO19:Tb prog Gt:=TO18.add (iA (g:=λx=>decide (x=0)) ent98 Dy)
def TO20:Tb prog Gt:=TO19.add (iA (g:=λx=>decide (x.val % 2=1)) ent185 VC)
def TO21:Tb prog Gt:=TO20.add (iA (g:=λx=>decide (hf<x.val)) ent99 tz)
def TO22:Tb prog Gt:=TO21.add (sk (g:=λn=>zp n.toNat) ent100 iq)
def TO23:Tb prog Gt:=TO22.add (nF (g:=SQ) (k:=λx=>decide (SQr x*SQr x=x)) ent158 NE)
theorem sC  :PUR 221 [] (EV2 on2):=pE TO23 func221 [] (.inl (.inl [on2.1,on2.2])) (.inl (.inl [1,0]),[]) [] kr aD O
theorem nO{f:Nat}{g:W2}(en:ai prog f)(h:PUR f [] (EV2 g)):Snd prog Gt f (c0 q2.rd g):=vJ q2.rd en h
def TO24:Tb prog Gt:=TO23.add (nO (g:=on2) ent221 sC)
theorem sR(x y:W2):PUR 235 [EV2 x,EV2 y] (.bool (decide (x=y))):=by
 by_cases h:x.1=y.1
 ·exact pE TO24 func235 [.inl [x.1,x.2],.inl [y.1,y.2]] (.inl (.inr (.inl (decide (x=y))))) (.inl (.inr (.inl (decide (x.2=y.2)))),[(decide (x.1=y.1),true)]) [some true] kr (ao (decide_eq_true h) aD) (eb (xX h))
 ·exact pE TO24 func235 [.inl [x.1,x.2],.inl [y.1,y.2]] (.inl (.inr (.inl (decide (x=y))))) (.inl (.inr (.inl false)),[(decide (x.1=y.1),false)]) [some false] kr (ao (decide_eq_false h) aD) (eb (yN h))
theorem qi{f:Nat}{g:W2->W2->Bool}(en:ai prog f)(h: ∀a b,PUR f [EV2 a,EV2 b] (.bool (g a b))):Snd prog Gt f (c2 q2.ag q2.ag rdB g):=gv q2.ag q2.ag rdB en h
def TO25:Tb prog Gt:=TO24.add (qi (g:=λx y=>decide (x=y)) ent235 sR)
theorem wJ(x:W2):PUR 175 [EV2 x] (.bool (decide (x=ze2))):=by
 by_cases h:x.1=0
 ·exact pE TO25 func175 [.inl [x.1,x.2]] (.inl (.inr (.inl (decide (x=ze2))))) (.inl (.inr (.inl (decide (x.2=0)))),[(decide (x.1=0),true)]) [some true] kr (ao (decide_eq_true h) aD) (eb (xX (y:=ze2) h))
 ·exact pE TO25 func175 [.inl [x.1,x.2]] (.inl (.inr (.inl (decide (x=ze2))))) (.inl (.inr (.inl false)),[(decide (x.1=0),false)]) [some false] kr (ao (decide_eq_false h) aD) (eb (yN (y:=ze2) h))
theorem k9{f:Nat}{g:W2->Bool}(en:ai prog f)(h: ∀a,PUR f [EV2 a] (.bool (g a))):Snd prog Gt f (c1 q2.ag rdB g):=gt q2.ag rdB en h
def TO26:Tb prog Gt:=TO25.add (k9 (g:=λx=>decide (x=ze2)) ent175 wJ)
theorem fw(x y:W2):PUR 210 [EV2 x,EV2 y] (EV2 (ad2 x y)):=pE TO26 func210 [.inl [x.1,x.2],.inl [y.1,y.2]] (.inl (.inl [(ad2 x y).1,(ad2 x y).2])) (.inl (.inl [x.1+y.1,x.2+y.2]),[]) [] kr aD O
theorem cT{f:Nat}{g:W2->W2->W2}(en:ai prog f)(h: ∀a b,PUR f [EV2 a,EV2 b] (EV2 (g a b))):Snd prog Gt f (c2 q2.ag q2.ag q2.rd g):=gv q2.ag q2.ag q2.rd en h
def TO27:Tb prog Gt:=TO26.add (cT (g:=ad2) ent210 fw)
theorem ku(x y:W2):PUR 181 [EV2 x,EV2 y] (EV2 (sb2 x y)):=pE TO27 func181 [.inl [x.1,x.2],.inl [y.1,y.2]] (.inl (.inl [(sb2 x y).1,(sb2 x y).2])) (.inl (.inl [x.1-y.1,x.2-y.2]),[]) [] kr aD O
def TO28:Tb prog Gt:=TO27.add (cT (g:=sb2) ent181 ku)
theorem FT(x:W2):PUR 214 [EV2 x] (EV2 (ng2 x)):=pE TO28 func214 [.inl [x.1,x.2]] (.inl (.inl [(ng2 x).1,(ng2 x).2])) (.inl (.inl [-x.1,-x.2]),[]) [] kr aD O
theorem dU{f:Nat}{g:W2->W2}(en:ai prog f)(h: ∀a,PUR f [EV2 a] (EV2 (g a))):Snd prog Gt f (c1 q2.ag q2.rd g):=gt q2.ag q2.rd en h
def TO29:Tb prog Gt:=TO28.add (dU (g:=ng2) ent214 FT)
theorem mZ(x:W2):PUR 176 [EV2 x] (EV2 (cj2 x)):=pE TO29 func176 [.inl [x.1,x.2]] (.inl (.inl [(cj2 x).1,(cj2 x).2])) (.inl (.inl [x.1,-x.2]),[]) [] kr aD O
def TO30:Tb prog Gt:=TO29.add (dU (g:=cj2) ent176 mZ)
theorem dG(x y:W2):PUR 130 [EV2 x,EV2 y] (EV2 (ml2 x y)):=pE TO30 func130 [.inl [x.1,x.2],.inl [y.1,y.2]] (.inl (.inl [(ml2 x y).1,(ml2 x y).2])) (let t0:=(x.1+x.2)*(y.1+y.2);let t1:=(x.1*y.1)-(x.2*y.2);let t2:=t0-(x.1*y.1);let t3:=t2-(x.2*y.2);(.inl (.inl [t1,t3]),[])) [] kr aD (el2 (by first|(simp only[ml2];done)|(simp only[ml2];grind)) (by first|(simp only[ml2];done)|(simp only[ml2];grind)))
def TO31:Tb prog Gt:=TO30.add (cT (g:=ml2) ent130 dG)
theorem iO(x:W2):PUR 129 [EV2 x] (EV2 (ml2 x x)):=pE TO31 func129 [.inl [x.1,x.2]] (.inl (.inl [(ml2 x x).1,(ml2 x x).2])) (let t0:=(x.1+x.2)*(x.1-x.2);let t1:=(x.1*x.2)+(x.1*x.2);(.inl (.inl [t0,t1]),[])) [] kr aD (el2 (by first|(simp only[ml2];done)|(simp only[ml2];grind)) (by first|(simp only[ml2];done)|(simp only[ml2];grind)))
def TO32:Tb prog Gt:=TO31.add (dU (g:=λx=>ml2 x x) ent129 iO)
theorem Js(x:W2)(c:Zp):PUR 177 [EV2 x,EV c] (EV2 (sc2 x c)):=pE TO32 func177 [.inl [x.1,x.2],.inl [c]] (.inl (.inl [(sc2 x c).1,(sc2 x c).2])) (.inl (.inl [x.1*c,x.2*c]),[]) [] kr aD O
theorem kd{f:Nat}{g:W2->Zp->W2}(en:ai prog f)(h: ∀a b,PUR f [EV2 a,EV b] (EV2 (g a b))):Snd prog Gt f (c2 q2.ag q1.ag q2.rd g):=gv q2.ag q1.ag q2.rd en h
def TO33:Tb prog Gt:=TO32.add (kd (g:=sc2) ent177 Js)
theorem BC(x:W2):PUR 260 [EV2 x] (EV2 (xi2 x)):=pE TO33 func260 [.inl [x.1,x.2]] (.inl (.inl [(xi2 x).1,(xi2 x).2])) (.inl (.inl [x.1-x.2,x.1+x.2]),[]) [] kr aD O
def TO34:Tb prog Gt:=TO33.add (dU (g:=xi2) ent260 BC)
theorem NA(x:W2):PUR 178 [EV2 x] (EV (nm2 x)):=pE TO34 func178 [.inl [x.1,x.2]] (.inl (.inl [nm2 x])) (let t0:=(x.1*x.1)+(x.2*x.2);(.inl (.inl [t0]),[])) [] kr aD O
theorem qK{f:Nat}{g:W2->Zp}(en:ai prog f)(h: ∀a,PUR f [EV2 a] (EV (g a))):Snd prog Gt f (c1 q2.ag q1.rd g):=gt q2.ag q1.rd en h
def TO35:Tb prog Gt:=TO34.add (qK (g:=nm2) ent178 NA)
theorem FC(x:W2):PUR 128 [EV2 x] (EV2 (iv2 x)):=pE TO35 func128 [.inl [x.1,x.2]] (.inl (.inl [(iv2 x).1,(iv2 x).2])) (let t0:=cj2 x;let t1:=(nm2 x)^(PP-2);let t2:=sc2 (t0.1,t0.2) t1;(.inl (.inl [t2.1,t2.2]),[])) [] kr aD O
def TO36:Tb prog Gt:=TO35.add (dU (g:=iv2) ent128 FC)
end
section
open Go.RowKit
attribute [local simp] a6 bv aH aA aQ aY aR aK aM PLl cJ cH N1l cI cL cK bf bB a7 bu
theorem Di{x:W2}(h:x.2=0):decide (hf<x.1.val)=LG2 x:=by rw[LG2,if_pos h]
theorem Dq{x:W2}(h: ¬x.2=0):decide (hf<x.2.val)=LG2 x:=by rw[LG2,if_neg h]
theorem Tr{x:W2}(h:hf<x.2.val):true=LG2 x:=by
 have h0: ¬x.2=0:=λe=>by rw[e]at h;exact Nat.not_lt_zero _ h
 rw[<-Dq h0,decide_eq_true h]
theorem Wl{x:W2}(h: ¬hf<x.2.val)(h0: ¬x.2=0):false=LG2 x:=by rw[<-Dq h0,decide_eq_false h]
theorem LL{x:W2}(h:x.1.val % 2=1):1=SG2 x:=by rw[SG2,if_pos h]
theorem Mp{x:W2}(h: ¬x.1.val % 2=1)(h0:x.1=0)(h2:x.2.val % 2=1):1=SG2 x:=by rw[SG2,if_neg h,if_pos h0,if_pos h2]
theorem LW{x:W2}(h: ¬x.1.val % 2=1)(h0:x.1=0)(h2: ¬x.2.val % 2=1):0=SG2 x:=by rw[SG2,if_neg h,if_pos h0,if_neg h2]
theorem No{x:W2}(h: ¬x.1.val % 2=1)(h0: ¬x.1=0):0=SG2 x:=by rw[SG2,if_neg h,if_neg h0]
theorem Kn:PUR 100 [U64 1#64] (EV 1):=iq 1#64
theorem IQ:PUR 100 [U64 2#64] (EV (zp 2)):=iq 2#64
def TO37:Tb prog Gt:=TO36.add (qT (g:=1) ent100 Kn)
theorem yq{f:Nat}{g:Zp}(en:ai prog f)(h:PUR f [U64 2#64] (EV g)):Snd prog Gt f (c1 (agL 2) q1.rd (λ_=>g)):=gt (agL 2) q1.rd en (λ_=>h)
def TO38:Tb prog Gt:=TO37.add (yq (g:=zp 2) ent100 IQ)
theorem Bl(x:W2):PUR 81 [EV2 x] (.bool (LG2 x)):=by
 by_cases h:hf<x.2.val
 ·exact pE TO38 func81 [.inl [x.1,x.2]] (.inl (.inr (.inl (LG2 x)))) (.inl (.inr (.inl true)),[(decide (hf<x.2.val),true)]) [some true] kr (ao (decide_eq_true h) aD) (eb (Tr h))
 ·by_cases h0:x.2=0
  ·exact pE TO38 func81 [.inl [x.1,x.2]] (.inl (.inr (.inl (LG2 x)))) (.inl (.inr (.inl (decide (hf<x.1.val)))),[(decide (hf<x.2.val),false),(decide (x.2=0),true)]) [some false,some true] kr (ao (decide_eq_false h) (ao (decide_eq_true h0) aD)) (eb (Di h0))
  ·exact pE TO38 func81 [.inl [x.1,x.2]] (.inl (.inr (.inl (LG2 x)))) (.inl (.inr (.inl false)),[(decide (hf<x.2.val),false),(decide (x.2=0),false)]) [some false,some false] kr (ao (decide_eq_false h) (ao (decide_eq_false h0) aD)) (eb (Wl h h0))
def TO39:Tb prog Gt:=TO38.add (k9 (g:=LG2) ent81 Bl)
theorem wD(x:W2):PUR 251 [EV2 x] (I (SG2 x)):=by
 by_cases h:x.1.val % 2=1
 ·exact pE TO39 func251 [.inl [x.1,x.2]] (.inl (.inr (.inr (.inl (I (SG2 x)))))) (.inl (.inr (.inr (.inl (I 1)))),[(decide (x.1.val % 2=1),true)]) [some true] kr (ao (decide_eq_true h) aD) (ei (LL h))
 ·by_cases h0:x.1=0
  ·by_cases h2:x.2.val % 2=1
   ·exact pE TO39 func251 [.inl [x.1,x.2]] (.inl (.inr (.inr (.inl (I (SG2 x)))))) (.inl (.inr (.inr (.inl (I 1)))),[(decide (x.1.val % 2=1),false),(decide (x.1=0),true),(decide (x.2.val % 2=1),true)]) [some false,some true,some true] kr (ao (decide_eq_false h) (ao (decide_eq_true h0) (ao (decide_eq_true h2) aD))) (ei (Mp h h0 h2))
   ·exact pE TO39 func251 [.inl [x.1,x.2]] (.inl (.inr (.inr (.inl (I (SG2 x)))))) (.inl (.inr (.inr (.inl (I 0)))),[(decide (x.1.val % 2=1),false),(decide (x.1=0),true),(decide (x.2.val % 2=1),false)]) [some false,some true,some false] kr (ao (decide_eq_false h) (ao (decide_eq_true h0) (ao (decide_eq_false h2) aD))) (ei (LW h h0 h2))
  ·exact pE TO39 func251 [.inl [x.1,x.2]] (.inl (.inr (.inr (.inl (I (SG2 x)))))) (.inl (.inr (.inr (.inl (I 0)))),[(decide (x.1.val % 2=1),false),(decide (x.1=0),false)]) [some false,some false] kr (ao (decide_eq_false h) (ao (decide_eq_false h0) aD)) (ei (No h h0))
theorem rL{f:Nat}{g:W2->Value}(en:ai prog f)(h: ∀a,PUR f [EV2 a] ((g a))):Snd prog Gt f (c1 q2.ag rdV g):=gt q2.ag rdV en h
def TO40:Tb prog Gt:=TO39.add (rL (g:=λx=>I (SG2 x)) ent251 wD)
theorem u4(x:W2):PUR 146 [EV2 x] (I (SG2 x)):=by
 by_cases h:x.1.val % 2=1
 ·exact pE TO40 func146 [.inl [x.1,x.2]] (.inl (.inr (.inr (.inl (I (SG2 x)))))) (.inl (.inr (.inr (.inl (I 1)))),[(decide (x.1.val % 2=1),true)]) [some true] kr (ao (decide_eq_true h) aD) (ei (LL h))
 ·by_cases h0:x.1=0
  ·by_cases h2:x.2.val % 2=1
   ·exact pE TO40 func146 [.inl [x.1,x.2]] (.inl (.inr (.inr (.inl (I (SG2 x)))))) (.inl (.inr (.inr (.inl (I 1)))),[(decide (x.1.val % 2=1),false),(decide (x.1=0),true),(decide (x.2.val % 2=1),true)]) [some false,some true,some true] kr (ao (decide_eq_false h) (ao (decide_eq_true h0) (ao (decide_eq_true h2) aD))) (ei (Mp h h0 h2))
   ·exact pE TO40 func146 [.inl [x.1,x.2]] (.inl (.inr (.inr (.inl (I (SG2 x)))))) (.inl (.inr (.inr (.inl (I 0)))),[(decide (x.1.val % 2=1),false),(decide (x.1=0),true),(decide (x.2.val % 2=1),false)]) [some false,some true,some false] kr (ao (decide_eq_false h) (ao (decide_eq_true h0) (ao (decide_eq_false h2) aD))) (ei (LW h h0 h2))
  ·exact pE TO40 func146 [.inl [x.1,x.2]] (.inl (.inr (.inr (.inl (I (SG2 x)))))) (.inl (.inr (.inr (.inl (I 0)))),[(decide (x.1.val % 2=1),false),(decide (x.1=0),false)]) [some false,some false] kr (ao (decide_eq_false h) (ao (decide_eq_false h0) aD)) (ei (No h h0))
def TO41:Tb prog Gt:=TO40.add (rL (g:=λx=>I (SG2 x)) ent146 u4)
theorem nS  :PUR 51 [] (EV2 on2):=pE TO41 func51 [] (.inl (.inl [on2.1,on2.2])) (.inl (.inl [1,0]),[]) [] kr aD O
def TO42:Tb prog Gt:=TO41.add (nO (g:=on2) ent51 nS)
theorem kX(x:W2):PUR 57 [EV2 x] (.bool (decide (x=ze2))):=by
 by_cases h:x.1=0
 ·exact pE TO42 func57 [.inl [x.1,x.2]] (.inl (.inr (.inl (decide (x=ze2))))) (.inl (.inr (.inl (decide (x.2=0)))),[(decide (x.1=0),true)]) [some true] kr (ao (decide_eq_true h) aD) (eb (xX (y:=ze2) h))
 ·exact pE TO42 func57 [.inl [x.1,x.2]] (.inl (.inr (.inl (decide (x=ze2))))) (.inl (.inr (.inl false)),[(decide (x.1=0),false)]) [some false] kr (ao (decide_eq_false h) aD) (eb (yN (y:=ze2) h))
def TO43:Tb prog Gt:=TO42.add (k9 (g:=λx=>decide (x=ze2)) ent57 kX)
theorem sr(x y:W2):PUR 101 [EV2 x,EV2 y] (EV2 (ad2 x y)):=pE TO43 func101 [.inl [x.1,x.2],.inl [y.1,y.2]] (.inl (.inl [(ad2 x y).1,(ad2 x y).2])) (.inl (.inl [x.1+y.1,x.2+y.2]),[]) [] kr aD O
def TO44:Tb prog Gt:=TO43.add (cT (g:=ad2) ent101 sr)
theorem Nn(x y:W2):PUR 90 [EV2 x,EV2 y] (EV2 (sb2 x y)):=pE TO44 func90 [.inl [x.1,x.2],.inl [y.1,y.2]] (.inl (.inl [(sb2 x y).1,(sb2 x y).2])) (.inl (.inl [x.1-y.1,x.2-y.2]),[]) [] kr aD O
def TO45:Tb prog Gt:=TO44.add (cT (g:=sb2) ent90 Nn)
theorem rR(x:W2):PUR 105 [EV2 x] (EV2 (ng2 x)):=pE TO45 func105 [.inl [x.1,x.2]] (.inl (.inl [(ng2 x).1,(ng2 x).2])) (.inl (.inl [-x.1,-x.2]),[]) [] kr aD O
def TO46:Tb prog Gt:=TO45.add (dU (g:=ng2) ent105 rR)
theorem eE(x y:W2):PUR 89 [EV2 x,EV2 y] (EV2 (ml2 x y)):=by
 by_cases h:x.2=0
 ·by_cases h2:y.2=0
  ·exact pE TO46 func89 [.inl [x.1,x.2],.inl [y.1,y.2]] (.inl (.inl [(ml2 x y).1,(ml2 x y).2])) (.inl (.inl [x.1*y.1,0]),[(decide (x.2=0),true),(decide (y.2=0),true)]) [some true,some true] kr (ao (decide_eq_true h) (ao (decide_eq_true h2) aD)) (el2 (by simp only[ml2];rw[h];grind) (by simp only[ml2];rw[h,h2,jX,rc,Kz]))
  ·exact pE TO46 func89 [.inl [x.1,x.2],.inl [y.1,y.2]] (.inl (.inl [(ml2 x y).1,(ml2 x y).2])) (let t0:=(x.1*y.1)-(x.2*y.2);let t1:=(x.1+x.2)*(y.1+y.2);let t2:=t1-(x.1*y.1);let t3:=t2-(x.2*y.2);(.inl (.inl [t0,t3]),[(decide (x.2=0),true),(decide (y.2=0),false)])) [some true,some false] kr (ao (decide_eq_true h) (ao (decide_eq_false h2) aD)) (el2 (by first|(simp only[ml2];done)|(simp only[ml2];grind)) (by first|(simp only[ml2];done)|(simp only[ml2];grind)))
 ·exact pE TO46 func89 [.inl [x.1,x.2],.inl [y.1,y.2]] (.inl (.inl [(ml2 x y).1,(ml2 x y).2])) (let t0:=(x.1*y.1)-(x.2*y.2);let t1:=(x.1+x.2)*(y.1+y.2);let t2:=t1-(x.1*y.1);let t3:=t2-(x.2*y.2);(.inl (.inl [t0,t3]),[(decide (x.2=0),false)])) [some false] kr (ao (decide_eq_false h) aD) (el2 (by first|(simp only[ml2];done)|(simp only[ml2];grind)) (by first|(simp only[ml2];done)|(simp only[ml2];grind)))
def TO47:Tb prog Gt:=TO46.add (cT (g:=ml2) ent89 eE)
theorem PJ(x:W2):PUR 154 [EV2 x] (EV (nm2 x)):=pE TO47 func154 [.inl [x.1,x.2]] (.inl (.inl [nm2 x])) (let t0:=(x.1*x.1)+(x.2*x.2);(.inl (.inl [t0]),[])) [] kr aD O
def TO48:Tb prog Gt:=TO47.add (qK (g:=nm2) ent154 PJ)
theorem lv(x:W2):PUR 96 [EV2 x] (EV2 (iv2 x)):=pE TO48 func96 [.inl [x.1,x.2]] (.inl (.inl [(iv2 x).1,(iv2 x).2])) (let t0:=(nm2 x)^(PP-2);(.inl (.inl [x.1*t0,(-x.2)*t0]),[])) [] kr aD O
def TO49:Tb prog Gt:=TO48.add (dU (g:=iv2) ent96 lv)
theorem mM(x:W2):PUR 49 [EV2 x] (.bool (LG2 x)):=by
 by_cases h:x.2=0
 ·exact pE TO49 func49 [.inl [x.1,x.2]] (.inl (.inr (.inl (LG2 x)))) (.inl (.inr (.inl (decide (hf<x.1.val)))),[(decide (x.2=0),true)]) [some true] kr (ao (decide_eq_true h) aD) (eb (Di h))
 ·exact pE TO49 func49 [.inl [x.1,x.2]] (.inl (.inr (.inl (LG2 x)))) (.inl (.inr (.inl (decide (hf<x.2.val)))),[(decide (x.2=0),false)]) [some false] kr (ao (decide_eq_false h) aD) (eb (Dq h))
def TO50:Tb prog Gt:=TO49.add (k9 (g:=LG2) ent49 mM)
theorem tE(c:Zp):PUR 253 [EV c] (EV2 (RO c)):=by
 by_cases h:SQr c*SQr c=c
 ·exact pE TO50 func253 [.inl [c]] (.inl (.inl [(RO c).1,(RO c).2])) (.inl (.inl [SQ c,0]),[(decide (SQr c*SQr c=c),true)]) [some true] kr (ao (decide_eq_true h) aD) (by rw[show RO c=(SQ c,0)from if_pos h]<;>exact rfl)
 ·exact pE TO50 func253 [.inl [c]] (.inl (.inl [(RO c).1,(RO c).2])) (.inl (.inl [0,SQ (-c)]),[(decide (SQr c*SQr c=c),false)]) [some false] kr (ao (decide_eq_false h) aD) (by rw[show RO c=(0,SQ (-c))from if_neg h]<;>exact rfl)
theorem xI{f:Nat}{g:Zp->W2}(en:ai prog f)(h: ∀a,PUR f [EV a] (EV2 (g a))):Snd prog Gt f (c1 q1.ag q2.rd g):=gt q1.ag q2.rd en h
def TO51:Tb prog Gt:=TO50.add (xI (g:=RO) ent253 tE)
theorem EP(x:W2)(n:Zp):PUR 254 [EV2 x,EV n] (EV2 (RB x n)):=by
 by_cases h:SQr (RBs x n)*SQr (RBs x n)=RBs x n
 ·exact pE TO51 func254 [.inl [x.1,x.2],.inl [n]] (.inl (.inl [(RB x n).1,(RB x n).2])) (let t0:=(x.1+n)+(x.1+n);let t1:=(SQ t0)^(PP-2);let t2:=(x.1+n)*t1;(.inl (.inl [t2,x.2*t1]),[(decide (SQr t0*SQr t0=t0),true)])) [some true] kr (ao (decide_eq_true h) aD) (by rw[show RB x n=_ from if_pos h]<;>exact rfl)
 ·exact pE TO51 func254 [.inl [x.1,x.2],.inl [n]] (.inl (.inl [(RB x n).1,(RB x n).2])) (let t0:=(x.1+n)+(x.1+n);let t1:=(SQ (-t0))^(PP-2);let t2:=(-(x.1+n))*t1;(.inl (.inl [x.2*t1,t2]),[(decide (SQr t0*SQr t0=t0),false)])) [some false] kr (ao (decide_eq_false h) aD) (by rw[show RB x n=_ from if_neg h]<;>exact rfl)
def TO52:Tb prog Gt:=TO51.add (kd (g:=RB) ent254 EP)
theorem Rp{α:Type}(f:W2->α)(x:W2):f (x.1,x.2)=f x:=rfl
theorem ov(x r:W2)(hr:ml2 r r=x)(hl:LG2 r=false):PUR 213 [EV2 x] (.tuple #[EV2 r,.bool true]):=by
 by_cases h:x.2=0
 ·exact pE TO52 func213 [.inl [x.1,x.2]] (.inr [.inl [r.1,r.2],.inr (.inl true)]) (let t0:=RO x.1;(.inr [.inl [t0.1,t0.2],.inr (.inl true)],[(decide (x.2=0),true)])) [some true] kr (ao (decide_eq_true h) aD) (by rw[<-uy hr hl h]<;>exact rfl)
 ·by_cases hc:LG2 (RB x (SQ (nm2 x)))=true
  ·exact pE TO52 func213 [.inl [x.1,x.2]] (.inr [.inl [r.1,r.2],.inr (.inl true)]) (let t0:=RB x (SQ (nm2 x));let t1:=ng2 (t0.1,t0.2);(.inr [.inl [t1.1,t1.2],.inr (.inl true)],[(decide (x.2=0),false),(decide (SQr (nm2 x)*SQr (nm2 x)=(nm2 x)),true),(LG2 (t0.1,t0.2),true)])) [some false,some true,some true] kr (ao (decide_eq_false h) (ao (decide_eq_true (fM hr)) (ao ((Rp LG2 (RB x (SQ (nm2 x)))).trans hc) aD))) (by rw[<-Bb hr hl h,NL,if_pos hc,<-Rp ng2 (RB x (SQ (nm2 x)))]<;>exact rfl)
  ·exact pE TO52 func213 [.inl [x.1,x.2]] (.inr [.inl [r.1,r.2],.inr (.inl true)]) (let t0:=RB x (SQ (nm2 x));(.inr [.inl [t0.1,t0.2],.inr (.inl true)],[(decide (x.2=0),false),(decide (SQr (nm2 x)*SQr (nm2 x)=(nm2 x)),true),(LG2 (t0.1,t0.2),false)])) [some false,some true,some false] kr (ao (decide_eq_false h) (ao (decide_eq_true (fM hr)) (ao ((Rp LG2 (RB x (SQ (nm2 x)))).trans (Bool.eq_false_iff.2 hc)) aD))) (by rw[<-Bb hr hl h,NL,if_neg hc]<;>exact rfl)
theorem tP(x:W2)(hq: ¬IsQ (nm2 x)):PUR 213 [EV2 x] (.tuple #[EV2 ze2,.bool false]):=by
 exact pE TO52 func213 [.inl [x.1,x.2]] (.inr [.inl [ze2.1,ze2.2],.inr (.inl false)]) (.inr [.inl [0,0],.inr (.inl false)],[(decide (x.2=0),false),(decide (SQr (nm2 x)*SQr (nm2 x)=(nm2 x)),false)]) [some false,some false] kr (ao (decide_eq_false (Mk hq)) (ao (decide_eq_false hq) aD)) O
theorem S6{x:W2}(h:LG2 x=true):ng2 x=NL x:=by rw[NL,if_pos h]
theorem TX{x:W2}(h: ¬LG2 x=true):x=NL x:=by rw[NL,if_neg h]
theorem nf2{y x:W2}(h:y=x):(!decide ([y.1,y.2]=[x.1,x.2]))=false:=by rw[h,decide_eq_true O];rfl
theorem Bh(x r:W2)(hr:ml2 r r=x)(hl:LG2 r=false):PUR 104 [EV2 x] (.tuple #[EV2 r,.bool true]):=by
 by_cases h:x.2=0
 ·by_cases q:SQr x.1*SQr x.1=x.1
  ·have e:r=(SQ x.1,0):=(uy hr hl h).symm.trans (if_pos q)
   exact pE TO52 func104 [.inl [x.1,x.2]] (.inr [.inl [r.1,r.2],.inr (.inl true)]) (let t0:=ml2 (SQ x.1,0) (SQ x.1,0);(.inr [.inl [SQ x.1,0],.inr (.inl true)],[(decide (x.2=0),true),(decide (SQr x.1*SQr x.1=x.1),true),(!decide ([t0.1,t0.2]=[x.1,x.2]),false),(LG2 (SQ x.1,0),false)])) [some true,some true,some false,some false] kr (ao (decide_eq_true h) (ao (decide_eq_true q) (ao (nf2 (y:=ml2 (SQ x.1,0) (SQ x.1,0)) (x:=x) (e▸hr)) (ao (e▸hl) aD)))) (by rw[e]<;>exact rfl)
  ·have e:r=(0,SQ (-x.1)):=(uy hr hl h).symm.trans (if_neg q)
   exact pE TO52 func104 [.inl [x.1,x.2]] (.inr [.inl [r.1,r.2],.inr (.inl true)]) (let t0:=ml2 (0,SQ (-x.1)) (0,SQ (-x.1));(.inr [.inl [0,SQ (-x.1)],.inr (.inl true)],[(decide (x.2=0),true),(decide (SQr x.1*SQr x.1=x.1),false),(!decide ([t0.1,t0.2]=[x.1,x.2]),false),(LG2 (0,SQ (-x.1)),false)])) [some true,some false,none,some false,some false] kr (ao (decide_eq_true h) (ao (decide_eq_false q) (ao (nf2 (y:=ml2 (0,SQ (-x.1)) (0,SQ (-x.1))) (x:=x) (e▸hr)) (ao (e▸hl) aD)))) (by rw[e]<;>exact rfl)
 ·by_cases q:SQr ((x.1+(SQ (nm2 x)))*(zp 2^(PP-2)))*SQr ((x.1+(SQ (nm2 x)))*(zp 2^(PP-2)))=(x.1+(SQ (nm2 x)))*(zp 2^(PP-2))
  ·by_cases hc:LG2 (SQ ((x.1+(SQ (nm2 x)))*(zp 2^(PP-2))),x.2*(zp 2^(PP-2))*SQ ((x.1+(SQ (nm2 x)))*(zp 2^(PP-2)))^(PP-2))=true
   ·have e1:RF x (SQ (nm2 x)) (zp 2^(PP-2))=(SQ ((x.1+(SQ (nm2 x)))*(zp 2^(PP-2))),x.2*(zp 2^(PP-2))*SQ ((x.1+(SQ (nm2 x)))*(zp 2^(PP-2)))^(PP-2)):=if_pos q
    have e:NL (SQ ((x.1+(SQ (nm2 x)))*(zp 2^(PP-2))),x.2*(zp 2^(PP-2))*SQ ((x.1+(SQ (nm2 x)))*(zp 2^(PP-2)))^(PP-2))=r:=e1▸oy hr hl gU h;have e0:ml2 (SQ ((x.1+(SQ (nm2 x)))*(zp 2^(PP-2))),x.2*(zp 2^(PP-2))*SQ ((x.1+(SQ (nm2 x)))*(zp 2^(PP-2)))^(PP-2)) (SQ ((x.1+(SQ (nm2 x)))*(zp 2^(PP-2))),x.2*(zp 2^(PP-2))*SQ ((x.1+(SQ (nm2 x)))*(zp 2^(PP-2)))^(PP-2))=x:=e1▸vX (iT (fM hr)) gU h;exact pE TO52 func104 [.inl [x.1,x.2]] (.inr [.inl [r.1,r.2],.inr (.inl true)]) (let t0:=(zp 2)^(PP-2);let t1:=x.1+(SQ (nm2 x));let t2:=(SQ (t1*t0))^(PP-2);let t3:=(x.2*t0)*t2;let t4:=ml2 (SQ (t1*t0),t3) (SQ (t1*t0),t3);let t5:=ng2 (SQ (t1*t0),t3);(.inr [.inl [t5.1,t5.2],.inr (.inl true)],[(decide (x.2=0),false),(decide (SQr (nm2 x)*SQr (nm2 x)=(nm2 x)),true),(decide (SQr (t1*t0)*SQr (t1*t0)=(t1*t0)),true),(!decide ([t4.1,t4.2]=[x.1,x.2]),false),(LG2 (SQ (t1*t0),t3),true)])) [some false,some true,some true,some false,some true] kr (ao (decide_eq_false h) (ao (decide_eq_true (fM hr)) (ao (decide_eq_true q) (ao (nf2 (y:=ml2 (SQ ((x.1+(SQ (nm2 x)))*(zp 2^(PP-2))),x.2*(zp 2^(PP-2))*SQ ((x.1+(SQ (nm2 x)))*(zp 2^(PP-2)))^(PP-2)) (SQ ((x.1+(SQ (nm2 x)))*(zp 2^(PP-2))),x.2*(zp 2^(PP-2))*SQ ((x.1+(SQ (nm2 x)))*(zp 2^(PP-2)))^(PP-2))) (x:=x) e0) (ao (hc) aD))))) (by rw[<-e,<-S6 hc]<;>exact rfl)
   ·have e1:RF x (SQ (nm2 x)) (zp 2^(PP-2))=(SQ ((x.1+(SQ (nm2 x)))*(zp 2^(PP-2))),x.2*(zp 2^(PP-2))*SQ ((x.1+(SQ (nm2 x)))*(zp 2^(PP-2)))^(PP-2)):=if_pos q
    have e:NL (SQ ((x.1+(SQ (nm2 x)))*(zp 2^(PP-2))),x.2*(zp 2^(PP-2))*SQ ((x.1+(SQ (nm2 x)))*(zp 2^(PP-2)))^(PP-2))=r:=e1▸oy hr hl gU h;have e0:ml2 (SQ ((x.1+(SQ (nm2 x)))*(zp 2^(PP-2))),x.2*(zp 2^(PP-2))*SQ ((x.1+(SQ (nm2 x)))*(zp 2^(PP-2)))^(PP-2)) (SQ ((x.1+(SQ (nm2 x)))*(zp 2^(PP-2))),x.2*(zp 2^(PP-2))*SQ ((x.1+(SQ (nm2 x)))*(zp 2^(PP-2)))^(PP-2))=x:=e1▸vX (iT (fM hr)) gU h;exact pE TO52 func104 [.inl [x.1,x.2]] (.inr [.inl [r.1,r.2],.inr (.inl true)]) (let t0:=(zp 2)^(PP-2);let t1:=x.1+(SQ (nm2 x));let t2:=(SQ (t1*t0))^(PP-2);let t3:=(x.2*t0)*t2;let t4:=ml2 (SQ (t1*t0),t3) (SQ (t1*t0),t3);(.inr [.inl [SQ (t1*t0),t3],.inr (.inl true)],[(decide (x.2=0),false),(decide (SQr (nm2 x)*SQr (nm2 x)=(nm2 x)),true),(decide (SQr (t1*t0)*SQr (t1*t0)=(t1*t0)),true),(!decide ([t4.1,t4.2]=[x.1,x.2]),false),(LG2 (SQ (t1*t0),t3),false)])) [some false,some true,some true,some false,some false] kr (ao (decide_eq_false h) (ao (decide_eq_true (fM hr)) (ao (decide_eq_true q) (ao (nf2 (y:=ml2 (SQ ((x.1+(SQ (nm2 x)))*(zp 2^(PP-2))),x.2*(zp 2^(PP-2))*SQ ((x.1+(SQ (nm2 x)))*(zp 2^(PP-2)))^(PP-2)) (SQ ((x.1+(SQ (nm2 x)))*(zp 2^(PP-2))),x.2*(zp 2^(PP-2))*SQ ((x.1+(SQ (nm2 x)))*(zp 2^(PP-2)))^(PP-2))) (x:=x) e0) (ao (Bool.eq_false_iff.2 hc) aD))))) (by rw[<-e,<-TX hc]<;>exact rfl)
  ·by_cases hc:LG2 (SQ ((x.1-(SQ (nm2 x)))*(zp 2^(PP-2))),x.2*(zp 2^(PP-2))*SQ ((x.1-(SQ (nm2 x)))*(zp 2^(PP-2)))^(PP-2))=true
   ·have e1:RF x (SQ (nm2 x)) (zp 2^(PP-2))=(SQ ((x.1-(SQ (nm2 x)))*(zp 2^(PP-2))),x.2*(zp 2^(PP-2))*SQ ((x.1-(SQ (nm2 x)))*(zp 2^(PP-2)))^(PP-2)):=if_neg q
    have e:NL (SQ ((x.1-(SQ (nm2 x)))*(zp 2^(PP-2))),x.2*(zp 2^(PP-2))*SQ ((x.1-(SQ (nm2 x)))*(zp 2^(PP-2)))^(PP-2))=r:=e1▸oy hr hl gU h;have e0:ml2 (SQ ((x.1-(SQ (nm2 x)))*(zp 2^(PP-2))),x.2*(zp 2^(PP-2))*SQ ((x.1-(SQ (nm2 x)))*(zp 2^(PP-2)))^(PP-2)) (SQ ((x.1-(SQ (nm2 x)))*(zp 2^(PP-2))),x.2*(zp 2^(PP-2))*SQ ((x.1-(SQ (nm2 x)))*(zp 2^(PP-2)))^(PP-2))=x:=e1▸vX (iT (fM hr)) gU h;exact pE TO52 func104 [.inl [x.1,x.2]] (.inr [.inl [r.1,r.2],.inr (.inl true)]) (let t0:=(zp 2)^(PP-2);let t1:=x.1+(SQ (nm2 x));let t2:=x.1-(SQ (nm2 x));let t3:=(SQ (t2*t0))^(PP-2);let t4:=(x.2*t0)*t3;let t5:=ml2 (SQ (t2*t0),t4) (SQ (t2*t0),t4);let t6:=ng2 (SQ (t2*t0),t4);(.inr [.inl [t6.1,t6.2],.inr (.inl true)],[(decide (x.2=0),false),(decide (SQr (nm2 x)*SQr (nm2 x)=(nm2 x)),true),(decide (SQr (t1*t0)*SQr (t1*t0)=(t1*t0)),false),(!decide ([t5.1,t5.2]=[x.1,x.2]),false),(LG2 (SQ (t2*t0),t4),true)])) [some false,some true,some false,none,some false,some true] kr (ao (decide_eq_false h) (ao (decide_eq_true (fM hr)) (ao (decide_eq_false q) (ao (nf2 (y:=ml2 (SQ ((x.1-(SQ (nm2 x)))*(zp 2^(PP-2))),x.2*(zp 2^(PP-2))*SQ ((x.1-(SQ (nm2 x)))*(zp 2^(PP-2)))^(PP-2)) (SQ ((x.1-(SQ (nm2 x)))*(zp 2^(PP-2))),x.2*(zp 2^(PP-2))*SQ ((x.1-(SQ (nm2 x)))*(zp 2^(PP-2)))^(PP-2))) (x:=x) e0) (ao (hc) aD))))) (by rw[<-e,<-S6 hc]<;>exact rfl)
   ·have e1:RF x (SQ (nm2 x)) (zp 2^(PP-2))=(SQ ((x.1-(SQ (nm2 x)))*(zp 2^(PP-2))),x.2*(zp 2^(PP-2))*SQ ((x.1-(SQ (nm2 x)))*(zp 2^(PP-2)))^(PP-2)):=if_neg q
    have e:NL (SQ ((x.1-(SQ (nm2 x)))*(zp 2^(PP-2))),x.2*(zp 2^(PP-2))*SQ ((x.1-(SQ (nm2 x)))*(zp 2^(PP-2)))^(PP-2))=r:=e1▸oy hr hl gU h;have e0:ml2 (SQ ((x.1-(SQ (nm2 x)))*(zp 2^(PP-2))),x.2*(zp 2^(PP-2))*SQ ((x.1-(SQ (nm2 x)))*(zp 2^(PP-2)))^(PP-2)) (SQ ((x.1-(SQ (nm2 x)))*(zp 2^(PP-2))),x.2*(zp 2^(PP-2))*SQ ((x.1-(SQ (nm2 x)))*(zp 2^(PP-2)))^(PP-2))=x:=e1▸vX (iT (fM hr)) gU h;exact pE TO52 func104 [.inl [x.1,x.2]] (.inr [.inl [r.1,r.2],.inr (.inl true)]) (let t0:=(zp 2)^(PP-2);let t1:=x.1+(SQ (nm2 x));let t2:=x.1-(SQ (nm2 x));let t3:=(SQ (t2*t0))^(PP-2);let t4:=(x.2*t0)*t3;let t5:=ml2 (SQ (t2*t0),t4) (SQ (t2*t0),t4);(.inr [.inl [SQ (t2*t0),t4],.inr (.inl true)],[(decide (x.2=0),false),(decide (SQr (nm2 x)*SQr (nm2 x)=(nm2 x)),true),(decide (SQr (t1*t0)*SQr (t1*t0)=(t1*t0)),false),(!decide ([t5.1,t5.2]=[x.1,x.2]),false),(LG2 (SQ (t2*t0),t4),false)])) [some false,some true,some false,none,some false,some false] kr (ao (decide_eq_false h) (ao (decide_eq_true (fM hr)) (ao (decide_eq_false q) (ao (nf2 (y:=ml2 (SQ ((x.1-(SQ (nm2 x)))*(zp 2^(PP-2))),x.2*(zp 2^(PP-2))*SQ ((x.1-(SQ (nm2 x)))*(zp 2^(PP-2)))^(PP-2)) (SQ ((x.1-(SQ (nm2 x)))*(zp 2^(PP-2))),x.2*(zp 2^(PP-2))*SQ ((x.1-(SQ (nm2 x)))*(zp 2^(PP-2)))^(PP-2))) (x:=x) e0) (ao (Bool.eq_false_iff.2 hc) aD))))) (by rw[<-e,<-TX hc]<;>exact rfl)
theorem Jf(x:W2)(hq: ¬IsQ (nm2 x)):PUR 104 [EV2 x] (.tuple #[EV2 ze2,.bool false]):=by
 exact pE TO52 func104 [.inl [x.1,x.2]] (.inr [.inl [ze2.1,ze2.2],.inr (.inl false)]) (.inr [.inl [0,0],.inr (.inl false)],[(decide (x.2=0),false),(decide (SQr (nm2 x)*SQr (nm2 x)=(nm2 x)),false)]) [some false,some false] kr (ao (decide_eq_false (Mk hq)) (ao (decide_eq_false hq) aD)) O
end
def XI:W2:=(1,1)
abbrev W6:=W2×W2×W2
def K6:Rg W6:=Rg.cub R2 XI
def VV:W6:=(ze2,on2,ze2)
abbrev W12:=W6×W6
def K12:Rg W12:=Rg.quad K6 VV
theorem zO(a:Nat): ∀n:Nat,zp a^n=zp (a^n)
 |0=>p0 _
 |n+1=>by rw[ps,zO a n,Nat.pow_succ,i5]
theorem Ev(a n f:Nat)(h:n<2^f):zp a^n=zp (pm a PP f n):=by rw[zv _ _ _ _ h,ui,zO]
theorem Lo{k n:Nat}(hk:R6=2^k)(h:n<PP):n<2^k:=hk▸Nat.lt_trans h vd
def sx:Nat:=(PP-1) / 6
theorem sx_val:6*sx+1=PP:=by decide+kernel
theorem Kg{n:Nat}(h:zp n=1)(hn:n<PP):n=1:=by
 have:=congrArg Fin.val h;rw[fy,Nat.mod_eq_of_lt hn,show (1:Zp).val=1 % PP from O,Nat.mod_eq_of_lt pr_p.1]at this;exact this
theorem LV:pm 2 PP (64*6) hf≠1/\pm 2 PP (64*6) hf<PP:=by decide+kernel
theorem QM:zp 2^hf≠1:=λh=>by
 rw[Ev 2 hf (64*6) (Lo eB (by have:=lP;have:=nj;omega))]at h
 exact LV.1 (Kg h LV.2)
theorem Wo:nm2 XI=zp 2:=by
 simp only[nm2,XI];rw[oe];exact E5.2.symm
/-! ### The power of p -/
theorem KF:K12.nat PP=K12.zero:=by
 have e2:R2.nat PP=R2.zero:=(yJ PP).trans (by rw[mI];rfl)
 have e6:K6.nat PP=K6.zero:=(Iq (R:=R2) (z:=XI) PP).trans (by rw[e2];rfl)
 exact (FK (R:=K6) (z:=VV) PP).trans (by rw[e6];rfl)
theorem kC(x y:W12):K12.pw (K12.add x y) PP=K12.add (K12.pw x PP) (K12.pw y PP):=K12.frob pr_p KF x y
def em(c:W2):W12:=((c,ze2,ze2),(ze2,ze2,ze2))
def wk(k:Nat):W12:=K12.pw ((ze2,ze2,ze2),(on2,ze2,ze2)) k
theorem CZ(a b:W2):K12.mul (em a) (em b)=em (ml2 a b):=Prod.ext (Prod.ext (zx R2 [a,b,XI] 0x4456758451151145145115845115115845244511511511514451151158511 0x567) (Prod.ext (zx R2 [a,b,XI] 0x4445615175851144514451151158511524511584511511585144511511511 0x1) (zx R2 [a,b,XI] 0x444561511517445144511511511524451151158511514511584511511 0x1))) (Prod.ext (zx R2 [a,b,XI] 0x445615845115114517584511511 0x1) (Prod.ext (zx R2 [a,b,XI] 0x444561511585114451151758511 0x1) (zx R2 [a,b,XI] 0x44456151151144511511517 0x1)))
theorem AW(c:W2): ∀n,K12.pw (em c) n=em (pw2 c n)
 |0=>rfl
 |n+1=>by
  rw[Rg.pw,AW c n,CZ,nR]
theorem wk0:wk 0=((on2,ze2,ze2),(ze2,ze2,ze2)):=by decide+kernel
theorem wk1:wk 1=((ze2,ze2,ze2),(on2,ze2,ze2)):=by decide+kernel
theorem wk2:wk 2=((ze2,on2,ze2),(ze2,ze2,ze2)):=by decide+kernel
theorem wk3:wk 3=((ze2,ze2,ze2),(ze2,on2,ze2)):=by decide+kernel
theorem wk4:wk 4=((ze2,ze2,on2),(ze2,ze2,ze2)):=by decide+kernel
theorem wk5:wk 5=((ze2,ze2,ze2),(ze2,ze2,on2)):=by decide+kernel
theorem wk6:wk 6=em XI:=by decide+kernel
theorem se(c0 c1 c2 c3 c4 c5:W2):K12.add (K12.add (K12.add (K12.add (K12.add (K12.mul (em c0) (wk 0)) (K12.mul (em c1) (wk 1))) (K12.mul (em c2) (wk 2))) (K12.mul (em c3) (wk 3))) (K12.mul (em c4) (wk 4))) (K12.mul (em c5) (wk 5))=((c0,c2,c4),(c1,c3,c5)):=by
 rw[wk0,wk1,wk2,wk3,wk4,wk5];exact Prod.ext (Prod.ext (zx R2 [c0,c1,c2,c3,c4,c5,XI] 0x44444445625c451151145145115c45115115c4524451151151151445115115c511445715c451151145145125c45115115c4524451151151251445115125c511445815c451151245145115c45115115c4524451151151151445115115c511445915c451151145145115c45115125c4524451151251151445125115c511445a15c451251145145115c45115115c4524451151151151445115115c511445b15c451151145145115c45125115c4524451251151151445115115c512 0x6) (Prod.ext (zx R2 [c0,c1,c2,c3,c4,c5,XI] 0x444444445615125c5114451445115115c5115245115c45115115c51445115115114445715115c5114451445115125c5115245125c45115115c51445115115124445825115c5114451445115115c5115245115c45115115c51445115115114445915115c5114451445125115c5115245115c45115125c51445115125114445a15115c5124451445115115c5115245115c45115115c51445115115114445b15115c5114451445115115c5125245115c45125115c5144512511511 0x8) (zx R2 [c0,c1,c2,c3,c4,c5,XI] 0x4444444456151151244514451151151152445115115c5115145115c451151144457151151144514451151151252445115125c5115145125c451151144458151251144514451151151152445115115c5115145115c451151144459151151144514451151251152445125115c5115145115c45115124445a251151144514451151151152445115115c5115145115c45115114445b151151144514451251151152445115115c5125145115c4512511 0xa))) (Prod.ext (zx R2 [c0,c1,c2,c3,c4,c5,XI] 0x44444445615c451151145125c4511511445725c451151145115c4511511445815c451151145115c4511512445915c451151245115c4511511445a15c451151145115c4512511445b15c451251145115c4511511 0x7) (Prod.ext (zx R2 [c0,c1,c2,c3,c4,c5,XI] 0x444444445615115c511445115125c5114445715125c511445115115c5114445815115c511445125115c5114445925115c511445115115c5114445a15115c511445115115c5124445b15115c512445115115c511 0x9) (zx R2 [c0,c1,c2,c3,c4,c5,XI] 0x44444444561511511445115115124445715115124451151151144458151151144511512511444591512511445115115114445a1511511445125115114445b251151144511511511 0xb)))
def GA:W2:=pw2 XI sx
theorem Tj:K12.pw (wk 1) PP=K12.mul (em GA) (wk 1):=by
 have e:K12.pw (wk 1) PP=K12.pw (wk 1) (6*sx+1):=congrArg (λn=>K12.pw (wk 1) n) sx_val.symm;have e1:wk 1=((ze2,ze2,ze2),(on2,ze2,ze2)):=wk1;have e6:K12.pw (wk 1) 6=em XI:=by rw[e1];exact wk6
 rw[e,K12.pw_add,K12.pw_mul,e6,AW,K12.pw_one];rfl
theorem WV(k:Nat):K12.pw (wk k) PP=K12.mul (em (pw2 GA k)) (wk k):=by
 have e1:wk 1=((ze2,ze2,ze2),(on2,ze2,ze2)):=wk1;have e:wk k=K12.pw (wk 1) k:=by rw[e1];rfl
 rw[e,<-K12.pw_mul,Nat.mul_comm,K12.pw_mul,Tj,K12.mul_pw,AW]
theorem li(c:W2)(k:Nat):K12.pw (K12.mul (em c) (wk k)) PP=K12.mul (em (ml2 (cj2 c) (pw2 GA k))) (wk k):=by
 rw[K12.mul_pw,AW,NU,WV,<-K12.mul_assoc,CZ]
def d8(x:W12):W12:=((ml2 (cj2 x.1.1) (pw2 GA 0),ml2 (cj2 x.1.2.1) (pw2 GA 2),ml2 (cj2 x.1.2.2) (pw2 GA 4)),(ml2 (cj2 x.2.1) (pw2 GA 1),ml2 (cj2 x.2.2.1) (pw2 GA 3),ml2 (cj2 x.2.2.2) (pw2 GA 5)))
theorem uF(x:W12):K12.pw x PP=d8 x:=by
 have h:=se x.1.1 x.2.1 x.1.2.1 x.2.2.1 x.1.2.2 x.2.2.2;have e:K12.pw x PP=K12.pw ((x.1.1,x.1.2.1,x.1.2.2),(x.2.1,x.2.2.1,x.2.2.2)) PP:=rfl;rw[e,<-h,kC,kC,kC,kC,kC,li,li,li,li,li,li,se];rfl
/-! ### Six parts, as the reference multiplies them -/
def tq(f:Nat->W2):W12:=((f 0,f 2,f 4),(f 1,f 3,f 5))
theorem txi{ρ:Nat->W2}{p:Po}{a:W2}(k:Nat)(ha:R2.d ρ p=a)(hk:ρ k=XI):R2.d ρ (kk p (pv k))=xi2 a:=by rw[R2.d_mul,ha,R2.d_var,hk];exact (C7 a).symm
theorem tsb{ρ:Nat->W2}{p q:Po}{a b:W2}(ha:R2.d ρ p=a)(hb:R2.d ρ q=b):R2.d ρ (ik p (lx q))=sb2 a b:=by rw[R2.d_add,R2.d_neg,ha,hb,m6];rfl
section
variable {α:Type} [DecidableEq α] (C:Ec α)
def Ec.jm(J:α×α×α):List Bool->α×α×α->α×α×α
 |[],A=>A
 |b::r,A=>Ec.jm J r (if b then C.jaF (C.jdF A) J else C.jdF A)
def kq:List Bool->Nat->Nat
 |[],n=>n
 |b::r,n=>kq r (2*n+(if b then 1 else 0))
theorem Ec.jr_m{J:α×α×α}{P:Pt α}(hP:C.onP P)(h:C.jr J P): ∀(l:List Bool) (A:α×α×α) (n:Nat),C.jr A (C.times P n)->C.jr (C.jm J l A) (C.times P (kq l n))
 |[],_,_,hA=>hA
 |b::r,A,n,hA=>by
  have hd:=C.jr_d (C.times_on hP n) hA;rw[<-C.times_add hP,<-Nat.two_mul]at hd
  cases b with
  |false=>exact Ec.jr_m hP h r _ _ hd
  |true=>
   have ha:=C.jr_a (C.times_on hP (2*n)) hP hd h;exact Ec.jr_m hP h r _ (2*n+1) ha
end
/-! ### Over p -/
def RZp:Rg Zp where
 zero:=0
 one:=1
 add:=λa b=>a+b
 mul:=λa b=>a*b
 neg:=λa=> -a
 add_assoc:=λa b c=>by grind
 add_comm:=λa b=>by grind
 add_zero:=λa=>by grind
 add_neg:=λa=>by grind
 mul_assoc:=λa b c=>by grind
 mul_comm:=λa b=>by grind
 mul_one:=λa=>by grind
 mul_add:=λa b c=>by grind
def E1:Ec Zp where
 R:=RZp
 iv:=λa=>a^(PP-2)
 b:=zp 4
 hi:=λ_ h=>nf h
 h2:=by decide+kernel
 h3:=by decide+kernel
 hb:=by decide+kernel
def E1w:Ec W2 where
 R:=R2
 iv:=iv2
 b:=(zp 4,0)
 hi:=λ_ h=>dD h
 h2:=by decide+kernel
 h3:=by decide+kernel
 hb:=by decide+kernel
def E2w:Ec W2 where
 R:=R2
 iv:=iv2
 b:=(zp 4,zp 4)
 hi:=λ_ h=>dD h
 h2:=by decide+kernel
 h3:=by decide+kernel
 hb:=by decide+kernel
def G1x:Nat:=0x17f1d3a73197d7942695638c4fa9ac0fc3688c4f9774b905a14e3a3f171bac586c55e83ff97a1aeffb3af00adb22c6bb
def G1y:Nat:=0x8b3f481e3aaa0f1a09e30ed741d8ae4fcf5e095d5d00af600db18cb2c04b3edd03cc744a2888ae40caa232946c5e7e1
def G1p:Zp×Zp:=(zp G1x,zp G1y)
theorem o7:E1.on G1p:=by
 unfold Ec.on;decide+kernel
def ORD:Nat:=0x73eda753299d7d483339d80809a1d80553bda402fffe5bfeffffffff00000001
def dI:Nat->Nat->List Bool->List Bool
 |0,_,l=>l
 |f+1,n,l=>dI f (n / 2) ((n % 2==1)::l)
theorem Ip:kq (dI 255 ORD []) 0=ORD:=by decide+kernel
theorem g1_z:(E1.jm (zp G1x,zp G1y,1) (dI 255 ORD []) (0,0,0)).2.2=0:=by decide+kernel
theorem vY:E1.jr (zp G1x,zp G1y,1) (some G1p):=⟨jI,by decide+kernel,by decide+kernel⟩
theorem JI{α:Type}(C:Ec α){J:α×α×α}{P:Pt α}(h:C.jr J P)(hz:J.2.2=C.R.zero):P=none:=by
 cases P with
 |none=>rfl
 |some p=>exact absurd hz h.1
theorem IL{α:Type} [DecidableEq α](C:Ec α){J:α×α×α}{P:Pt α}(hP:C.onP P)(h:C.jr J P)(l:List Bool){n:Nat}(hn:kq l 0=n)(hz:(C.jm J l (C.R.zero,C.R.zero,C.R.zero)).2.2=C.R.zero):C.times P n=none:=by
 have k:=C.jr_m hP h l (C.R.zero,C.R.zero,C.R.zero) 0 (show C.R.zero=C.R.zero from O);rw[hn]at k;exact JI C k hz
theorem EI:E1.times (some G1p) ORD=none:=IL E1 (P:=some G1p) o7 vY (dI 255 ORD []) Ip g1_z
structure Em{α β:Type}(C:Ec α)(D:Ec β) where
 f:α->β
 h0:f C.R.zero=D.R.zero
 ha: ∀a b,f (C.R.add a b)=D.R.add (f a) (f b)
 hm: ∀a b,f (C.R.mul a b)=D.R.mul (f a) (f b)
 hn: ∀a,f (C.R.neg a)=D.R.neg (f a)
 hi: ∀a b,f a=f b->a=b
 hb:f C.b=D.b
section
variable {α β:Type} {C:Ec α} {D:Ec β} (e:Em C D)
def Em.q(p:α×α):β×β:=(e.f p.1,e.f p.2)
def Em.p:Pt α->Pt β
 |none=>none
 |some p=>some (e.q p)
theorem Em.sub(a b:α):e.f (C.sub a b)=D.sub (e.f a) (e.f b):=by rw[Ec.sub,Ec.sub,e.ha,e.hn]
theorem Em.on{p:α×α}(h:C.on p):D.on (e.q p):=by
 have:=congrArg e.f h;rw[e.hm,e.ha,e.hm,e.hm,e.hb]at this;exact this
theorem Em.onP{P:Pt α}(h:C.onP P):D.onP (e.p P):=by
 cases P with
 |none=>trivial
 |some p=>exact e.on h
theorem Em.sl{p q:α×α}{s:α}(h:C.Sl p q s):D.Sl (e.q p) (e.q q) (e.f s):=by
 have h1:=congrArg e.f h.1;have h2:=congrArg e.f h.2;rw[e.hm,e.sub,e.sub]at h1;rw[e.hm,e.ha,e.ha,e.ha,e.hm,e.hm,e.hm]at h2;exact ⟨h1,h2⟩
theorem Em.opp{p q:α×α}:D.opp (e.q p) (e.q q)↔C.opp p q:=
 ⟨λh=>⟨e.hi _ _ h.1,e.hi _ _ (by rw[e.ha,e.h0];exact h.2)⟩,λh=>⟨congrArg e.f h.1,by
  have:=congrArg e.f h.2;rw[e.ha,e.h0]at this;exact this⟩⟩
theorem Em.th(p q:α×α)(s:α):D.th (e.q p) (e.q q) (e.f s)=e.q (C.th p q s):=by
 have hx:D.x3 (e.q p) (e.q q) (e.f s)=e.f (C.x3 p q s):=by rw[Ec.x3,Ec.x3,e.sub,e.sub,e.hm];rfl
 refine Prod.ext hx ?_;show D.sub (D.R.mul (e.f s) (D.sub (e.f p.1) (D.x3 (e.q p) (e.q q) (e.f s)))) (e.f p.2)=e.f (C.sub (C.R.mul s (C.sub p.1 (C.x3 p q s))) p.2);rw[hx,e.sub,e.hm,e.sub]
end
section
variable {α β:Type} [DecidableEq α] [DecidableEq β] {C:Ec α} {D:Ec β} (e:Em C D)
theorem Em.ad{P Q:Pt α}(hP:C.onP P)(hQ:C.onP Q):e.p (C.ad P Q)=D.ad (e.p P) (e.p Q):=by
 cases P with
 |none=>rfl
 |some p=>
  cases Q with
  |none=>rw[C.ad_nr];exact (D.ad_nr _).symm
  |some q=>
   by_cases ho:C.opp p q
   ·rw[C.ad_opp ho];exact (D.ad_opp (e.opp.2 ho)).symm
   ·obtain ⟨s,hs⟩:=C.sl_is hP hQ ho
    rw[C.ad_sl hP hQ ho hs];exact ((D.ad_sl (e.on hP) (e.on hQ) (λh=>ho (e.opp.1 h)) (e.sl hs)).trans (congrArg some (e.th p q s))).symm
theorem Em.times{P:Pt α}(hP:C.onP P): ∀n,e.p (C.times P n)=D.times (e.p P) n
 |0=>rfl
 |n+1=>by
  show e.p (C.ad (C.times P n) P)=D.ad (D.times (e.p P) n) (e.p P);rw[e.ad (C.times_on hP n) hP,Em.times hP n]
end
theorem UD(a:Zp):a-0=a:=by grind
theorem GW(a:Zp):a+0=a:=by grind
theorem z_n0': -(0:Zp)=0:=mQ.2 O
theorem zz(a b:Zp):ml2 (a,0) (b,0)=(a*b,0):=Prod.ext (by simp only[ml2];rw[jX,UD]) (by simp only[ml2];rw[jX,rc,GW])
def em1:Em E1 E1w where
 f:=λa=>(a,0)
 h0:=rfl
 ha:=λ_ _=>Prod.ext O (GW 0).symm
 hm:=λa b=>(zz a b).symm
 hn:=λ_=>Prod.ext O z_n0'.symm
 hi:=λ_ _ h=>congrArg Prod.fst h
 hb:=rfl
section
variable {α:Type} (C:Ec α)
theorem Ec.jr_z{J:α×α×α}{P:Pt α}(h:C.jr J P):J.2.2=C.R.zero↔P=none:=by
 cases P with
 |none=>exact ⟨λ_=>rfl,λ_=>h⟩
 |some p=>exact ⟨λe=>absurd e h.1,λe=>by cases e⟩
theorem Ec.sc2(a z c:α):C.R.mul (C.R.mul a (C.z2 z)) (C.z2 c)=C.R.mul a (C.z2 (C.R.mul z c)):=zx C.R [a,z,c] 0x556577588 0x565578578
theorem Ec.sc3(a z c:α):C.R.mul (C.R.mul a (C.z3 z)) (C.z3 c)=C.R.mul a (C.z3 (C.R.mul z c)):=zx C.R [a,z,c] 0x5565577755888 0x5655578578578
theorem Ec.jr_at(p:α×α)(h1:C.R.one≠C.R.zero):C.jr (p.1,p.2,C.R.one) (some p):=by
 refine ⟨h1, ?_, ?_⟩
 ·show p.1=C.R.mul p.1 (C.R.mul C.R.one C.R.one)
  rw[C.R.mul_one,C.R.mul_one]
 ·show p.2=C.R.mul p.2 (C.R.mul (C.R.mul C.R.one C.R.one) C.R.one)
  rw[C.R.mul_one,C.R.mul_one,C.R.mul_one]
theorem Ec.jr_xy{J:α×α×α}{p:α×α}(h:C.jr J (some p)):C.R.mul J.1 (C.z2 (C.iv J.2.2))=p.1/\C.R.mul J.2.1 (C.z3 (C.iv J.2.2))=p.2:=by
 have e:=C.hi _ h.1;refine ⟨?_, ?_⟩
 ·rw[h.2.1,C.sc2,e,Ec.z2,C.R.mul_one,C.R.mul_one]
 ·rw[h.2.2,C.sc3,e,Ec.z3,C.R.mul_one,C.R.mul_one,C.R.mul_one]
end
section
variable {α:Type} [DecidableEq α] (C:Ec α)
theorem Ec.dbl_times{P:Pt α}(hP:C.onP P)(n:Nat):C.ad (C.times P n) (C.times P n)=C.times P (2*n):=by rw[<-C.times_add hP,Nat.two_mul]
end
def RJ:Pt Zp->W6
 |none=>(ze2,ze2,ze2)
 |some p=>((p.1,0),(p.2,0),on2)
theorem S3(P:Pt Zp):E1w.jr (RJ P) (em1.p P):=by
 cases P with
 |none=>rfl
 |some p=> 
  refine ⟨λh=>absurd (congrArg Prod.fst h) jI, ?_, ?_⟩
  ·show ((p.1,0):W2)=R2.mul (p.1,0) (R2.mul R2.one R2.one)
   rw[R2.mul_one,R2.mul_one]
  ·show ((p.2,0):W2)=R2.mul (p.2,0) (R2.mul (R2.mul R2.one R2.one) R2.one)
   rw[R2.mul_one,R2.mul_one,R2.mul_one]
section
open Go.RowKit
attribute [local simp] a6 bv aH aA aQ aY aR aK aM PLl cJ cH N1l cI cL cK bf bB a7 bu
theorem ent22:ai prog 22:=λ_ _=>kr
theorem ent106:ai prog 106:=λ_ _=>kr
theorem ent52:ai prog 52:=λ_ _=>kr
theorem ent40:ai prog 40:=λ_ _=>kr
theorem ent18:ai prog 18:=λ_ _=>kr
theorem ent157:ai prog 157:=λ_ _=>kr
abbrev EV6(x:W6):Value:=aJ ((fe (x.1).1++fe (x.1).2)++((fe (x.2.1).1++fe (x.2.1).2)++(fe (x.2.2).1++fe (x.2.2).2)))
theorem zv43(w:World):(zeroValue 43).run prog w=.ok (aJ ((fe 0++fe 0)++((fe 0++fe 0)++(fe 0++fe 0)))) w:=by rw[i2];exact (zeroValue43 w).trans rr
theorem Ju:Three prog 43 ⟨ "X",41,0,false, "", "",0⟩ ⟨ "Y",41,12,false, "", "",96⟩ ⟨ "Z",41,24,false, "", "",192⟩ 12 (fe 0++fe 0) (fe 0++fe 0) (fe 0++fe 0):=⟨underlying43,rfl,rfl,rfl,sizeOf41,sizeOf41,sizeOf41,zv43,sm,sm,sm⟩
def q6:Sh W6:=q2.two (q2.two q2 2) 2
theorem V6(x:W6):EV6 x=dn rid (.inl [x.1.1,x.1.2,x.2.1.1,x.2.1.2,x.2.2.1,x.2.2.2]):=by
 show Value.agg _=Value.agg _;rw[clv,show cel [x.1.1,x.1.2,x.2.1.1,x.2.1.2,x.2.2.1,x.2.2.2]=fe x.1.1++(fe x.1.2++(fe x.2.1.1++(fe x.2.1.2++(fe x.2.2.1++fe x.2.2.2))))from O];rw[List.append_assoc,List.append_assoc]
theorem bT{f:Nat}{a a':List Value}{v v':Value}(ha:a=a')(hv:v=v')(h:PUR f a' v'):PUR f a v:=by rw[ha,hv];exact h
theorem l1{a b:Value}(h:a=b):[a]=[b]:=by rw[h]
theorem l2{a b c d:Value}(h:a=b)(k:c=d):[a,c]=[b,d]:=by rw[h,k]
theorem Pi(x y:W2):PUR 90 [EV2 x,EV2 y] (EV2 (E1w.sub x y)):=by
 have h:=Nn x y;rw[m6]at h;exact h
def sm2(a b:BitVec 64):W2:=(zp a.toNat,zp b.toNat)
def TO53:Tb prog Gt:=TO52.add (cT (g:=E1w.sub) ent90 Pi)
theorem zB(a b:BitVec 64):PUR 157 [U64 a,U64 b] (EV2 (sm2 a b)):=by
 intro w hw;refine Hf func157 O hw<|λhGF=>Xp<|Al 4 hGF zv41<|λb4=>aa<|Xp<|Mv O<|Ca O (iq _)<|Mv O<|Ca O (iq _)<|co rU O O sm sm O O<|Sa 4 hGF O O O bH<|aa<|ak<|Rr<|?_;exact au 4 O O O isAgg41 sizeOf41 sm (λw hw=>⟨rfl,ab hw⟩)
theorem rj{f:Nat}{g:BitVec 64->BitVec 64->W2}(en:ai prog f)(h: ∀a b,PUR f [U64 a,U64 b] (EV2 (g a b))):Snd prog Gt f (c2 agU agU q2.rd g):=gv agU agU q2.rd en h
def TO54:Tb prog Gt:=TO53.add (rj (g:=sm2) ent157 zB)
theorem qX(x:W6):PUR 22 [EV6 x] (.bool (decide (x.2.2=ze2))):=(bT (l1 (V6 _)) O (pE TO54 func22 [.inl [x.1.1,x.1.2,x.2.1.1,x.2.1.2,x.2.2.1,x.2.2.2]] (.inl (.inr (.inl (decide (x.2.2=ze2))))) (.inl (.inr (.inl (decide ((x.2.2.1,x.2.2.2)=ze2)))),[]) [] kr aD O))
theorem rC{f:Nat}{g:W6->Bool}(en:ai prog f)(h: ∀a,PUR f [EV6 a] (.bool (g a))):Snd prog Gt f (c1 q6.ag rdB g):=gt q6.ag rdB en (λa=>bT (l1 (V6 _).symm) O (h a))
def TO55:Tb prog Gt:=TO54.add (rC (g:=λx=>decide (x.2.2=ze2)) ent22 qX)
theorem Ur(a b:W2):PUR 106 [EV2 a,EV2 b] (EV6 (a,b,on2)):=(bT O (V6 _) (pE TO55 func106 [.inl [a.1,a.2],.inl [b.1,b.2]] (.inl (.inl [(a,b,on2).1.1,(a,b,on2).1.2,(a,b,on2).2.1.1,(a,b,on2).2.1.2,(a,b,on2).2.2.1,(a,b,on2).2.2.2])) (let t0:=on2;(.inl (.inl [a.1,a.2,b.1,b.2,t0.1,t0.2]),[])) [] kr aD O))
theorem kg{f:Nat}{g:W2->W2->W6}(en:ai prog f)(h: ∀a b,PUR f [EV2 a,EV2 b] (EV6 (g a b))):Snd prog Gt f (c2 q2.ag q2.ag q6.rd g):=gv q2.ag q2.ag q6.rd en (λa b=>bT O (V6 _).symm (h a b))
def TO56:Tb prog Gt:=TO55.add (kg (g:=λa b=>(a,b,on2)) ent106 Ur)
theorem cN{f:Nat}{g:W6->W6}(en:ai prog f)(h: ∀a,PUR f [EV6 a] (EV6 (g a))):Snd prog Gt f (c1 q6.ag q6.rd g):=gt q6.ag q6.rd en (λa=>bT (l1 (V6 _).symm) (V6 _).symm (h a))
theorem wv(x:W6):PUR 52 [EV6 x] (EV6 (E1w.jdF x)):=by
 by_cases h:x.2.2=ze2
 ·exact (bT (l1 (V6 _)) (V6 _) (pE TO56 func52 [.inl [x.1.1,x.1.2,x.2.1.1,x.2.1.2,x.2.2.1,x.2.2.2]] (.inl (.inl [(E1w.jdF x).1.1,(E1w.jdF x).1.2,(E1w.jdF x).2.1.1,(E1w.jdF x).2.1.2,(E1w.jdF x).2.2.1,(E1w.jdF x).2.2.2])) (.inl (.inl [0,0,0,0,0,0]),[(decide (x.2.2=ze2),true)]) [some true] kr (ao (decide_eq_true h) aD) (by rw[show E1w.jdF x=(ze2,ze2,ze2)from if_pos (.inl h)]<;>exact rfl)))
 ·by_cases h2:x.2.1=ze2
  ·exact (bT (l1 (V6 _)) (V6 _) (pE TO56 func52 [.inl [x.1.1,x.1.2,x.2.1.1,x.2.1.2,x.2.2.1,x.2.2.2]] (.inl (.inl [(E1w.jdF x).1.1,(E1w.jdF x).1.2,(E1w.jdF x).2.1.1,(E1w.jdF x).2.1.2,(E1w.jdF x).2.2.1,(E1w.jdF x).2.2.2])) (.inl (.inl [0,0,0,0,0,0]),[(decide (x.2.2=ze2),false),(decide ((x.2.1.1,x.2.1.2)=ze2),true)]) [some false,some true] kr (ao (decide_eq_false h) (ao (decide_eq_true h2) aD)) (by rw[show E1w.jdF x=(ze2,ze2,ze2)from if_pos (.inr h2)]<;>exact rfl)))
  ·exact (bT (l1 (V6 _)) (V6 _) (pE TO56 func52 [.inl [x.1.1,x.1.2,x.2.1.1,x.2.1.2,x.2.2.1,x.2.2.2]] (.inl (.inl [(E1w.jdF x).1.1,(E1w.jdF x).1.2,(E1w.jdF x).2.1.1,(E1w.jdF x).2.1.2,(E1w.jdF x).2.2.1,(E1w.jdF x).2.2.2])) (let t0:=ml2 (x.1.1,x.1.2) (x.1.1,x.1.2);let t1:=ml2 (x.2.1.1,x.2.1.2) (x.2.1.1,x.2.1.2);let t2:=ml2 (x.1.1,x.1.2) (t1.1,t1.2);let t3:=ad2 (t2.1,t2.2) (t2.1,t2.2);let t4:=ad2 (t3.1,t3.2) (t3.1,t3.2);let t5:=ad2 (t0.1,t0.2) (t0.1,t0.2);let t6:=ad2 (t5.1,t5.2) (t0.1,t0.2);let t7:=ml2 (t6.1,t6.2) (t6.1,t6.2);let t8:=E1w.sub (t7.1,t7.2) (t4.1,t4.2);let t9:=E1w.sub (t8.1,t8.2) (t4.1,t4.2);let t10:=ml2 (t1.1,t1.2) (t1.1,t1.2);let t11:=ad2 (t10.1,t10.2) (t10.1,t10.2);let t12:=ad2 (t11.1,t11.2) (t11.1,t11.2);let t13:=ad2 (t12.1,t12.2) (t12.1,t12.2);let t14:=ml2 (x.2.1.1,x.2.1.2) (x.2.2.1,x.2.2.2);let t15:=E1w.sub (t4.1,t4.2) (t9.1,t9.2);let t16:=ml2 (t6.1,t6.2) (t15.1,t15.2);let t17:=E1w.sub (t16.1,t16.2) (t13.1,t13.2);let t18:=ad2 (t14.1,t14.2) (t14.1,t14.2);(.inl (.inl [t9.1,t9.2,t17.1,t17.2,t18.1,t18.2]),[(decide (x.2.2=ze2),false),(decide ((x.2.1.1,x.2.1.2)=ze2),false)])) [some false,some false] kr (ao (decide_eq_false h) (ao (decide_eq_false h2) aD)) (by rw[show E1w.jdF x=E1w.jd x.1 x.2.1 x.2.2 from if_neg (λe=>e.elim h h2)]<;>exact rfl)))
def TO58:Tb prog Gt:=TO56.add (cN (g:=E1w.jdF) ent52 wv)
theorem F7(x y:W6):PUR 40 [EV6 x,EV6 y] (EV6 (E1w.jaF x y)):=by
 by_cases h1:x.2.2=ze2
 ·exact (bT (l2 (V6 _) (V6 _)) (V6 _) (pE TO58 func40 [.inl [x.1.1,x.1.2,x.2.1.1,x.2.1.2,x.2.2.1,x.2.2.2],.inl [y.1.1,y.1.2,y.2.1.1,y.2.1.2,y.2.2.1,y.2.2.2]] (.inl (.inl [(E1w.jaF x y).1.1,(E1w.jaF x y).1.2,(E1w.jaF x y).2.1.1,(E1w.jaF x y).2.1.2,(E1w.jaF x y).2.2.1,(E1w.jaF x y).2.2.2])) (.inl (.inl [y.1.1,y.1.2,y.2.1.1,y.2.1.2,y.2.2.1,y.2.2.2]),[(decide (x.2.2=ze2),true)]) [some true] kr (ao (decide_eq_true h1) aD) (by rw[show E1w.jaF x y=y from if_pos h1]<;>exact rfl)))
 ·by_cases h2:y.2.2=ze2
  ·exact (bT (l2 (V6 _) (V6 _)) (V6 _) (pE TO58 func40 [.inl [x.1.1,x.1.2,x.2.1.1,x.2.1.2,x.2.2.1,x.2.2.2],.inl [y.1.1,y.1.2,y.2.1.1,y.2.1.2,y.2.2.1,y.2.2.2]] (.inl (.inl [(E1w.jaF x y).1.1,(E1w.jaF x y).1.2,(E1w.jaF x y).2.1.1,(E1w.jaF x y).2.1.2,(E1w.jaF x y).2.2.1,(E1w.jaF x y).2.2.2])) (.inl (.inl [x.1.1,x.1.2,x.2.1.1,x.2.1.2,x.2.2.1,x.2.2.2]),[(decide (x.2.2=ze2),false),(decide (y.2.2=ze2),true)]) [some false,some true] kr (ao (decide_eq_false h1) (ao (decide_eq_true h2) aD)) (by rw[show E1w.jaF x y=x from (if_neg h1).trans (if_pos h2)]<;>exact rfl)))
  ·by_cases h3:E1w.jh x.1 x.2.2 y.1 y.2.2=ze2
   ·by_cases h4:E1w.jq x.2.1 x.2.2 y.2.1 y.2.2=ze2
    ·exact (bT (l2 (V6 _) (V6 _)) (V6 _) (pE TO58 func40 [.inl [x.1.1,x.1.2,x.2.1.1,x.2.1.2,x.2.2.1,x.2.2.2],.inl [y.1.1,y.1.2,y.2.1.1,y.2.1.2,y.2.2.1,y.2.2.2]] (.inl (.inl [(E1w.jaF x y).1.1,(E1w.jaF x y).1.2,(E1w.jaF x y).2.1.1,(E1w.jaF x y).2.1.2,(E1w.jaF x y).2.2.1,(E1w.jaF x y).2.2.2])) (let t0:=ml2 (x.2.2.1,x.2.2.2) (x.2.2.1,x.2.2.2);let t1:=ml2 (y.2.2.1,y.2.2.2) (y.2.2.1,y.2.2.2);let t2:=ml2 (x.1.1,x.1.2) (t1.1,t1.2);let t3:=ml2 (y.1.1,y.1.2) (t0.1,t0.2);let t4:=ml2 (x.2.1.1,x.2.1.2) (t1.1,t1.2);let t5:=ml2 (t4.1,t4.2) (y.2.2.1,y.2.2.2);let t6:=ml2 (y.2.1.1,y.2.1.2) (t0.1,t0.2);let t7:=ml2 (t6.1,t6.2) (x.2.2.1,x.2.2.2);let t8:=E1w.sub (t3.1,t3.2) (t2.1,t2.2);let t9:=E1w.sub (t7.1,t7.2) (t5.1,t5.2);let t10:=E1w.jdF x;(.inl (.inl [t10.1.1,t10.1.2,t10.2.1.1,t10.2.1.2,t10.2.2.1,t10.2.2.2]),[(decide (x.2.2=ze2),false),(decide (y.2.2=ze2),false),(decide ((t8.1,t8.2)=ze2),true),(decide ((t9.1,t9.2)=ze2),true)])) [some false,some false,some true,some true] kr (ao (decide_eq_false h1) (ao (decide_eq_false h2) (ao (decide_eq_true h3) (ao (decide_eq_true h4) aD)))) (by rw[show E1w.jaF x y=E1w.jdF x from (if_neg h1).trans ((if_neg h2).trans ((if_pos h3).trans (if_pos h4)))]<;>exact rfl)))
    ·exact (bT (l2 (V6 _) (V6 _)) (V6 _) (pE TO58 func40 [.inl [x.1.1,x.1.2,x.2.1.1,x.2.1.2,x.2.2.1,x.2.2.2],.inl [y.1.1,y.1.2,y.2.1.1,y.2.1.2,y.2.2.1,y.2.2.2]] (.inl (.inl [(E1w.jaF x y).1.1,(E1w.jaF x y).1.2,(E1w.jaF x y).2.1.1,(E1w.jaF x y).2.1.2,(E1w.jaF x y).2.2.1,(E1w.jaF x y).2.2.2])) (let t0:=ml2 (x.2.2.1,x.2.2.2) (x.2.2.1,x.2.2.2);let t1:=ml2 (y.2.2.1,y.2.2.2) (y.2.2.1,y.2.2.2);let t2:=ml2 (x.1.1,x.1.2) (t1.1,t1.2);let t3:=ml2 (y.1.1,y.1.2) (t0.1,t0.2);let t4:=ml2 (x.2.1.1,x.2.1.2) (t1.1,t1.2);let t5:=ml2 (t4.1,t4.2) (y.2.2.1,y.2.2.2);let t6:=ml2 (y.2.1.1,y.2.1.2) (t0.1,t0.2);let t7:=ml2 (t6.1,t6.2) (x.2.2.1,x.2.2.2);let t8:=E1w.sub (t3.1,t3.2) (t2.1,t2.2);let t9:=E1w.sub (t7.1,t7.2) (t5.1,t5.2);(.inl (.inl [0,0,0,0,0,0]),[(decide (x.2.2=ze2),false),(decide (y.2.2=ze2),false),(decide ((t8.1,t8.2)=ze2),true),(decide ((t9.1,t9.2)=ze2),false)])) [some false,some false,some true,some false] kr (ao (decide_eq_false h1) (ao (decide_eq_false h2) (ao (decide_eq_true h3) (ao (decide_eq_false h4) aD)))) (by rw[show E1w.jaF x y=(ze2,ze2,ze2)from (if_neg h1).trans ((if_neg h2).trans ((if_pos h3).trans (if_neg h4)))]<;>exact rfl)))
   ·exact (bT (l2 (V6 _) (V6 _)) (V6 _) (pE TO58 func40 [.inl [x.1.1,x.1.2,x.2.1.1,x.2.1.2,x.2.2.1,x.2.2.2],.inl [y.1.1,y.1.2,y.2.1.1,y.2.1.2,y.2.2.1,y.2.2.2]] (.inl (.inl [(E1w.jaF x y).1.1,(E1w.jaF x y).1.2,(E1w.jaF x y).2.1.1,(E1w.jaF x y).2.1.2,(E1w.jaF x y).2.2.1,(E1w.jaF x y).2.2.2])) (let t0:=ml2 (x.2.2.1,x.2.2.2) (x.2.2.1,x.2.2.2);let t1:=ml2 (y.2.2.1,y.2.2.2) (y.2.2.1,y.2.2.2);let t2:=ml2 (x.1.1,x.1.2) (t1.1,t1.2);let t3:=ml2 (y.1.1,y.1.2) (t0.1,t0.2);let t4:=ml2 (x.2.1.1,x.2.1.2) (t1.1,t1.2);let t5:=ml2 (t4.1,t4.2) (y.2.2.1,y.2.2.2);let t6:=ml2 (y.2.1.1,y.2.1.2) (t0.1,t0.2);let t7:=ml2 (t6.1,t6.2) (x.2.2.1,x.2.2.2);let t8:=E1w.sub (t3.1,t3.2) (t2.1,t2.2);let t9:=E1w.sub (t7.1,t7.2) (t5.1,t5.2);let t10:=ml2 (t8.1,t8.2) (t8.1,t8.2);let t11:=ml2 (t10.1,t10.2) (t8.1,t8.2);let t12:=ml2 (t2.1,t2.2) (t10.1,t10.2);let t13:=ml2 (t9.1,t9.2) (t9.1,t9.2);let t14:=E1w.sub (t13.1,t13.2) (t11.1,t11.2);let t15:=E1w.sub (t14.1,t14.2) (t12.1,t12.2);let t16:=E1w.sub (t15.1,t15.2) (t12.1,t12.2);let t17:=E1w.sub (t12.1,t12.2) (t16.1,t16.2);let t18:=ml2 (t9.1,t9.2) (t17.1,t17.2);let t19:=ml2 (t5.1,t5.2) (t11.1,t11.2);let t20:=E1w.sub (t18.1,t18.2) (t19.1,t19.2);let t21:=ml2 (x.2.2.1,x.2.2.2) (y.2.2.1,y.2.2.2);let t22:=ml2 (t21.1,t21.2) (t8.1,t8.2);(.inl (.inl [t16.1,t16.2,t20.1,t20.2,t22.1,t22.2]),[(decide (x.2.2=ze2),false),(decide (y.2.2=ze2),false),(decide ((t8.1,t8.2)=ze2),false)])) [some false,some false,some false] kr (ao (decide_eq_false h1) (ao (decide_eq_false h2) (ao (decide_eq_false h3) aD))) (by rw[show E1w.jaF x y=E1w.ja x.1 x.2.1 x.2.2 y.1 y.2.1 y.2.2 from (if_neg h1).trans ((if_neg h2).trans (if_neg h3))]<;>exact rfl)))
theorem cx{f:Nat}{g:W6->W6->W6}(en:ai prog f)(h: ∀a b,PUR f [EV6 a,EV6 b] (EV6 (g a b))):Snd prog Gt f (c2 q6.ag q6.ag q6.rd g):=gv q6.ag q6.ag q6.rd en (λa b=>bT (l2 (V6 _).symm (V6 _).symm) (V6 _).symm (h a b))
def TO59:Tb prog Gt:=TO58.add (cx (g:=E1w.jaF) ent40 F7)
theorem pr{f:Nat}{g:W6->W6->Bool}(en:ai prog f)(h: ∀a b,PUR f [EV6 a,EV6 b] (.bool (g a b))):Snd prog Gt f (c2 q6.ag q6.ag rdB g):=gv q6.ag q6.ag rdB en (λa b=>bT (l2 (V6 _).symm (V6 _).symm) O (h a b))
end
section
open Go.RowKit
attribute [local simp] a6 bv aH aA aQ aY aR aK aM PLl cJ cH N1l cI cL cK bf bB a7 bu
def RMJ(x:W6)(bs:L8):Nat->W6
 |0=>(ze2,ze2,ze2)
 |i+1=>if dH bs i=1#8 then E1w.jaF (E1w.jdF (RMJ x bs i)) x else E1w.jdF (RMJ x bs i)
theorem Bv{x:W6}{bs:L8}{i:Nat}(h:dH bs i=1#8):RMJ x bs (i+1)=E1w.jaF (E1w.jdF (RMJ x bs i)) x:=if_pos h
theorem AY{x:W6}{bs:L8}{i:Nat}(h: ¬dH bs i=1#8):RMJ x bs (i+1)=E1w.jdF (RMJ x bs i):=if_neg h
theorem GO{x:W6}{P:Pt W2}(hP:E1w.onP P)(hx:E1w.jr x P)(bs:L8): ∀i,E1w.jr (RMJ x bs i) (E1w.times P (BTn bs i))
 |0=>rfl
 |i+1=>by
  have hd:=E1w.jr_d (E1w.times_on hP _) (GO hP hx bs i);rw[E1w.dbl_times hP]at hd;rcases mP bs i with ⟨h,e⟩|⟨h,e⟩
  ·rw[Bv h,BTn,e]
   exact E1w.jr_a (E1w.times_on hP _) hP hd hx
  ·rw[AY h,BTn,e]
   exact hd
theorem Vm:nm (zp G1x)=[18103045581585958587#64,7806400890582735599#64,11623291730934869080#64,14080658508445169925#64,2780237799254240271#64,1725392847304644500#64]:=by decide+kernel
theorem Tc:nm (zp G1y)=[912580534683953121#64,15005087156090211044#64,61670280795567085#64,18227722000993880822#64,11573741888802228964#64,627113611842199793#64]:=by decide+kernel
theorem MZ:nm 0=List.replicate 6 0#64:=by decide+kernel
theorem TG(a b:Zp):PUR 84 [NV (nm a),NV (nm b)] (EV2 (a,b)):=by
 intro w hw;refine Hf func84 O hw<|λhGF=>Xp<|Bx 2 hGF O<|λb2=>Bx 3 hGF O<|λb3=>Al 4 hGF zv41<|λb4=>aa<|Xd []<|La 2 O O ce<|Ca O (IH _)<|La 3 O O ce<|Ca O (IH _)<|co rU O O sm sm O O<|Sa 4 hGF O O O bH<|aa<|ak<|Rr<|?_;exact au 4 O O O isAgg41 sizeOf41 sm (λw hw=>⟨rfl,ab hw⟩)
theorem Mg(a b:Zp):PUR 50 [NV (nm a),NV (nm b)] (EV2 (a,b)):=by
 intro w hw;refine Hf func50 O hw<|λhGF=>Xp<|Bx 2 hGF O<|λb2=>Bx 3 hGF O<|λb3=>Al 4 hGF zv41<|λb4=>aa<|Xp<|La 2 O O ce<|La 3 O O ce<|Ca O (TG _ _)<|Sa 4 hGF O O O bH<|aa<|ak<|Rr<|?_;exact au 4 O O O isAgg41 sizeOf41 sm (λw hw=>⟨rfl,ab hw⟩)
theorem Qk:PUR 50 [NV [18103045581585958587#64,7806400890582735599#64,11623291730934869080#64,14080658508445169925#64,2780237799254240271#64,1725392847304644500#64],NV (List.replicate 6 0#64)] (EV2 (zp G1x,0)):=by
 have h:=Mg (zp G1x) 0;rw[Vm,MZ]at h;exact h
theorem OM:PUR 50 [NV [912580534683953121#64,15005087156090211044#64,61670280795567085#64,18227722000993880822#64,11573741888802228964#64,627113611842199793#64],NV (List.replicate 6 0#64)] (EV2 (zp G1y,0)):=by
 have h:=Mg (zp G1y) 0;rw[Tc,MZ]at h;exact h
theorem Eg  :PUR 17 [.bool false] (EV6 (RJ (some G1p))):=by
 intro w hw;refine Hf func17 O hw<|λhGF=>Xp<|Al 2 hGF zv43<|λb2=>aa<|ae<|Xp<|Mv O<|aa<|aC O<|ap<|Xp<|bR (n:=6) O O underlying37 sizeOf24 zeroValue37 O O O O<|dX zv37 underlying37 sizeOf24 O O<|Ca O (Qk)<|bR (n:=6) O O underlying37 sizeOf24 zeroValue37 O O O O<|dX zv37 underlying37 sizeOf24 O O<|Ca O (OM)<|Ca O (nS)<|ef Ju O O O sm sm sm O O<|Sa 2 hGF O O O jL<|aa<|ak<|Rr<|?_;exact au 2 O O O isAgg43 sizeOf43 sm (λw hw=>⟨rfl,ab hw⟩)
theorem vg(x:W6)(e:Option Addr)(cap:Nat)(bs:L8)(hlen:bs.length<=4096)(w:World)(hw:Gt w)(hby:BytesAt w e bs):
 CLS 18 [EV6 x,.slice e bs.length cap].toArray w (λr w'=>r=.returned (EV6 (RMJ x bs (8*bs.length)))/\Grow w w'):=by
 refine Hf func18 O hw<|λhGF=>Xp<|Bx 2 hGF O<|λb2=>Al 4 hGF zv43<|λb4=>aa<|Xp<|Al 5 hGF zv43<|λb5=>aa<|ae<|Xp<|Asg O<|aa<|ah<|bG (ι:={i:Nat // i<=8*bs.length}) (λy=>[(1,.slice e bs.length cap),(2,pnt b2),(4,pnt b4),(5,pnt b5),(6,I (y.1:Int))]) (λy=>[(2,b2,((fe ((x).1).1++fe ((x).1).2)++((fe ((x).2.1).1++fe ((x).2.1).2)++(fe ((x).2.2).1++fe ((x).2.2).2))).map U64,43),(4,b4,((fe 0++fe 0)++((fe 0++fe 0)++(fe 0++fe 0))).map U64,43),(5,b5,((fe ((RMJ x bs y.1).1).1++fe ((RMJ x bs y.1).1).2)++((fe ((RMJ x bs y.1).2.1).1++fe ((RMJ x bs y.1).2.1).2)++(fe ((RMJ x bs y.1).2.2).1++fe ((RMJ x bs y.1).2.2).2))).map U64,43)]) (λy=>8*bs.length-y.1) ⟨0,Nat.zero_le _⟩ hGF trv trv<|?_;rintro ⟨i,hi⟩;dsimp only;refine ae<|Xp<|Mv O<|Mv O<|bc O (λ_=>aF underlying22 _ _ _ _) O O<|Bnr (v:=I ((8*bs.length:Nat):Int)) O O (λ_=>(bp _ _ _ oi).trans (by rw[show (8:Int)*(bs.length:Int)=((8*bs.length:Nat):Int) by omega]))<|Bnr O O (λ_=>av _ _ _)<|aa<|?_
 refine bC O (λhc=> ?_) (λhc=> ?_)
 ·simp only[decide_eq_true_eq]at hc
  refine ap<|ae<|ah<|Xp<|La 5 O O jL<|Ca O (wv _)<|Sa 5 hGF O O O jL<|aa<|Xp<|Mv O<|Mv O<|Bnr (v:=I ((i / 8:Nat):Int)) O O (λ_=>fh _ _ _ dc (show inI ((i / 8:Nat):Int) by unfold inI;omega))<|?_
  obtain ⟨ad,rfl,_⟩:=hby (i / 8) _ (gm U8 bs 0 (i / 8) om);refine gA (i / 8) O O underlying22 sizeOf5 O om O O<|bN O isAgg5 (λw' h=>by obtain ⟨ad',e,hc⟩:=(hby.grow (ab h)) (i / 8) _ (gm U8 bs 0 (i / 8) om);cases e;exact hc) O O<|Mv O<|Bnr (v:=I ((i % 8:Nat):Int)) O O (λ_=>cX _ _ _ dc)<|Bnr (v:=I ((7-i % 8:Nat):Int)) O O (λ_=>(aV _ _ _ oi).trans (by rw[show ((7:Int)-((i % 8:Nat):Int))=((7-i % 8:Nat):Int) by omega]))<|Bnr (v:=U8 (bs.getD (i / 8) 0>>>(7-i % 8))) O O (λ_=>fk _ _ _ om)<|Bnr (v:=U8 (dH bs i)) O O (λ_=>cy _ _ 1#8)<|Bnr (v:=.bool (decide (dH bs i=1#8))) O O (λ_=>(cR _ _ 1#8).trans O)<|aa<|?_
  refine bC O (λhc=> ?_) (λhc=> ?_)
  ·have hq:dH bs i=1#8:=of_decide_eq_true hc
   refine Xq<|La 5 O O jL<|La 2 O O jL<|Ca O (F7 _ _)<|Sa 5 hGF O O O jL<|aa<|Xq<|Mv O<|Bnr O O (λ_=>aq _ _ _ oi)<|Asg O<|aa<|?_
   repeat (refine aL ?_)
   exact aB<|⟨rfl,⟨i+1,om⟩,_,by show 8*bs.length-(i+1)<8*bs.length-i;omega,rfl,trv,⟨rfl,rfl,by first|(rw[Bv hq];rfl)|(rw[AY hq];rfl),trivial⟩⟩
  ·have hq: ¬dH bs i=1#8:=of_decide_eq_false hc
   refine ap<|Xq<|Mv O<|Bnr O O (λ_=>aq _ _ _ oi)<|Asg O<|aa<|?_
   repeat (refine aL ?_)
   exact aB<|⟨rfl,⟨i+1,om⟩,_,by show 8*bs.length-(i+1)<8*bs.length-i;omega,rfl,trv,⟨rfl,rfl,by first|(rw[Bv hq];rfl)|(rw[AY hq];rfl),trivial⟩⟩
 ·obtain rfl:i=8*bs.length:=by simp at hc;omega
  refine aU<|Xp<|La 5 O O jL<|Sa 4 hGF O O O jL<|aa<|ak<|Rr<|?_;exact au 4 O O O isAgg43 sizeOf43 sm (λw hw=>⟨rfl,ab hw⟩)
end
section
variable {α:Type} [DecidableEq α] {C:Ec α} (T:Tw C)
theorem Tw.out_of{G:Pt α}(hG:C.onP G){U:Nat}(h:C.ne (C.times (C.times G U) U)=T.p G)(e:Nat):C.ne (C.times (C.times (C.times G e) U) U)=T.p (C.times G e):=by
 have h1:=C.times_on hG U;rw[T.p_times hG,<-h,C.times_ne (C.times_on h1 U),C.times_swap h1 U e,C.times_swap hG U e]
end
theorem UT{α:Type}(C:Ec α){J:α×α×α}{P:Pt α}{x y:α}(h:C.jr J P)(hz:J.2.2≠C.R.zero)(hx:J.1=C.R.mul x (C.z2 J.2.2))(hy:J.2.1=C.R.mul y (C.z3 J.2.2)):P=some (x,y):=by
 cases P with
 |none=>exact absurd h hz
 |some p=>
  refine congrArg some (Prod.ext ?_ ?_)
  ·exact C.mul_can (C.z2_ne hz) (h.2.1.symm.trans hx)
  ·exact C.mul_can (C.z3_ne hz) (h.2.2.symm.trans hy)
theorem LG{α:Type} [DecidableEq α](C:Ec α){J K:α×α×α}{P:Pt α}(hP:C.onP P)(h:C.jr J P)(l:List Bool){n:Nat}(hn:kq l 0=n)(hK:C.jm J l (C.R.zero,C.R.zero,C.R.zero)=K){x y:α}(hz:K.2.2≠C.R.zero)(hx:K.1=C.R.mul x (C.z2 K.2.2))(hy:K.2.1=C.R.mul y (C.z3 K.2.2)):C.times P n=some (x,y):=by
 have k:=C.jr_m hP h l (C.R.zero,C.R.zero,C.R.zero) 0 (show C.R.zero=C.R.zero from O);rw[hn,hK]at k;exact UT C k hz hx hy
theorem Q2{p:Nat}(hp:Pr p){d:Nat}(h0:0<d)(h1:d<p): ∃e,(d*e) % p=1:=by
 refine ⟨d^(p-2), ?_⟩;have h2:1<p:=hp.1;rw[<-Nat.pow_succ',show (p-2).succ=p-1 from by omega]
 exact hp.fermat1 λh=>absurd (Nat.le_of_dvd h0 h) om
/-! ### The first curve -/
def TRN:Nat:=0x5f19672fdf76ce51ba69c6076a0f77eaddb3a93be6f89688de17d813620a00022e01fffffffefffe
theorem PR:zp TRN*zp TRN*(zp TRN*zp TRN)=zp TRN:=by decide+kernel
theorem N9:zp TRN*zp TRN*(zp TRN*zp TRN*(zp TRN*zp TRN))=1:=by decide+kernel
theorem Sq:zp TRN*zp TRN≠0:=by decide+kernel
def TW1:Tw E1 where
 f:=λa=>a
 w:=zp TRN*zp TRN
 fa:=λ_ _=>rfl
 fm:=λ_ _=>rfl
 fn:=λ_=>rfl
 f0:=rfl
 fi:=λ_ h=>h
 wn:=Sq
 wb:=by decide+kernel
theorem KR(q:Zp×Zp):TW1.m q=(zp TRN*q.1,q.2):=by
 refine Prod.ext ?_ ?_
 ·show zp TRN*zp TRN*(zp TRN*zp TRN)*q.1=zp TRN*q.1
  rw[PR]
 ·show zp TRN*zp TRN*(zp TRN*zp TRN*(zp TRN*zp TRN))*q.2=q.2
  rw[N9];generalize q.2=y;grind
def UG:Nat:=0xd201000000010000
def UGJ:Zp×Zp×Zp:=E1.jm (zp G1x,zp G1y,1) (dI 128 (UG*UG) []) (0,0,0)
theorem PH:E1.jm (zp G1x,zp G1y,1) (dI 128 (UG*UG) []) (E1.R.zero,E1.R.zero,E1.R.zero)=UGJ:=by unfold UGJ;rfl
theorem KH:kq (dI 128 (UG*UG) []) 0=UG*UG:=by decide+kernel
theorem ugj:UGJ.2.2≠0/\UGJ.1=zp TRN*zp G1x*(UGJ.2.2*UGJ.2.2)/\UGJ.2.1= -(zp G1y)*(UGJ.2.2*UGJ.2.2*UGJ.2.2):=by decide+kernel
theorem VD:E1.times (some G1p) (UG*UG)=some (zp TRN*zp G1x,-(zp G1y)):=LG E1 (P:=some G1p) o7 vY (dI 128 (UG*UG) []) KH PH ugj.1 ugj.2.1 ugj.2.2
theorem ph:E1.onP (some G1p):=o7
theorem Vh:E1.ne (E1.times (E1.times (some G1p) UG) UG)=TW1.p (some G1p):=by
 rw[<-E1.times_mul ph,VD];refine congrArg some ((Prod.ext O ?_:_=(zp TRN*zp G1x,zp G1y)).trans (KR G1p).symm);show- -(zp G1y)=zp G1y;generalize zp G1y=y;grind
theorem Oq:Pr ORD:=by
 have e:ORD=RR:=by decide+kernel
 rw[e];exact pr_r
abbrev IG1(P:Pt Zp):Prop:=E1.ne (E1.times (E1.times P UG) UG)=TW1.p P
theorem D7:IG1 none:=by
 show E1.ne (E1.times (E1.times none UG) UG)=none;rw[E1.times_none,E1.times_none];rfl
theorem r8(x:Nat):IG1 (E1.times (some G1p) x):=TW1.out_of ph Vh x
end Go.Proofs.YtjookodjbjabbaaGreatDoor
