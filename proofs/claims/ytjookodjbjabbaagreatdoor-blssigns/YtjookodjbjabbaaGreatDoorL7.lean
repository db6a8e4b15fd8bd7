/- L7 -/
import Derived.Test.YtjookodjbjabbaaGreatDoorL6
set_option maxRecDepth 100000
set_option maxHeartbeats 1000000
namespace Go.Proofs.YtjookodjbjabbaaGreatDoor
open Go.Proofs.Tryz
section
set_option maxRecDepth 1000000
section
variable {β:Type}
def fN(n:Nat)(k:Nat->β):β:=match n with
 |0=>k 0
 |m+1=>k (m+1)
theorem WN(n:Nat)(k:Nat->β):fN n k=k n:=by cases n<;>rfl
def fZ(x:Zp)(k:Zp->β):β:=fN x.val λn=>k (zp n)
theorem MF(x:Zp)(k:Zp->β):fZ x k=k x:=by rw[fZ,WN,sA]
def f2K(x:W2)(k:W2->β):β:=fZ x.1 λa=>fZ x.2 λb=>k (a,b)
theorem uJ(x:W2)(k:W2->β):f2K x k=k x:=by rw[f2K,MF,MF]
def f6K(x:W6)(k:W6->β):β:=f2K x.1 λa=>f2K x.2.1 λb=>f2K x.2.2 λc=>k (a,b,c)
theorem vI(x:W6)(k:W6->β):f6K x k=k x:=by rw[f6K,uJ,uJ,uJ]
def jg(x:W12)(k:W12->β):β:=f6K x.1 λa=>f6K x.2 λb=>k (a,b)
theorem kM(x:W12)(k:W12->β):jg x k=k x:=by rw[jg,vI,vI]
def fWK(g:WK->WK):List WK->(List WK->β)->β
 |[],k=>k []
 |w::l,k=>f6K (g w).2.2 λc=>fWK g l λl=>k ((w.1,w.2.1,c)::l)
theorem FI{g:WK->WK}(h: ∀w,g w=(w.1,w.2.1,(g w).2.2)): ∀(l:List WK) (k:List WK->β),fWK g l k=k (l.map g)
 |[],_=>rfl
 |w::l,k=>by rw[fWK,vI,FI h l,List.map_cons,<-h]
def fAK(g:WK->W6):List WK->W12->(W12->β)->β
 |[],f,k=>k f
 |w::l,f,k=>f6K (g w) λt=>jg (K12.mul (lel t) f) λf=>fAK g l f k
theorem Gw(g:WK->W6): ∀(l:List WK) (f:W12) (k:W12->β),fAK g l f k=k (iM g l f)
 |[],_,_=>rfl
 |w::l,f,k=>by rw[fAK,vI,kM,Gw g l];rfl
theorem TK(w:WK):wDb w=(w.1,w.2.1,(wDb w).2.2):=rfl
theorem Vy(w:WK):wJn w=(w.1,w.2.1,(wJn w).2.2):=by unfold wJn;split<;>rfl
def stK(d:Bool)(S:List WK×W12)(k:List WK×W12->β):β:=jg (K12.mul S.2 S.2) λf=>fAK rDb S.1 f λf=>fWK wDb S.1 λl=>bif d then fAK rJn l f λf=>fWK wJn l λl=>k (l,f)else k (l,f)
theorem T9(d:Bool)(S:List WK×W12)(k:List WK×W12->β):stK d S k=k (rdF d S):=by
 rw[stK,kM,Gw,FI TK]
 cases d with
 |false=>rfl
 |true=>rw[cond_true,Gw,FI Vy];rfl
def okS(d:Bool)(S:List WK×W12):Bool:=bif d then S.1.all λw=> !decide ((wDb w).2.2.2.2=ze2)else true
def okR:List Bool->List WK×W12->Bool
 |[],_=>true
 |d::r,S=>okS d S && okR r (rdF d S)
def xG:List Bool->List WK×W12->Bool->(List WK×W12->Bool->β)->β
 |[],S,b,k=>k S b
 |d::r,S,b,k=>bif b && okS d S then stK d S λS=>xG r S true k else stK d S λS=>xG r S false k
theorem GZ: ∀(l:List Bool) (S:List WK×W12) (b:Bool) (k:List WK×W12->Bool->β),xG l S b k=k (rdK l S) (b && okR l S)
 |[],S,b,k=>by rw[xG,okR,Bool.and_true];rfl
 |d::r,S,b,k=>by
  have e: ∀c,(stK d S λS=>xG r S c k)=k (rdK (d::r) S) (c && okR r (rdF d S)):=λc=>by rw[T9,GZ r];rfl
  rw[xG,e,e,okR]
  cases b<;>cases okS d S<;>rfl
theorem Fe: ∀(l:List Bool) (S:List WK×W12),okR l S=true->∀(k:Nat),l[k]? =some true->∀w∈(rdK (l.take k) S).1,¬(wDb w).2.2.2.2=ze2
 |d::r,S,h,0,hd,w,hw=>by
  obtain rfl:d=true:=Option.some.inj hd;have k:=List.all_eq_true.1 (Bool.and_eq_true_iff.1 h).1 w hw;simpa using k
 |_::r,S,h,k+1,hd,w,hw=>Fe r _ (Bool.and_eq_true_iff.1 h).2 k hd w hw
/-! ### The power -/
def ivN(x:W2):W2:=
 let n:=zp (pm (nm2 x).val PP 384 (PP-2))
 (x.1*n,-x.2*n)
theorem Nq:iv2=ivN:=funext λx=>by
 have h:=Ev (nm2 x).val (PP-2) 384 (by decide+kernel)
 rw[sA]at h;rw[iv2,ivN,h]
def S4(i:W2->W2)(x:W6)(k:W6->β):β:=f2K (i3n x.1 x.2.1 x.2.2) λn=>f2K (i n) λn=>k (ml2 (i3a x.1 x.2.1 x.2.2) n,ml2 (i3b x.1 x.2.1 x.2.2) n,ml2 (i3c x.1 x.2.1 x.2.2) n)
def FR(i:W2->W2)(x:W12)(k:W12->β):β:=f6K (qnm K6 VV x) λq=>S4 i q λq=>jg (K12.mul (x.1,K6.neg x.2) (q,K6.zero)) k
theorem Tz(x:W12)(k:W12->β):FR ivN x k=k (BK x):=by
 rw[<-Nq,FR,vI,S4,uJ,uJ,kM];rfl
def FRg(g:W2)(x:W12):W12:=((ml2 (cj2 x.1.1) (pw2 g 0),ml2 (cj2 x.1.2.1) (pw2 g 2),ml2 (cj2 x.1.2.2) (pw2 g 4)),(ml2 (cj2 x.2.1) (pw2 g 1),ml2 (cj2 x.2.2.1) (pw2 g 3),ml2 (cj2 x.2.2.2) (pw2 g 5)))
def pwK(x:W12):List Bool->W12->(W12->β)->β
 |[],a,k=>jg (dd a) k
 |b::r,a,k=>jg (K12.mul a a) λa=>bif b then jg (K12.mul a x) λa=>pwK x r a k else pwK x r a k
theorem xz(x:W12): ∀(l:List Bool) (n:Nat) (k:W12->β),pwK x l (K12.pw x n) k=k (dd (K12.pw x (kq l n)))
 |[],n,k=>kM _ _
 |true::r,n,k=>by
  rw[pwK,kM,cond_true,kM,K12.bt_y x (m:=2*n+1) O];exact xz x r _ k
 |false::r,n,k=>by
  rw[pwK,kM,cond_false,K12.bt_n x (m:=2*n) O];exact xz x r _ k
def tnK(l:List Bool)(x:W12)(k:W12->β):β:=pwK x l K12.one k
theorem IG:kq (dI 64 UG []) 0=UG:=by decide+kernel
theorem Qb(x:W12)(k:W12->β):tnK (dI 64 UG []) x k=k (tnd UG x):=by
 have h:=xz x (dI 64 UG []) 0 k;rw[IG]at h;exact h
def Rm(l:List Bool)(i:W2->W2)(g:W2)(x:W12)(k:W12->β):β:=
 FR i x λv=>jg (K12.mul (dd x) v) λa=>jg (FRg g a) λb=>jg (K12.mul (FRg g b) a) λy=>
 tnK l y λt=>jg (K12.mul t (dd y)) λa=>tnK l a λt=>jg (K12.mul t (dd a)) λa=>
 tnK l a λt=>jg (K12.mul t (FRg g a)) λa=>
 tnK l a λt=>tnK l t λt=>jg (FRg g a) λb=>jg (K12.mul t (FRg g b)) λb=>jg (K12.mul b (dd a)) λb=>
 jg (K12.mul b y) λb=>jg (K12.mul b y) λb=>jg (K12.mul b y) k
theorem Iy(x:W12)(k:W12->β):Rm (dI 64 UG []) ivN (-(zp CNn),zp CNn) x k=k (xm UG x):=by
 rw[<-Gu];have e:FRg GA=d8:=funext λ_=>rfl;simp only[Rm,Tz,kM,Qb,e,xm,fi6,fi5,fi4,fi3,fi2,fi1]
end
def nJ(p q:Zp×Zp)(P Q:W2×W2)(c:Bool):Bool:=xG (dI 63 (UG-2^63) []) ([wkB p P,wkB q Q],K12.one) true λS b=>b && Rm (dI 64 UG []) ivN (-(zp CNn),zp CNn) (dd S.2) λv=>decide (v=K12.one)==c
theorem EK{p q:Zp×Zp}{P Q:W2×W2}{c:Bool}(h:nJ p q P Q c=true):okR (dI 63 (UG-2^63) []) ([wkB p P,wkB q Q],K12.one)=true/\decide (xm UG (dd (rdK (dI 63 (UG-2^63) []) ([wkB p P,wkB q Q],K12.one)).2)=K12.one)=c:=by
 rw[nJ,GZ,Iy,Bool.true_and,Bool.and_eq_true]at h;exact ⟨h.1,eq_of_beq h.2⟩
/-! ### Points by literals -/
section
variable {α:Type} [DecidableEq α] (C:Ec α)
def okP(J:α×α×α)(p:α×α):Bool:= !decide (J.2.2=C.R.zero) && (decide (J.1=C.R.mul p.1 (C.z2 J.2.2)) && decide (J.2.1=C.R.mul p.2 (C.z3 J.2.2)))
theorem tk{P:Pt α}{J:α×α×α}{p:α×α}(hP:C.onP P)(h:C.jr J P){l:List Bool}{n:Nat}(hn:kq l 0=n)(k:okP C (C.jm J l (C.R.zero,C.R.zero,C.R.zero)) p=true):C.times P n=some p:=by
 have e:=C.jr_m hP h l (C.R.zero,C.R.zero,C.R.zero) 0 (show C.R.zero=C.R.zero from O);rw[hn]at e;simp only[okP,Bool.and_eq_true,Bool.not_eq_true',decide_eq_true_eq,decide_eq_false_iff_not]at k;exact C.jr_one e (show C.jr _ (some p)from ⟨k.1,k.2.1,k.2.2⟩)
end
def mmH:W2×W2:=((zp 0x15d20c32159aace6759a783461fd9e3c5ea985d29a7a466bc11c0ad3e5923bfee7e335057028e7c7c4db7df243baee61,zp 0x197c335f20db08e91c53aecbabf17e0c0880d2d3f17fa9d9f4f2bb7caae0c05c201db70fd56d044ed05b6cb2968dbb7d),(zp 0x12209a4008d642f9eea9d4b97e3109121080bd5e3893b70e9084e6c7de6e43b98c6c4a52d3f36bbb6713f7adf3de74a1,zp 0x1256e3b423c9dd0d7278b1e110cc625d626824b4f83aa9fc97a084d0c34eacf3cb7800495ae790dc5e24c802b7ad0d16))
def mmS:W2×W2:=((zp 0x6d325bd679cc3f989b68582f4eff2d94b372b1f01bfc04957d6140da52ccacfbe26a24a202e8529b08900d4f1fc1208,zp 0x251a519876f464c83133097ebf1a68721d90b28022e19c8ec4dc00ead36d3245916bb8c56d474b02d613c999d93f6ab),(zp 0x16374371aa881af335027b8be36594ebcd055b4bb5140ec6d06ec145d5fc295c755d03c69406fbe4246b20c59cdd20d4,zp 0x7ebcf4e0bc2ce02d699340e8acbab2337679d458250e250f2cc34d6f37449b878deaa6abfda8e0418bf451f2c80ba1a))
def Vv:Zp×Zp:=(zp 0x9ece308f9d1f0131765212deca99697b112d61f9be9a5f1f3780a51335b3ff981747a0b2ca2179b96d2c0c9024e5224,zp 0x32b80d3a6f5b09f8a84623389c5f80ca69a0cddabc3097f9d9c27310fd43be6e745256c634af45ca3473b0590ae30d1)
def Ta:Zp×Zp:=(zp 0x85ae765588126f5e860d019c0e26235f567a9c0c0b2d8ff30f3e8d436b1082596e5e7462d20f5be3764fd473e57f9cf,zp 0x19e7dfab8a794b6abb9f84e57739de172a63415273f460d1607fa6a74f0acd97d9671b801dd1fd4f18232dd1259359a1)
theorem Pb{x r x' r':W2}(s:SwR uZ x r)(s':SwR u0 x' r'):E2w.times (E2w.ad (some (XIs x,YIs x (sgS r uZ))) (some (XIs x',YIs x' (sgS r' u0)))) HEF=some mmH:=by
 rw[mmq0 s,mmq1 s'];exact tk E2w (E2w.ad_on (P:=some FY) (Q:=some Hi) UC Tt) (E2w.jr_a (P:=some FY) (Q:=some Hi) UC Tt (kQ FY) (kQ Hi)) Fo (by decide+kernel)
theorem RX:E2w.on mmH:=by
 unfold Ec.on;decide+kernel
theorem PT:E2w.times (some mmH) 8=some mmS:=tk E2w (P:=some mmH) RX (kQ mmH) (l:=[true,false,false,false]) O (by decide+kernel)
theorem TJ:E1.times (some G1p) 3=some Vv:=tk E1 (P:=some G1p) o7 vY (l:=[true,true]) O (by decide+kernel)
theorem Ma:E1.times (some G1p) 8=some Ta:=tk E1 (P:=some G1p) o7 vY (l:=[true,false,false,false]) O (by decide+kernel)
theorem W3:nJ Ta (G1p.1,-G1p.2) mmH mmS true=true:=by decide+kernel
theorem chk3:nJ Vv (G1p.1,-G1p.2) mmH mmS false=true:=by decide+kernel
end
def UGS:W6:=E2w.jm (mmS.1,mmS.2,on2) (dI 64 UG []) (ze2,ze2,ze2)
theorem OO:E2w.jm (mmS.1,mmS.2,on2) (dI 64 UG []) (E2w.R.zero,E2w.R.zero,E2w.R.zero)=UGS:=by unfold UGS;rfl
theorem ugs:UGS.2.2≠ze2/\UGS.1=ml2 (ml2 TX2 (cj2 mmS.1)) (ml2 UGS.2.2 UGS.2.2)/\UGS.2.1=ml2 (ng2 (ml2 TY2 (cj2 mmS.2))) (ml2 (ml2 UGS.2.2 UGS.2.2) UGS.2.2):=by decide+kernel
theorem WJ(h:E2w.onP (some mmS)):E2w.times (some mmS) UG=some (ml2 TX2 (cj2 mmS.1),ng2 (ml2 TY2 (cj2 mmS.2))):=LG E2w (P:=some mmS) h (kQ mmS) (dI 64 UG []) ug64 OO ugs.1 ugs.2.1 ugs.2.2
theorem QO(h:E2w.onP (some mmS)):IG2 (some mmS):=by
 show E2w.ne (E2w.times (some mmS) UG)=TW2.p (some mmS);rw[WJ h];refine congrArg some ((Prod.ext O ?_:_=(ml2 TX2 (cj2 mmS.1),ml2 TY2 (cj2 mmS.2))).trans (MV mmS).symm);show ng2 (ng2 (ml2 TY2 (cj2 mmS.2)))=ml2 TY2 (cj2 mmS.2);exact R2.neg_neg _
section
open Go.RowKit
attribute [local simp] a6 bv aH aA aQ aY aR aK aM PLl cJ cH N1l cI cL cK bf bB a7 bu J1.bx J2.bx ca ft eD eZ
attribute [local simp] fP
theorem U2:ORD=RR:=by decide+kernel
theorem Vi(x:Zr):x.val<ORD:=by rw[U2];exact x.isLt
def Kx(x:Nat):Pt Zp:=E1.times (some G1p) x
theorem ss(x:Nat):E1.onP (Kx x):=E1.times_on ph x
theorem Dz{x:Nat}(h0:0<x)(h1:x<ORD): ¬Kx x=none:=λe=>by
 have k:=E1.times_inj (Q:=some G1p) o7 (λ_=>hrO) EI (λe=>by cases e) (m:=x) (n:=0) h1 om e
 omega
theorem Xi{p:Nat->J1.GP}{f:Nat->Nat}: ∀{n:Nat},(∀i,i<n->(p i).P=Kx (f i))->(J1.gSm p n).P=Kx ((List.range n).map f).sum
 |0,_=>rfl
 |n+1,h=>by
  rw[List.range_succ,List.map_append,List.sum_append_nat];show E1.ad (J1.gSm p n).P (p n).P=_;rw[Xi λi hi=>h i om,h n om,Kx,Kx,<-E1.times_add ph];simp[Kx]
theorem xZ{x:Nat}(h: ¬Kx x=none):PUR 14 [.agg ((EN1 (Kx x)).map U8).toArray] (.tuple #[J1.PtV (cA1 (Kx x) (n4 (o0 (ss x) (r8 x)))),I 0]):=Qu _ (eD _) _ h (o0 (ss x) (r8 x))
theorem Dd(x:Zr):PUR 7 [RV x] (.agg ((EN1 (Kx x.val)).map U8).toArray):=Qx x
theorem RC: ¬Xm.FBad Xm.mmm SUs 2:=by
 rintro (h|h|h|h)<;>revert h<;>decide
theorem SH: ∃p:J2.GP,Ms [109#8] p 0/\p.P=some mmH:=by
 obtain ⟨A,B,hs⟩:=H6 Xm.mmm SUs;obtain ⟨p,hp,hc⟩:=phs.ok _ _ _ _ RC hs;refine ⟨p,⟨hc⟩, ?_⟩;obtain ⟨⟨x,r,h0,rfl⟩,x',r',h1,rfl⟩:=hs;rw[show U2n Xm.mmm SUs 0=uZ from Xm.mm_0]at h0 hp;rw[show U2n Xm.mmm SUs 1=u0 from Xm.mm_1]at h1 hp;rw[hp];exact Pb h0 h1
def k2(A B:L8):Nat->L8
 |0=>A
 |_=>B
theorem k2_0(A B:L8):k2 A B 0=A:=rfl
theorem k2_1(A B:L8):k2 A B 1=B:=rfl
theorem xY{A B:L8}{s:Nat}(ha:A.length=s)(hb:B.length=s): ∀i,(k2 A B i).length=s
 |0=>ha
 |_+1=>hb
theorem M5{w:World}{b s n:Nat}{K:Nat->L8}(h:w.rangeAt b 0 ((RW s K n).map U8))(hl: ∀i,(K i).length=s):KsAt w b s n K:=λi hi=>gD h hi (hl i)
theorem KsAt.less{w:World}{b s n m:Nat}{K:Nat->L8}(h:KsAt w b s n K)(hm:m<=n):KsAt w b s m K:=λi hi=>h i om
theorem HB(a b e:Zr)(A B E Z S:L8)(lA:A.length=48)(lB:B.length=48)(lS:S.length=96)(hA:PUR 23 [U64 3#64] (RV a))(hB:PUR 23 [U64 5#64] (RV b))(hE:PUR 23 [U64 8#64] (RV e))(hpA:PUR 7 [RV a] (.agg ((A).map U8).toArray))(hpB:PUR 7 [RV b] (.agg ((B).map U8).toArray))(hpE:PUR 7 [RV e] (.agg ((E).map U8).toArray))(hpZ:PUR 7 [aJ (List.replicate 6 (0#64))] (.agg ((Z).map U8).toArray))(hS: ∀(bm:Nat) (w':World),Gt w'->BytesAt w' (spt bm) [109#8]->CLS 8 [RV (a+b),.slice (spt bm) 1 1].toArray w' (λr w''=>r=.returned (.tuple #[.agg ((S).map U8).toArray,I 0])/\Grow w' w''))(hF: ∀(d:Nat) (bm:Nat) (w':World),Gt w'->KsAt w' d 48 2 (k2 A B)->BytesAt w' (spt bm) [109#8]->CLS 25 [.slice (spt d) 2 2,.slice (spt bm) 1 1,.agg ((S).map U8).toArray].toArray w' (λr w''=>r=.returned (I 0)/\Grow w' w''))(hF': ∀(d:Nat) (bm:Nat) (w':World),Gt w'->KsAt w' d 48 2 (k2 A B)->BytesAt w' (spt bm) [109#8]->CLS 25 [.slice (spt d) 1 2,.slice (spt bm) 1 1,.agg ((S).map U8).toArray].toArray w' (λr w''=>r=.returned (I 162)/\Grow w' w''))(hV: ∀(bm:Nat) (w':World),Gt w'->BytesAt w' (spt bm) [109#8]->CLS 26 [.agg ((E).map U8).toArray,.slice (spt bm) 1 1,.agg ((S).map U8).toArray].toArray w' (λr w''=>r=.returned (I 0)/\Grow w' w''))(hK:PUR 14 [.agg ((Z).map U8).toArray] (.tuple #[J1.PtV J1.gInf,I 160]))(hN: ∀w',Gt w'->CLS 27 [.slice none 0 0].toArray w' (λr w''=>r=.returned (.tuple #[.agg ((List.replicate 48 (0#8)).map U8).toArray,I 161])/\Grow w' w'')):PUR 5 [] (.bool true):=by
 intro w hw;refine Hf func5 O hw<|λhGF=>ac (E:=EE [1000022])<|Asg O<|aa<|ac (E:=EE [1000022])<|Ca O (hA)<|Ca O (hB)<|Al 1 hGF zv27<|λb1=>Al 2 hGF zv27<|λb2=>Sa 1 hGF O O O io<|Sa 2 hGF O O O io<|aa<|ac (E:=EE [1000022])<|dV 16 [109#8] hGF O O O dc dc underlying22 sizeOf5 zeroValue5 O O<|λb16=>lV 16 O hGF O O underlying22 underlying5 O O<|Asg O<|aa<|ac (E:=EE [1000022])<|La 1 O O io<|La 2 O O io<|Ca O (r2 a b)<|Mv O<|Cc O ent8 (λw' hC hG=>hS b16 w' hG (BytesAt.range (aG (n:=16) O w' hC)))<|Mv O<|Ext O O<|Ext O O<|Al 4 hGF zv33<|λb4=>az 4 hGF O O O sizeOf33 (by simp[*]) sm (bY _) O<|Asg O<|aa<|Xd [1000022]<|La 1 O O io<|Ca O (hpA)<|La 2 O O io<|Ca O (hpB)<|eX (s:=48) 30 (k2 A B) (List.replicate 48 (0#8)) hGF O O O (λi _=>xY lA lB i) dc dc underlying65 sizeOf30 sm zv30 O O<|λb30=>Asg O<|aa<|ac (E:=EE [1000022])<|Mv O<|?_
 refine Mv O<|bS 4 O O isAgg33 sizeOf33 (by simp[*]) O O<|Cc O ent25 (λw' hC hG=>hF b30 b16 w' hG (M5 (aG (n:=30) O w' hC) (xY lA lB)) (BytesAt.range (aG (n:=16) O w' hC)))<|Asg O<|aa<|Xd [1000022]<|Mv O<|f9 (l:=0) (h':=1) O underlying65 sizeOf30 O O om O O<|Mv O<|bS 4 O O isAgg33 sizeOf33 (by simp[*]) O O<|Cc O ent25 (λw' hC hG=>hF' b30 b16 w' hG (M5 (aG (n:=30) O w' hC) (xY lA lB)) (BytesAt.range (aG (n:=16) O w' hC)))<|Asg O<|aa<|Xd [1000022]<|Ca O (hE)<|Ca O (hpE)<|Mv O<|bS 4 O O isAgg33 sizeOf33 (by simp[*]) O O<|Cc O ent26 (λw' hC hG=>hV b16 w' hG (BytesAt.range (aG (n:=16) O w' hC)))<|Asg O<|aa<|ac (E:=EE [1000022])<|el zv27 underlying27 (lL sizeOf25) O O<|Ca O (hpZ)<|Ca O (hK)<|Mv O<|Ext O O<|Ext O O<|Al 10 hGF J1.zv54<|λb10=>Sa 10 hGF O O O cj<|Asg O<|aa<|ac (E:=EE [1000022])<|Cc O ent27 (λw' hC hG=>hN w' hG)<|Mv O<|Ext O O<|Ext O O<|Al 12 hGF zv30<|λb12=>az 12 hGF O O O sizeOf30 (by simp[*]) sm (bY _) O<|Asg O<|?_
 refine aa<|ac (E:=EE [1000022])<|Mv O<|Mv O<|Bnr (v:=I 0) O O (λ_=>aq _ _ _ oi)<|Mv O<|Bnr (v:=I 0) O O (λ_=>aq _ _ _ oi)<|Bnb true O O (λ_=>dO _ _ _) (rfl)<|Mv O<|Mv O<|Bnb true O O (λ_=>dO _ _ _) (rfl)<|Pk O O O<|Mv O<|Mv O<|Bnb true O O (λ_=>dO _ _ _) (rfl)<|Pk O O O<|Mv O<|Mv O<|Bnb true O O (λ_=>dO _ _ _) (rfl)<|Pk O O O<|Asg O<|aa<|ak<|Rr<|?_;exact aE O O (λw hw=>⟨rfl,ab hw⟩)
theorem Ff(n:Nat)(h0:0<n)(hn:n<=512)(K:Nat->L8)(f:Nat->Nat)(hK: ∀i,i<n->K i=EN1 (Kx (f i))/\¬Kx (f i)=none): ∃P:J1.GP,P.P=Kx ((List.range n).map f).sum/\∀(b cap:Nat) (w:World),Gt w->KsAt w b 48 n K->CLS 61 [.slice (spt b) n cap,.func (.func 14) #[] #[]].toArray w (λr w'=>r=.returned (.tuple #[J1.PtV P,I 0])/\Grow w w'):=by
 let p:Nat->J1.GP:=λi=>cA1 (Kx (f i)) (n4 (o0 (ss _) (r8 _)))
 refine ⟨J1.gSm p n,Xi λi _=>rfl,λb cap w hw hk=> ?_⟩;have k:=J1.OY n h0 hn K p (λ_=>0) (λi hi=>⟨by rw[(hK i hi).1];exact eD _,by rw[(hK i hi).1];exact xZ (hK i hi).2⟩) n (Nat.le_refl _) (λ_ _=>rfl) (λh=>absurd h (Nat.lt_irrefl _)) b cap w hw hk
 rw[if_pos O,if_pos O]at k;exact k
namespace Q6
theorem Oa(n:Nat)(f:Nat->J1.GP×J2.GP)(b cap:Nat)(hn:n<=1000)(h0: ¬WSf f n=[])(hz:okR D63 (WSf f n,K12.one)=true)(w:World)(hw:Gt w)(h:w.rangeAt b 0 ((RW 54 (λi=>PRv (f i)) n).map U64)):CLS 163 [.slice (spt b) n cap].toArray w (λr w'=>r=.returned (cz (LPv f n))/\Grow w w'):=by
 have hl:=Nat.le_trans (ub f n) hn;have hb:=λw' hw' hr=>IR n f b cap hn w' hw' hr;rw[LPv];revert h hb;generalize (RW 54 (λi=>PRv (f i)) n).map U64=cs;intro h hb;refine O8 (WSf f n) n b cap cs hl (λk hk hd w hw=> ?_) (λw' hw' hr=>(hb w' hw' hr).mono λr w'' h=> ?_) w hw h
 ·obtain ⟨v,hv,rfl⟩:=List.mem_map.1 hw
  exact Fe _ _ hz k (by rw[tt hk,hd]) v hv
 rcases h with ⟨bW,cW,capW,h1,h2,h3,h4,h5,_⟩|⟨e,_⟩
 ·refine ⟨bW,cW.drop (wcl (WSf f n)).length,capW,h1,h2,h3, ?_⟩
  have e:wcl (WSf f n)++cW.drop (wcl (WSf f n)).length=cW:=by
   conv=>lhs;arg 1;rw[<-h5]
   exact List.take_append_drop _ _
  rw[e];exact h4
 ·exact absurd e h0
theorem Um:D63=dI 63 (UG-2^63) []:=by decide+kernel
theorem my{α:Type}{x:Option α}{a:α}(h:x=some a): ¬x=none:=λe=>by rw[h]at e;cases e
theorem Jr{p q:Zp×Zp}{P Q:W2×W2}{a b:J1.GP×J2.GP}(h1:a.1.P=some p)(h2:a.2.P=some P)(h3:b.1.P=some q)(h4:b.2.P=some Q){c:Bool}(h:nJ p q P Q c=true)(d:Nat)(w:World)(hw:Gt w)(hr:w.rangeAt d 0 ((RW 54 (λi=>PRv (v2p a b i)) 2).map U64)):CLS 111 [.slice (spt d) 2 2].toArray w (λr w'=>r=.returned (.bool c)/\Grow w w'):=by
 have hW:WSf (v2p a b) 2=[wkB p P,wkB q Q]:=by
  rw[Gp (f:=v2p a b) (i:=1) (my h3) (my h4),Gp (f:=v2p a b) (i:=0) (my h1) (my h2)];show [wkB (J1.PX a.1.P,J1.PY a.1.P) (J2.PX a.2.P,J2.PY a.2.P),wkB (J1.PX b.1.P,J1.PY b.1.P) (J2.PX b.2.P,J2.PY b.2.P)]=_;rw[h1,h2,h3,h4];rfl
 obtain ⟨k1,k2⟩:=EK h;rw[<-Um,<-hW]at k1 k2;have e:LPv (v2p a b) 2=dd (rdK D63 (WSf (v2p a b) 2,K12.one)).2:=by rw[LPv,SK,List.take_of_length_le (by rw[tU];exact Nat.le_refl _)]
 have k:=JY 2 2 (spt d) (LPv (v2p a b) 2) w hw λw' hG hg=>Oa 2 (v2p a b) d 2 dc (by rw[hW];exact λe=>by cases e) k1 w' hG (jK hr hg)
 rw[e,k2]at k;exact k
end Q6
theorem zI(K:J1.GP){g:Zp×Zp}(hK:K.P=some g)(msg:L8)(H:J2.GP)(hH:H.P=some mmH)(hM:Ms msg H 0)(hD:D2 (EN2 (some mmS)) 0 (some mmS))(c:Bool)(e:Int)(he:(c=true/\e=0)\/(c=false/\e=162))(hq:nJ g (G1p.1,-G1p.2) mmH mmS c=true)(a:Option Addr)(cap:Nat)(hl:msg.length<=65600)(hc:msg.length<=cap)(w:World)(hw:Gt w)(hb:BytesAt w a msg):CLS 62 [J1.PtV K,.slice a msg.length cap,.agg ((EN2 (some mmS)).map U8).toArray].toArray w (λr w'=>r=.returned (I e)/\Grow w w'):=by
 have hk:=λ(d:Nat) (w':World) (hG:Gt w') hr=>Q6.Jr (a:=(K,H)) (b:=(J1.kp J1.xv,cA2 (some mmS) (nI hD))) hK hH O O hq d w' hG hr;rcases he with ⟨rfl,rfl⟩|⟨rfl,rfl⟩
 ·exact VL K _ (eZ _) _ hD msg H hM a cap hl hc hk w hw hb
 ·exact ST K _ (eZ _) _ hD msg H hM a cap hl hc hk w hw hb
theorem J6(x:Nat){g:Zp×Zp}(hg:Kx x=some g)(msg:L8)(H:J2.GP)(hH:H.P=some mmH)(hM:Ms msg H 0)(hD:D2 (EN2 (some mmS)) 0 (some mmS))(hq:nJ g (G1p.1,-G1p.2) mmH mmS true=true)(a:Option Addr)(cap:Nat)(hl:msg.length<=65600)(hc:msg.length<=cap)(w:World)(hw:Gt w)(hb:BytesAt w a msg):CLS 26 [.agg ((EN1 (Kx x)).map U8).toArray,.slice a msg.length cap,.agg ((EN2 (some mmS)).map U8).toArray].toArray w (λr w'=>r=.returned (I 0)/\Grow w w'):=
 VM w (cA1 (Kx x) (n4 (o0 (ss x) (r8 x)))) (EN1 (Kx x)) (eD _) (xZ (Q6.my hg)) a msg.length cap _ (eZ _) 0 (λw' hG hg'=>zI _ hg msg H hH hM hD true 0 (.inl ⟨rfl,rfl⟩) hq a cap hl hc w' hG (hb.grow hg')) hw
theorem BY(w:World)(hw:Gt w):CLS 27 [.slice none 0 0].toArray w (λr w'=>r=.returned (.tuple #[.agg ((List.replicate 48 (0#8)).map U8).toArray,I 161])/\Grow w w'):=Dg w J1.gInf 161 dc none 0 0 (λw' hG _=>J1.FP 0 O _ none 0 w' hG) hw
theorem zA:PUR 14 [.agg ((EN1 none).map U8).toArray] (.tuple #[J1.PtV J1.gInf,I 160]):=Kl _ (eD _) none O (o0 (P:=none) True.intro D7)
def fz:Nat->Nat
 |0=>3
 |_=>5
theorem tV:PUR 5 [] (.bool true):=by
 obtain ⟨H,hM,hH⟩:=SH;have e8:(zr (3#64).toNat+zr (5#64).toNat:Zr).val=8:=by decide+kernel
 have h3:(zr (3#64).toNat).val=3:=by decide+kernel
 have h5:(zr (5#64).toNat).val=5:=by decide+kernel
 have h8:(zr (8#64).toNat).val=8:=by decide+kernel
 have lt: ∀{k:Nat},k<100->k<ORD:=λh=>Nat.lt_trans h (by decide+kernel)
 have pb: ∀(x:Zr) (k:Nat),x.val=k->PUR 7 [RV x] (.agg ((EN1 (Kx k)).map U8).toArray):=λx k h=>by subst h;exact Qx x
 have hK: ∀i,i<2->k2 (EN1 (Kx 3)) (EN1 (Kx 5)) i=EN1 (Kx (fz i))/\¬Kx (fz i)=none:=λi hi=>by
  match i,hi with
  |0,_=>rw[show fz 0=3 from O];exact ⟨k2_0 _ _,Dz dc (lt dc)⟩
  |1,_=>rw[show fz 1=5 from O];exact ⟨k2_1 _ _,Dz dc (lt dc)⟩
 have e0:E2w.times H.P 8=some mmS:=by rw[hH];exact PT
 have oS:E2w.onP (some mmS):=e0▸E2w.times_on H.on 8;have hD:=VP oS (QO oS);have fst: ∀(n:Nat) (h0:0<n) (hn:n<=2) (g:Zp×Zp) (_:Kx ((List.range n).map fz).sum=some g) (c:Bool) (e:Int) (_:(c=true/\e=0)\/(c=false/\e=162)) (_:nJ g (G1p.1,-G1p.2) mmH mmS c=true) (d bm:Nat) (w':World),Gt w'->KsAt w' d 48 2 (k2 (EN1 (Kx 3)) (EN1 (Kx 5)))->BytesAt w' (spt bm) [109#8]->CLS 25 [.slice (spt d) n 2,.slice (spt bm) 1 1,.agg ((EN2 (some mmS)).map U8).toArray].toArray w' (λr w''=>r=.returned (I e)/\Grow w' w''):=by
  intro n h0 hn g hg c e he hq d bm w' hG hk hb;obtain ⟨P,hP,hs⟩:=Ff n h0 om (k2 (EN1 (Kx 3)) (EN1 (Kx 5))) fz (λi hi=>hK i om);exact XC w' P (spt d) n 2 (λw' hG hg=>hs d 2 w' hG ((hk.less hn).up hg)) _ 1 1 (EN2 (some mmS)) (eZ _) e (λw' hG hg'=>zI P (hP.trans hg) [109#8] H hH hM hD c e he hq _ 1 dc dc w' hG (hb.grow hg')) hG
 refine HB _ _ _ (EN1 (Kx 3)) (EN1 (Kx 5)) (EN1 (Kx 8)) (EN1 none) (EN2 (some mmS)) (eD _) (eD _) (eZ _) (qw 3#64) (qw 5#64) (qw 8#64) (pb _ 3 h3) (pb _ 5 h5) (pb _ 8 h8) ?_ ?_ ?_ ?_ ?_ zA BY
 ·have k:=Qx 0
  rw[RV,OL]at k;exact k
 ·intro bm w' hG hb
  have k:=wG (zr (3#64).toNat+zr (5#64).toNat) [109#8] H hM (spt bm) 1 w' dc dc hG hb;rw[show (J2.rS H (zr (3#64).toNat+zr (5#64).toNat)).P=E2w.times H.P 8 from by rw[<-e8];rfl,e0]at k
  exact k
 ·exact fst 2 dc dc _ Ma true 0 (.inl ⟨rfl,rfl⟩) W3
 ·exact fst 1 dc dc _ TJ false 162 (.inr ⟨rfl,rfl⟩) chk3
 ·intro bm w' hG hb
  exact J6 8 Ma [109#8] H hH hM hD W3 _ 1 dc dc w' hG hb
end
section
open Go.RowKit
attribute [local simp] a6 bv aH aA aQ aY aR aK aM PLl cJ cH N1l cI cL cK bf bB a7 bu J1.bx J2.bx ca ft
theorem Uj(x y z:W2)(hz: ¬z=on2):PUR 47 [EV6 (x,y,z)] (.tuple #[EV2 (ml2 x (ml2 (iv2 z) (iv2 z))),EV2 (ml2 (ml2 y (ml2 (iv2 z) (iv2 z))) (iv2 z))]):=by
 intro w hw;refine Hf func47 O hw<|λhGF=>Xp<|Bx 1 hGF O<|λb1=>Al 2 hGF zv41<|λb2=>Al 3 hGF zv41<|λb3=>aa<|ae<|Xd []<|Fa 24 O underlying43 O sizeOf41<|aw 1 _ O O isAgg41 sizeOf41 sm (gc (m:=12) (n:=12) sm sm O) O O<|Ca O (nS)<|tg false O O (λ_=>MS _ _ _ _ _ _) (λw=>Nm _ _ sm sm w) ((Jb z on2).trans (decide_eq_false hz)) O O<|aa<|aC O<|ap<|Xp<|Fa 24 O underlying43 O sizeOf41<|aw 1 _ O O isAgg41 sizeOf41 sm (gc (m:=12) (n:=12) sm sm O) O O<|Ca O (lv _)<|Al 4 hGF zv41<|λb4=>Sa 4 hGF O O O bH<|aa<|Xp<|La 4 O O bH<|La 4 O O bH<|Ca O (eE _ _)<|Al 5 hGF zv41<|λb5=>Sa 5 hGF O O O bH<|aa<|gg (E:=EE []) (λX=>X=Hp (pl w) []) (mkB [2]) (rkB []) [0,1,2,3,4,5,6,7,8,9,10,11] cY O kr kr kr<|dE O O<|Fa 0 O underlying43 O sizeOf41<|aa<|dE O O<|aw 1 _ O O isAgg41 sizeOf41 sm ej O O<|aa<|dE O O<|La 5 O O bH<|aa<|dE O O<|?_;refine Ca O (eE _ _)<|aa<|dE O O<|Fa 12 O underlying43 O sizeOf41<|aa<|dE O O<|aw 1 _ O O isAgg41 sizeOf41 sm (km sm) O O<|aa<|dE O O<|La 5 O O bH<|aa<|dE O O<|Ca O (eE _ _)<|aa<|dE O O<|La 4 O O bH<|aa<|dE O O<|Ca O (eE _ _)<|aa<|fE O<|Sa 2 hGF O O O bH<|aa<|?_;refine ⟨λ_ X hX _=>by subst hX;exact cP am trivial, ?_⟩
 refine fE O<|Sa 3 hGF O O O bH<|aa<|?_;refine ⟨λh=>(by cases h), ?_⟩
 refine fI<|ak<|Rr<|?_;exact im 2 3 O O O O O isAgg41 sizeOf41 sm sm (λw hw=>⟨rfl,ab hw⟩)
theorem Mu(J:W6)(a b:W2)(h:E2w.jr J (some (a,b))):PUR 47 [EV6 J] (.tuple #[EV2 a,EV2 b]):=by
 obtain ⟨x,y,z⟩:=J;by_cases hz:z=on2
 ·subst hz
  have e:=E2w.jr_xy (E2w.jr_at (a,b) H5);have e1:x=a:=(h.2.1).trans (by show ml2 a (ml2 on2 on2)=a;rw[show ml2 on2 on2=on2 from R2.mul_one _];exact R2.mul_one _)
  have e2:y=b:=(h.2.2).trans (by show ml2 b (ml2 (ml2 on2 on2) on2)=b;rw[show ml2 on2 on2=on2 from R2.mul_one _,show ml2 on2 on2=on2 from R2.mul_one _];exact R2.mul_one _)
  subst e1 e2;exact r9xy _ _
 ·have e:=E2w.jr_xy h
  have k:=Uj x y z hz;rw[show ml2 x (ml2 (iv2 z) (iv2 z))=a from e.1,show ml2 (ml2 y (ml2 (iv2 z) (iv2 z))) (iv2 z)=b from (R2.mul_assoc _ _ _).trans e.2]at k;exact k
theorem Iz(J:W6)(P:Pt Zp)(h:E1w.jr J (em1.p P))(w:World)(hw:Gt w):CLS 16 [EV6 J,.bool false].toArray w (λe w'=> ∃bm,e=.returned (.slice (spt bm) 48 48)/\Grow w w'/\w.heap.size<=bm/\OwnB w' bm ((EN1 P).map U8) 5):=by
 refine Hf func16 O hw<|λhGF=>Xp<|Bx 2 hGF O<|λb2=>Asg O<|aa<|Xp<|Asg O<|aa<|ae<|Xp<|Mv O<|aa<|aC O<|ap<|Xp<|Mv O<|oO 6 hGF O O underlying22 ti5.choose_spec.1 ti5.choose_spec.2.1 (hmk 48 dc) (hmc 48 ti5.choose_spec mc48) O O<|λb6=>Asg O<|aa<|ae<|Xp<|La 2 O O jL<|?_;rcases P with _|⟨a0,b0⟩
 ·refine Cbl true O ent22 (qX _) (decide_eq_true h)<|aa<|aP O<|Xp<|Mv O<|ie 0 O O underlying22 sizeOf5 dc dc O O<|aX 6 U8 hGF O O O sizeOf5 O sm O<|aa<|Xp<|Mv O<|Asg O<|aa<|ak<|Rr<|?_
  exact aE O O (λw hw=>⟨b6,rfl,ab hw,(hw.own 6 b6 _ _ O).2.elim id False.elim,(hw.own 6 b6 _ _ O).1⟩)
 ·obtain ⟨a,ea⟩: ∃a:W2,(a0,(0:Zp))=a:=⟨_,rfl⟩
  obtain ⟨b,eb⟩: ∃b:W2,(b0,(0:Zp))=b:=⟨_,rfl⟩;replace h:E2w.jr J (some (a,b)):=by rw[<-ea,<-eb];exact h
  refine Cbl false O ent22 (qX _) (decide_eq_false h.1)<|aa<|aC O<|ap<|Xp<|La 2 O O jL<|Ca O (Mu J a b h)<|Mv O<|Ext O O<|Ext O O<|Al 7 hGF zv41<|λb7=>Al 8 hGF zv41<|λb8=>Sa 7 hGF O O O bH<|Sa 8 hGF O O O bH<|aa<|fG (E:=EE [2999999]) [0,1,2,3,4,5,6,7] [⟨8,9,29,(List.replicate 48 (0#8)).map U8⟩,⟨9,10,29,(List.replicate 48 (0#8)).map U8⟩] [10,11] cY O kr kr kr kr kr kr dc (by intro x hx;simp only[List.mem_cons,List.not_mem_nil,or_false]at hx;rcases hx with rfl|rfl<;>exact bD O zv29 O)<|Fa 0 O underlying41 O sizeOf39<|aw 7 _ O O isAgg39 sizeOf39 sm ej O O<|Ca O (mL _)<|Ca O (ot _)<|Fa 6 O underlying41 O sizeOf39<|aw 7 _ O O isAgg39 sizeOf39 sm (jf sm) O O<|Ca O (mL _)<|Ca O (ot _)<|aa<|?_
  refine ⟨_,_,rfl,hGF,by intro x hx;simp only[List.mem_cons,List.not_mem_nil,or_false]at hx;rcases hx with rfl|rfl<;>rfl,by intro x hx;simp only[List.mem_cons,List.not_mem_nil,or_false]at hx;rcases hx with rfl|rfl<;>rfl,λadr=> ?_⟩
  refine az 9 hGF O O O sizeOf29 sm sm (bY _) O<|az 10 hGF O O O sizeOf29 sm sm (bY _) O<|aa<|ae<|Xp<|Mv O<|aa<|aC O<|ap<|Xd []<|Mv O<|Mv O<|Bnr (v:=I 0) O O (λ_=>aV _ _ _ oi)<|f9 (l:=0) (h':=48) O underlying22 sizeOf5 O O dc O O<|bP (l:=0) (h':=48) O underlying29 sizeOf5 O O om om O O<|gK 6 (o:=0) (cs:=cG a.1) hGF O O O underlying22 sz5 sm (λw' h=>BytesAt.range (aG (n:=9) O w' h)) sm O O<|?_;rw[VH];refine aa<|Xp<|Mv O<|ie 0 O O underlying22 sizeOf5 dc dc O O<|Lm 6 U8 0 O O isAgg5 sm<|Bnr (v:=U8 ((cG a.1).getD 0 0|||128#8)) O O (λ_=>gz _ _ 128#8)<|ie 0 O O underlying22 sizeOf5 dc dc O O<|aX 6 U8 hGF O O O sizeOf5 O sm O<|aa<|ae<|Xp<|La 8 O O bH<|?_;rcases Bool.eq_false_or_eq_true (LG2 b)with hl|hl
  ·refine Cbl true O ent49 (mM _) (hl)<|aa<|aP O<|Xq<|Mv O<|ie 0 O O underlying22 sizeOf5 dc dc O O<|Lm 6 U8 0 O O isAgg5 sm<|Bnr (v:=U8 ((OR0 (cG a.1) 128#8).getD 0 0|||32#8)) O O (λ_=>gz _ _ 32#8)<|ie 0 O O underlying22 sizeOf5 dc dc O O<|aX 6 U8 hGF O O O sizeOf5 O sm O<|aa<|Xp<|Mv O<|Asg O<|aa<|ak<|Rr<|?_
   exact aE O O (λw hw=>⟨b6,rfl,ab hw,(hw.own 6 b6 _ _ O).2.elim id False.elim,by subst ea eb;rw[show EN1 (some (a0,b0))=OR0 (OR0 (cG a0) 128#8) 32#8 from by rw[Lf,hl];rfl];exact (hw.own 6 b6 _ _ O).1⟩)
  ·refine Cbl false O ent49 (mM _) (hl)<|aa<|aC O<|ap<|Xp<|Mv O<|Asg O<|aa<|ak<|Rr<|?_
   exact aE O O (λw hw=>⟨b6,rfl,ab hw,(hw.own 6 b6 _ _ O).2.elim id False.elim,by subst ea eb;rw[show EN1 (some (a0,b0))=OR0 (cG a0) 128#8 from by rw[Lf,hl];rfl];exact (hw.own 6 b6 _ _ O).1⟩)
theorem JH(J:W6)(P:Pt W2)(h:E2w.jr J P)(w:World)(hw:Gt w):CLS 16 [EV6 J,.bool true].toArray w (λe w'=> ∃bm,e=.returned (.slice (spt bm) 96 96)/\Grow w w'/\w.heap.size<=bm/\OwnB w' bm ((EN2 P).map U8) 5):=by
 refine Hf func16 O hw<|λhGF=>Xp<|Bx 2 hGF O<|λb2=>Asg O<|aa<|Xp<|Asg O<|aa<|ae<|Xp<|Mv O<|aa<|aP O<|Xq<|Asg O<|aa<|Xp<|Mv O<|oO 6 hGF O O underlying22 ti5.choose_spec.1 ti5.choose_spec.2.1 (hmk 96 dc) (hmc 96 ti5.choose_spec mc96) O O<|λb6=>Asg O<|aa<|ae<|Xp<|La 2 O O jL<|?_;rcases P with _|⟨a,b⟩
 ·refine Cbl true O ent22 (qX _) (decide_eq_true h)<|aa<|aP O<|Xp<|Mv O<|ie 0 O O underlying22 sizeOf5 dc dc O O<|aX 6 U8 hGF O O O sizeOf5 O sm O<|aa<|Xp<|Mv O<|Asg O<|aa<|ak<|Rr<|?_
  exact aE O O (λw hw=>⟨b6,rfl,ab hw,(hw.own 6 b6 _ _ O).2.elim id False.elim,(hw.own 6 b6 _ _ O).1⟩)
 ·refine Cbl false O ent22 (qX _) (decide_eq_false h.1)<|aa<|aC O<|ap<|Xp<|La 2 O O jL<|Ca O (Mu J a b h)<|Mv O<|Ext O O<|Ext O O<|Al 7 hGF zv41<|λb7=>Al 8 hGF zv41<|λb8=>Sa 7 hGF O O O bH<|Sa 8 hGF O O O bH<|aa<|fG (E:=EE [2999999]) [0,1,2,3,4,5,6,7] [⟨8,9,29,(List.replicate 48 (0#8)).map U8⟩,⟨9,10,29,(List.replicate 48 (0#8)).map U8⟩] [10,11] cY O kr kr kr kr kr kr dc (by intro x hx;simp only[List.mem_cons,List.not_mem_nil,or_false]at hx;rcases hx with rfl|rfl<;>exact bD O zv29 O)<|Fa 0 O underlying41 O sizeOf39<|aw 7 _ O O isAgg39 sizeOf39 sm ej O O<|Ca O (mL _)<|Ca O (ot _)<|Fa 6 O underlying41 O sizeOf39<|aw 7 _ O O isAgg39 sizeOf39 sm (jf sm) O O<|Ca O (mL _)<|Ca O (ot _)<|aa<|?_
  refine ⟨_,_,rfl,hGF,by intro x hx;simp only[List.mem_cons,List.not_mem_nil,or_false]at hx;rcases hx with rfl|rfl<;>rfl,by intro x hx;simp only[List.mem_cons,List.not_mem_nil,or_false]at hx;rcases hx with rfl|rfl<;>rfl,λadr=> ?_⟩
  refine az 9 hGF O O O sizeOf29 sm sm (bY _) O<|az 10 hGF O O O sizeOf29 sm sm (bY _) O<|aa<|ae<|Xp<|Mv O<|aa<|aP O<|Xq<|Mv O<|bP (l:=0) (h':=48) O underlying29 sizeOf5 O O om om O O<|gK 6 (o:=0) (cs:=cG a.2) hGF O O O underlying22 sz5 sm (λw' h=>BytesAt.range (aG (n:=10) O w' h)) sm O O<|?_;rw[G8];refine aa<|Xd []<|Mv O<|Mv O<|Bnr (v:=I 48) O O (λ_=>aV _ _ _ oi)<|f9 (l:=48) (h':=96) O underlying22 sizeOf5 O O dc O O<|bP (l:=0) (h':=48) O underlying29 sizeOf5 O O om om O O<|gK 6 (o:=48) (cs:=cG a.1) hGF O O O underlying22 sz5 sm (λw' h=>BytesAt.range (aG (n:=9) O w' h)) sm O O<|?_;rw[HU];refine aa<|Xp<|Mv O<|ie 0 O O underlying22 sizeOf5 dc dc O O<|Lm 6 U8 0 O O isAgg5 sm<|Bnr (v:=U8 ((cG a.2++cG a.1).getD 0 0|||128#8)) O O (λ_=>gz _ _ 128#8)<|ie 0 O O underlying22 sizeOf5 dc dc O O<|aX 6 U8 hGF O O O sizeOf5 O sm O<|aa<|ae<|Xp<|La 8 O O bH<|?_;rcases Bool.eq_false_or_eq_true (LG2 b)with hl|hl
  ·refine Cbl true O ent49 (mM _) (hl)<|aa<|aP O<|Xq<|Mv O<|ie 0 O O underlying22 sizeOf5 dc dc O O<|Lm 6 U8 0 O O isAgg5 sm<|Bnr (v:=U8 ((OR0 (cG a.2++cG a.1) 128#8).getD 0 0|||32#8)) O O (λ_=>gz _ _ 32#8)<|ie 0 O O underlying22 sizeOf5 dc dc O O<|aX 6 U8 hGF O O O sizeOf5 O sm O<|aa<|Xp<|Mv O<|Asg O<|aa<|ak<|Rr<|?_
   exact aE O O (λw hw=>⟨b6,rfl,ab hw,(hw.own 6 b6 _ _ O).2.elim id False.elim,by rw[show EN2 (some (a,b))=OR0 (OR0 (cG a.2++cG a.1) 128#8) 32#8 from by rw[Ml,hl];rfl];exact (hw.own 6 b6 _ _ O).1⟩)
  ·refine Cbl false O ent49 (mM _) (hl)<|aa<|aC O<|ap<|Xp<|Mv O<|Asg O<|aa<|ak<|Rr<|?_
   exact aE O O (λw hw=>⟨b6,rfl,ab hw,(hw.own 6 b6 _ _ O).2.elim id False.elim,by rw[show EN2 (some (a,b))=OR0 (cG a.2++cG a.1) 128#8 from by rw[Ml,hl];rfl];exact (hw.own 6 b6 _ _ O).1⟩)
end
section
open Go.RowKit
attribute [local simp] a6 bv aH aA aQ aY aR aK aM PLl cJ cH N1l cI cL cK bf bB a7 bu J1.bx J2.bx ca ft eD eZ
attribute [local simp] fP
attribute [local simp] jo
theorem ent12:ai prog 12:=λ_ _=>kr
theorem ent11:ai prog 11:=λ_ _=>kr
theorem PO(x:Zr)(b:Nat)(t:TypeId)(w:World)(hw:Gt w)(ho:OwnB w b ((pW x).map U8) t):CLS 44 [.slice (spt b) 32 32].toArray w (λr w'=>r=.returned (.tuple #[NV (nr x),.bool true])/\Grow w w'):=by
 have h:=nK (spt b) 32 (pW x) w hw (BytesAt.range ho.range);rw[jo,if_neg dc,Dl]at h;exact h
theorem LR(x:Zr):PUR 13 [RV x] (NV (nr x)):=by
 intro w hw;refine Hf func13 O hw<|λhGF=>Xp<|Bx 1 hGF O<|λb1=>Al 2 hGF zv37<|λb2=>aa<|Xp<|La 1 O O io<|Ca O (u2 x)<|Al 3 hGF zv98<|λb3=>az 3 hGF O O O sizeOf98 sm sm (bY _) O<|aa<|Xp<|bP (l:=0) (h':=32) O underlying98 sizeOf5 O O dc dc O O<|Cc O ent44 (λw' hC hG=>PO x _ _ w' hG (hC.own 3 _ _ _ O).1)<|Mv O<|Ext O O<|Ext O O<|Al 4 hGF zv37<|λb4=>Sa 4 hGF O O O ce<|Asg O<|aa<|Xp<|La 4 O O ce<|Sa 2 hGF O O O ce<|aa<|ak<|Rr<|?_;exact au 2 O O O isAgg37 sizeOf37 sm (λw hw=>⟨rfl,ab hw⟩)
theorem CR(a:L6)(ha:a.length=6)(w:World)(hw:Gt w):CLS 12 [aJ (a)].toArray w (λe w'=> ∃bm i,i<=47/\(∀j,j<i->(BYs a 48).getD j 0#8=0#8)/\e=.returned (.slice (some ⟨bm,i,none⟩) (48-i) (48-i))/\Grow w w'/\w.heap.size<=bm/\OwnB w' bm ((BYs a 48).map U8) 29):=by
 refine Hf func12 O hw<|λhGF=>Xp<|Bx 1 hGF O<|λb1=>Asg O<|aa<|Xp<|bS 1 O O isAgg37 sizeOf37 (by simp[ha]) O O<|Ca O (fF a ha)<|Al 3 hGF zv29<|λb3=>az 3 hGF O O O sizeOf29 (by simp[aK]) sm (bY _) O<|aa<|Xp<|Asg O<|aa<|ae<|ah<|bG (ι:={i:Nat // i<=47/\∀j,j<i->(BYs a 48).getD j 0#8=0#8}) (λx=>[(1,pnt b1),(3,pnt b3),(4,I (x.1:Int))]) (λx=>[(1,b1,a.map U64,37),(3,b3,(BYs a 48).map U8,29)]) (λx=>47-x.1) ⟨0,om,λj hj=>absurd hj (Nat.not_lt_zero j)⟩ hGF trv trv<|?_
 rintro ⟨i,hi,hz⟩;dsimp only;refine ae<|Xp<|Mv O<|?_;rcases Bool.eq_false_or_eq_true (decide ((i:Int)<47))with h1|h1
 ·refine Bnb true O O (λ_=>av _ (i:Int) 47) (h1)<|Mv O<|Mv O<|Ek i O O underlying29 sizeOf5 O (by simp at h1;omega) O O<|?_
  refine bN (v:=U8 (BYs a 48)[i]!) O isAgg5 (λw' hw'=>by have:=(aG (n:=3) O w' hw') i (U8 (BYs a 48)[i]!) (by rw[List.getElem?_map,List.getElem?_eq_getElem (by rw[aK];simp at h1;omega),getElem!_pos (BYs a 48) i (by rw[aK];simp at h1;omega)];rfl);simpa using this) O O ?_
  rcases Bool.eq_false_or_eq_true ((BYs a 48)[i]! ==0#8)with h2|h2
  ·refine Bnb true O O (λ_=>cR _ (BYs a 48)[i]! 0#8) (h2)<|Pk O O O<|aa<|aP O<|ap<|ah<|Xq<|Mv O<|Bnr (v:=I (((i+1:Nat):Int))) O O (λ_=>(aq _ _ _ oi).trans rr)<|Asg O<|aa<|?_
   repeat (refine aL ?_)
   refine aB ?_;have hlt:i<47:=by simp at h1;omega
   exact ⟨rfl,⟨i+1,om,λj hj=>(Nat.lt_or_ge j i).elim (hz j) (λh=>by have e:j=i:=om;subst e;have h3:=beq_iff_eq.1 h2;rw[getElem!_pos (BYs a 48) j (by rw[aK];omega)]at h3;rw[List.getD_eq_getElem?_getD,List.getElem?_eq_getElem (by rw[aK];omega)];exact h3)⟩,_,by show 47-(i+1)<47-i;omega,rfl,trv,trv⟩
  ·refine Bnb false O O (λ_=>cR _ (BYs a 48)[i]! 0#8) (h2)<|Pk O O O<|aa<|aC O<|aU<|Xp<|Mv O<|bP (l:=i) (h':=48) O underlying29 sizeOf5 O O om om O O<|Asg O<|aa<|ak<|Rr<|?_
   exact aE O O (λw hw=>⟨b3,i,hi,hz,rfl,ab hw,(hw.own 3 b3 _ _ O).2.elim id False.elim,(hw.own 3 b3 _ _ O).1⟩)
 ·refine Bnb false O O (λ_=>av _ (i:Int) 47) (h1)<|Mv O<|Sk<|Sk<|Sk<|Sk<|Pk O O O<|aa<|aC O<|aU<|Xp<|Mv O<|bP (l:=i) (h':=48) O underlying29 sizeOf5 O O om om O O<|Asg O<|aa<|ak<|Rr<|?_
  exact aE O O (λw hw=>⟨b3,i,hi,hz,rfl,ab hw,(hw.own 3 b3 _ _ O).2.elim id False.elim,(hw.own 3 b3 _ _ O).1⟩)
theorem wl(ys:L8): ∀i,(∀j,j<i->ys.getD j 0#8=0#8)->BN ys i=0
 |0,_=>rfl
 |i+1,h=>by
  rw[BN,wl ys i (λj hj=>h j om),show ys.getD i 0=0#8 from h i om];rfl
theorem KX(x:Zr)(w:World)(hw:Gt w):CLS 12 [NV (nr x)].toArray w (λe w'=> ∃bm i ys,i<=47/\ys.length=48-i/\BN ys ys.length=x.val/\(BYs (nr x) 48).drop i=ys/\e=.returned (.slice (some ⟨bm,i,none⟩) (48-i) (48-i))/\Grow w w'/\w.heap.size<=bm/\OwnB w' bm ((BYs (nr x) 48).map U8) 29):=by
 refine (CR (nr x) (fP x) w hw).mono λe w' h=> ?_;obtain ⟨bm,i,hi,hz,he,hg,hb,ho⟩:=h;have hl:((BYs (nr x) 48).drop i).length=48-i:=by rw[List.length_drop,aK]
 refine ⟨bm,i,_,hi,hl, ?_,rfl,he,hg,hb,ho⟩;have k:=ql (BYs (nr x) 48) i (48-i);rw[show i+(48-i)=48 from by omega,lX _ (fP x) 48 O,vw,wl _ i hz,Nat.zero_mul,Nat.zero_add]at k
 rw[hl];exact k.symm
theorem Dn{w:World}{b i:Nat}{ys NB:L8}(hy:NB.drop i=ys)(h:w.rangeAt b 0 (NB.map U8)):BytesAt w (some ⟨b,i,none⟩) ys:=by
 subst hy;refine BytesAt.range λj v hv=> ?_;rw[List.map_drop,List.getElem?_drop]at hv;have k:=h (i+j) v hv
 rwa [Nat.zero_add]at k
theorem WL(w:World)(hw:Gt w):CLS 11 [].toArray w (λe w'=> ∃b,e=.returned (.slice (spt b) 43 43)/\Grow w w'/\w.heap.size<=b/\OwnB w' b (SUs.map U8) 5):=by
 refine Hf func11 O hw<|λhGF=>ac (E:=EE [1000022])<|Asg O<|aa<|ac (E:=EE [1000022])<|dV 1 SUs hGF O O O dc dc underlying22 sizeOf5 zeroValue5 O O<|λb1=>lV 1 O hGF O O underlying22 underlying5 O O<|Asg O<|aa<|ak<|Rr<|?_;exact aE O O (λw hw=>⟨b1,rfl,ab hw,(hw.own 1 b1 _ _ O).2.elim id False.elim,(hw.own 1 b1 _ _ O).1⟩)
end
section
open Go.RowKit
attribute [local simp] a6 bv aH aA aQ aY aR aK aM PLl cJ cH N1l cI cL cK bf bB a7 bu J1.bx J2.bx ca ft eD eZ
attribute [local simp] fP
theorem NJ{msg dst:L8}{A B:W2×W2}(h:Sw2 msg dst A B){Q:Pt W2}(hQ:Q=E2w.times (E2w.ad (some A) (some B)) HEF):E2w.jr (RHf A B) Q:=by
 rw[RHf];exact SV (O1 h) (E2w.jr_a (J2.go (s9 h.s0)) (J2.go (s9 h.s1)) (kQ A) (kQ B)) hQ.symm
theorem vk(e0:Option Addr)(cap0:Nat)(bs0:L8)(e1:Option Addr)(cap1:Nat)(bs1:L8)(h0: ¬bs0.length<=100)(w:World)(hw:Gt w):CLS 3 [.slice e0 bs0.length cap0,.slice e1 bs1.length cap1].toArray w (λr w'=>r=.returned (.bool true)/\Grow w w'):=by
 refine Hf func3 O hw<|λhGF=>ac (E:=EE [10,2000010,11,2000011,12,2000012,16,2000016])<|Asg O<|aa<|ae<|ac (E:=EE [10,2000010,11,2000011,12,2000012,16,2000016])<|Ca O (tV)<|bi O (λ_=>a5 _) O O<|aa<|aC O<|ap<|ae<|ac (E:=EE [10,2000010,11,2000011,12,2000012,16,2000016])<|Mv O<|bc O (λ_=>aF underlying22 _ _ _ _) O O<|Bnb true O O (λ_=>a9 _ _ _) (decide_eq_true om)<|Mv O<|Sk<|Sk<|Sk<|Pk O O O<|aa<|aP O<|ac (E:=EE [10,2000010,11,2000011,12,2000012,16,2000016])<|Asg O<|aa<|ak<|Rr<|?_;exact aE O O (λw hw=>⟨rfl,ab hw⟩)
theorem wH(e0:Option Addr)(cap0:Nat)(bs0:L8)(e1:Option Addr)(cap1:Nat)(bs1:L8)(h0:bs0.length<=100)(h1: ¬bs1.length<=300)(w:World)(hw:Gt w):CLS 3 [.slice e0 bs0.length cap0,.slice e1 bs1.length cap1].toArray w (λr w'=>r=.returned (.bool true)/\Grow w w'):=by
 refine Hf func3 O hw<|λhGF=>ac (E:=EE [10,2000010,11,2000011,12,2000012,16,2000016])<|Asg O<|aa<|ae<|ac (E:=EE [10,2000010,11,2000011,12,2000012,16,2000016])<|Ca O (tV)<|bi O (λ_=>a5 _) O O<|aa<|aC O<|ap<|ae<|ac (E:=EE [10,2000010,11,2000011,12,2000012,16,2000016])<|Mv O<|bc O (λ_=>aF underlying22 _ _ _ _) O O<|Bnb false O O (λ_=>a9 _ _ _) (decide_eq_false om)<|Mv O<|Mv O<|bc O (λ_=>aF underlying22 _ _ _ _) O O<|Bnb true O O (λ_=>a9 _ _ _) (decide_eq_true om)<|Pk O O O<|aa<|aP O<|ac (E:=EE [10,2000010,11,2000011,12,2000012,16,2000016])<|Asg O<|aa<|ak<|Rr<|?_;exact aE O O (λw hw=>⟨rfl,ab hw⟩)
theorem rO(e0:Option Addr)(cap0:Nat)(bs0:L8)(e1:Option Addr)(cap1:Nat)(bs1:L8)(h0:bs0.length<=100)(h1:bs1.length<=300)(w:World)(hw:Gt w)(hb0:BytesAt w e0 bs0)(hb1:BytesAt w e1 bs1)(x:Zr)(KB SB:L8)(lK:KB.length=48)(lS:SB.length=96)(J:W6)(G:W6)(K:J1.GP)(f:Int)(z:Bool)(N6:L6)(NB:L8)(hZ:PUR 19 [RV x] (.bool z))(q1:(f==160)=z)(q2:(f==0)= !z)
 (hW: ∀w',Gt w'->BytesAt w' e0 bs0->CLS 6 [.slice e0 bs0.length cap0].toArray w' (λr w''=>r=.returned (RV x)/\Grow w' w'')) (hP:PUR 7 [RV x] (.agg ((KB).map U8).toArray))
 (hS: ∀w',Gt w'->BytesAt w' e1 bs1->CLS 8 [RV x,.slice e1 bs1.length cap1].toArray w' (λr w''=>r=.returned (.tuple #[.agg ((SB).map U8).toArray,I 0])/\Grow w' w''))
 (hH: ∀(bm bq:Nat) (w':World),Gt w'->OwnB w' bm (Sh.MK.map U32) 94->BytesAt w' e1 bs1->BytesAt w' (spt bq) SUs->CLS 9 [pnt bm,.slice e1 bs1.length cap1,.slice (spt bq) 43 43].toArray w' (λr w''=>r=.returned (.tuple #[EV6 J,I 0])/\Grow w' w''))
 (hV:PUR 14 [.agg ((KB).map U8).toArray] (.tuple #[J1.PtV K,I f])) (hI:PUR 20 [J1.PtV K] (.bool z))
 (hGn:PUR 17 [.bool false] (EV6 G)) (hN:PUR 13 [RV x] (NV N6)) (hSc: ∀w',Gt w'->CLS 12 [NV N6].toArray w' (λe w''=> ∃bm i ys,i<=47/\ys.length=48-i/\BN ys ys.length=x.val/\NB.drop i=ys/\e=.returned (.slice (some ⟨bm,i,none⟩) (48-i) (48-i))/\Grow w' w''/\w'.heap.size<=bm/\OwnB w'' bm (NB.map U8) 29))
 (hE: ∀(ys:L8) (Y:W6),BN ys ys.length=x.val->RMJ G ys (8*ys.length)=Y->∀w',Gt w'->CLS 16 [EV6 Y,.bool false].toArray w' (λe w''=> ∃bm,e=.returned (.slice (spt bm) 48 48)/\Grow w' w''/\w'.heap.size<=bm/\OwnB w'' bm (KB.map U8) 5))
 (hE': ∀(ys:L8) (Y:W6),BN ys ys.length=x.val->RMJ J ys (8*ys.length)=Y->∀w',Gt w'->CLS 16 [EV6 Y,.bool true].toArray w' (λe w''=> ∃bm,e=.returned (.slice (spt bm) 96 96)/\Grow w' w''/\w'.heap.size<=bm/\OwnB w'' bm (SB.map U8) 5)):CLS 3 [.slice e0 bs0.length cap0,.slice e1 bs1.length cap1].toArray w (λr w'=>r=.returned (.bool true)/\Grow w w'):=by
 refine Hf func3 O hw<|λhGF=>ac (E:=EE [10,2000010,11,2000011,12,2000012,16,2000016])<|Asg O<|aa<|ae<|ac (E:=EE [10,2000010,11,2000011,12,2000012,16,2000016])<|Ca O (tV)<|bi O (λ_=>a5 _) O O<|aa<|aC O<|ap<|ae<|ac (E:=EE [10,2000010,11,2000011,12,2000012,16,2000016])<|Mv O<|bc O (λ_=>aF underlying22 _ _ _ _) O O<|Bnb false O O (λ_=>a9 _ _ _) (decide_eq_false om)<|Mv O<|Mv O<|bc O (λ_=>aF underlying22 _ _ _ _) O O<|Bnb false O O (λ_=>a9 _ _ _) (decide_eq_false om)<|Pk O O O<|aa<|aC O<|ap<|ac (E:=EE [10,2000010,11,2000011,12,2000012,16,2000016])<|Mv O<|Cc O ent6 (λw' hC hG=>hW w' hG (hb0.grow (ab hC)))<|Al 5 hGF zv27<|λb5=>Sa 5 hGF O O O io<|aa<|ac (E:=EE [10,2000010,11,2000011,12,2000012,16,2000016])<|La 5 O O io<|Ca O (hP)<|Al 6 hGF zv30<|λb6=>az 6 hGF O O O sizeOf30 (by simp[*]) sm (bY _) O<|aa<|ac (E:=EE [10,2000010,11,2000011,12,2000012,16,2000016])<|La 5 O O io<|Mv O<|Cc O ent8 (λw' hC hG=>hS w' hG (hb1.grow (ab hC)))<|?_
 refine Mv O<|Ext O O<|Ext O O<|Al 7 hGF zv33<|λb7=>az 7 hGF O O O sizeOf33 (by simp[*]) sm (bY _) O<|Asg O<|aa<|ac (E:=EE [10,2000010,11,2000011,12,2000012,16,2000016])<|?_
 refine bK O O ent10 O O (λw' hw'=>(Sh.CD w' (hGF.g _ _ _ hw')).mono λe' w'' h=> ?_);obtain ⟨bm,rfl,hg,h1,ho⟩:=h;refine ⟨_,_,rfl,ay hGF,hw'.news am hg [(934,bm,Sh.MK.map U32,94)] ?_ bQ,bO am O, ?_⟩
 ·intro n' b' c' t' hl
  rcases aI hl with ⟨_,e⟩|⟨_,hl⟩
  ·cases e;exact ⟨h1,ho⟩
  ·cases hl
 clear hw' hg h1 ho;refine Mv O ?_;refine bK O O ent11 O O (λw' hw'=>(WL w' (hGF.g _ _ _ hw')).mono λe' w'' h=> ?_);obtain ⟨bq,rfl,hg,h1,ho⟩:=h;refine ⟨_,_,rfl,ay hGF,hw'.news am hg [(935,bq,SUs.map U8,5)] ?_ bQ,bO am O, ?_⟩
 ·intro n' b' c' t' hl
  rcases aI hl with ⟨_,e⟩|⟨_,hl⟩
  ·cases e;exact ⟨h1,ho⟩
  ·cases hl
 clear hw' hg h1 ho;refine Cc O ent9 (λw' hC hG=>hH bm bq w' hG (hC.own 934 _ _ _ O).1 (hb1.grow (ab hC)) (BytesAt.range (aG (n:=935) O w' hC)))<|Mv O<|Ext O O<|Ext O O<|Al 9 hGF zv43<|λb9=>Sa 9 hGF O O O jL<|Asg O<|aa<|ac (E:=EE [10,2000010,11,2000011,12,2000012,16,2000016])<|La 5 O O io<|Ca O (hN)<|?_;refine bK O O ent12 O O (λw' hw'=>(hSc w' (hGF.g _ _ _ hw')).mono λe' w'' h=> ?_);obtain ⟨bt,i,ys,hi,hl,hn,hd,rfl,hg,h2,ho⟩:=h;refine ⟨_,_,rfl,ay hGF,hw'.news am hg [(936,bt,NB.map U8,29)] ?_ bQ,bO am O, ?_⟩
 ·intro n' b' c' t' hl
  rcases aI hl with ⟨_,e⟩|⟨_,hl⟩
  ·cases e;exact ⟨h2,ho⟩
  ·cases hl
 clear hw' hg h2 ho;obtain ⟨Y1,hY1⟩: ∃Y,RMJ G ys (8*ys.length)=Y:=⟨_,rfl⟩;obtain ⟨Y2,hY2⟩: ∃Y,RMJ J ys (8*ys.length)=Y:=⟨_,rfl⟩;refine Asg O<|aa<|ac (E:=EE [10,2000010,11,2000011,12,2000012,16,2000016])<|bS 6 O O isAgg30 sizeOf30 (by simp[*]) O O<|Ca O (hV)<|Mv O<|Ext O O<|Ext O O<|Al 12 hGF J1.zv54<|λb12=>Sa 12 hGF O O O cj<|Asg O<|aa<|Xd [10,2000010,11,2000011,12,2000012,16,2000016]<|Mv O<|Bnb true O O (λ_=>dO _ _ _) (rfl)<|Mv O<|bP (l:=0) (h':=48) O underlying30 sizeOf5 O O dc dc O O<|Ca O (hGn)<|Mv O<|Cc O ent18 (λw' hC hG=>yx _ _ _ ys (48-i) hl om _ hY1 w' hG (Dn hd (aG (n:=936) O w' hC)))<|?_
 refine bK O O ent16 O O (λw' hw'=>(hE ys Y1 hn hY1 w' (hGF.g _ _ _ hw')).mono λe' w'' h=> ?_);obtain ⟨bk,rfl,hg,h1,ho⟩:=h;refine ⟨_,_,rfl,ay hGF,hw'.news am hg [(937,bk,KB.map U8,5)] ?_ bQ,bO am O, ?_⟩
 ·intro n' b' c' t' hl
  rcases aI hl with ⟨_,e⟩|⟨_,hl⟩
  ·cases e;exact ⟨h1,ho⟩
  ·cases hl
 clear hw' hg h1 ho;refine Cc O ent15 (λw' hC hG=>qL KB _ _ _ _ _ _ lK lK w' hG (BytesAt.range (aG (n:=6) O w' hC)) (BytesAt.range (aG (n:=937) O w' hC)))<|Pk O O O<|Mv O<|bP (l:=0) (h':=96) O underlying33 sizeOf5 O O dc dc O O<|La 9 O O jL<|Mv O<|Cc O ent18 (λw' hC hG=>yx _ _ _ ys (48-i) hl om _ hY2 w' hG (Dn hd (aG (n:=936) O w' hC)))<|?_;refine bK O O ent16 O O (λw' hw'=>(hE' ys Y2 hn hY2 w' (hGF.g _ _ _ hw')).mono λe' w'' h=> ?_);obtain ⟨bg,rfl,hg,h1,ho⟩:=h;refine ⟨_,_,rfl,ay hGF,hw'.news am hg [(938,bg,SB.map U8,5)] ?_ bQ,bO am O, ?_⟩
 ·intro n' b' c' t' hl
  rcases aI hl with ⟨_,e⟩|⟨_,hl⟩
  ·cases e;exact ⟨h1,ho⟩
  ·cases hl
 clear hw' hg h1 ho;refine Cc O ent15 (λw' hC hG=>qL SB _ _ _ _ _ _ lS lS w' hG (BytesAt.range (aG (n:=7) O w' hC)) (BytesAt.range (aG (n:=938) O w' hC)))<|Pk O O O<|Mv O<|Mv O<|Bnr (v:=.bool z) O O (λ_=>(dO _ _ _).trans (by rw[q1]))<|La 5 O O io<|Ca O (hZ)<|Bnr (v:=.bool true) O O (λw'=>(iy _ underlying4 z z w').trans (by rw[beq_self_eq_true]))<|Pk O O O<|Mv O<|Mv O<|Bnr (v:=.bool (!z)) O O (λ_=>(dO _ _ _).trans (by rw[q2]))<|La 5 O O io<|Ca O (hZ)<|bi (v:=.bool !z) O (λ_=>a5 z) O O<|Bnr (v:=.bool true) O O (λw'=>(iy _ underlying4 (!z) (!z) w').trans (by rw[beq_self_eq_true]))<|Pk O O O<|Mv O<|La 12 O O cj<|Ca O (hI)<|La 5 O O io<|Ca O (hZ)<|Bnr (v:=.bool true) O O (λw'=>(iy _ underlying4 z z w').trans (by rw[beq_self_eq_true]))<|Pk O O O<|Asg O<|aa<|ak<|Rr<|?_
 exact aE O O (λw hw=>⟨rfl,ab hw⟩)
theorem EU{msg:L8}(h:msg.length<=65536): ¬Xm.FBad msg SUs 2:=by
 rintro (h'|h'|h'|h')
 ·revert h';decide
 ·revert h';decide
 ·revert h';decide
 ·omega
theorem PZ(e0:Option Addr)(cap0:Nat)(bs0:L8)(e1:Option Addr)(cap1:Nat)(bs1:L8)(hc0:bs0.length<=cap0)(hc1:bs1.length<=cap1)(w:World)(hw:Gt w)(hb0:BytesAt w e0 bs0)(hb1:BytesAt w e1 bs1):CLS 3 [.slice e0 bs0.length cap0,.slice e1 bs1.length cap1].toArray w (λr w'=>r=.returned (.bool true)/\Grow w w'):=by
 by_cases h0:bs0.length<=100
 case neg=>exact vk e0 cap0 bs0 e1 cap1 bs1 h0 w hw
 by_cases h1:bs1.length<=300
 case neg=>exact wH e0 cap0 bs0 e1 cap1 bs1 h0 h1 w hw
 have hm:bs1.length<=65536:=om;have hn0:bs0.length<=1000000:=om;have hn1:bs1.length<=65600:=om;obtain ⟨A,B,hs⟩:=H6 bs1 SUs;obtain ⟨H,hH,hc⟩:=phs.ok _ _ _ _ (EU hm) hs;have hM:Ms bs1 H 0:=⟨hc⟩;have hJ:E2w.jr (RHf A B) H.P:=NJ hs hH;have hR:=λ(bm bq:Nat) (w':World) (hG:Gt w') ho hb hq=>HE bm e1 cap1 bs1 (spt bq) 43 SUs w' hG ho hb hq (EU hm) hs;have hW:=λw' hG hb=>vo e0 cap0 bs0 hn0 hc0 w' hG hb;revert hW hJ hR;generalize QB bs0=x;generalize RHf A B=J;intro hJ hR hW;have sg:=λw' hG hb=>wG x bs1 H hM e1 cap1 w' hn1 hc1 hG hb;have hE: ∀(ys:L8) (Y:W6),BN ys ys.length=x.val->RMJ (RJ (some G1p)) ys (8*ys.length)=Y->∀w',Gt w'->CLS 16 [EV6 Y,.bool false].toArray w' (λe w''=> ∃bm,e=.returned (.slice (spt bm) 48 48)/\Grow w' w''/\w'.heap.size<=bm/\OwnB w'' bm ((EN1 (Kx x.val)).map U8) 5):=λys Y hn hY w' hG=>by
  have k:=J1.Qf ph ys ys.length;rw[hY,hn]at k;exact Iz Y (Kx x.val) k w' hG
 have hE': ∀(ys:L8) (Y:W6),BN ys ys.length=x.val->RMJ J ys (8*ys.length)=Y->∀w',Gt w'->CLS 16 [EV6 Y,.bool true].toArray w' (λe w''=> ∃bm,e=.returned (.slice (spt bm) 96 96)/\Grow w' w''/\w'.heap.size<=bm/\OwnB w'' bm ((EN2 (E2w.times H.P x.val)).map U8) 5):=λys Y hn hY w' hG=>
  JH Y _ (Lc H.on hJ ys x.val hn Y hY.symm O) w' hG
 have kZ:=ud x;by_cases hx:x=0
 ·rw[decide_eq_true hx]at kZ
  exact rO e0 cap0 bs0 e1 cap1 bs1 h0 h1 w hw hb0 hb1 x (EN1 (Kx x.val)) (EN2 (E2w.times H.P x.val)) (eD _) (eZ _) J (RJ (some G1p)) J1.gInf 160 true (nr x) (BYs (nr x) 48) kZ O O hW (Dd x) sg hR (by rw[hx];exact zA) (by have k:=J1.oG J1.gInf;rw[show decide (J1.gInf.P=none)=true from O]at k;exact k) Eg (LR x) (KX x) hE hE'
 ·rw[decide_eq_false hx]at kZ
  have hK: ¬Kx x.val=none:=Dz (Nat.pos_of_ne_zero λe=>hx (Fin.ext e)) (Vi x);exact rO e0 cap0 bs0 e1 cap1 bs1 h0 h1 w hw hb0 hb1 x (EN1 (Kx x.val)) (EN2 (E2w.times H.P x.val)) (eD _) (eZ _) J (RJ (some G1p)) _ 0 false (nr x) (BYs (nr x) 48) kZ O O hW (Dd x) sg hR (xZ hK) (by have k:=J1.oG (cA1 (Kx x.val) (n4 (o0 (ss x.val) (r8 x.val))));rw[show decide ((cA1 (Kx x.val) (n4 (o0 (ss x.val) (r8 x.val)))).P=none)=false from decide_eq_false hK]at k;exact k) Eg (LR x) (KX x) hE hE'
end
end Go.Proofs.YtjookodjbjabbaaGreatDoor
