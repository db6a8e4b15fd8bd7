/- L16 -/
import Derived.Test.YtfgacclgjklgnaaGreatDoorL15
import Derived.Test.YtfgacclgjklgnaaGreatDoorXW
import Derived.Test.YtfgacclgjklgnaaGreatDoorX3
set_option maxRecDepth 100000
set_option maxHeartbeats 1000000
namespace Go.Proofs.YtfgacclgjklgnaaGreatDoor
open Go.Proofs.Tryz
section
open Go.RowKit
attribute [local simp] aV ba aT aO aD bd aK aJ aA PLl cv cw N1l cu cr cq a7 bc aP aZ a9 J1.bi J2.bi bJ fh ft fR
attribute [local simp] iq
def Kx(x:Nat):Pt Zp:=E1.times (some G1p) x
theorem yA(x:Nat):E1.onP (Kx x):=E1.times_on gK x
theorem GZ(x:Nat):E1.times (Kx x) ORD=none:=E1.times_ord gK kd x
theorem De{x:Nat}(h0:0<x)(h1:x<ORD): ¬Kx x=none:=fun e=>by
 have k:=E1.times_inj (Q:=some G1p) uT (fun _=>hrO) kd (fun e=>by cases e) (m:=x) (n:=0) h1 om e
 omega
theorem NN{Q:Pt W2}(hQ:E2w.onP Q)(hq:E2w.times Q ORD=none)(hn: ¬Q=none){m n:Nat}(hm:m<ORD)(hn':n<ORD)(h: ¬m=n): ¬E2w.times Q m=E2w.times Q n:=fun e=>h (E2w.times_inj hQ (fun _=>hrO) hq hn hm hn' e)
theorem T8{p:Nat→J1.GP}{f:Nat→Nat}: ∀{n:Nat},(∀i,i<n→(p i).P=Kx (f i))→(J1.gSm p n).P=Kx ((List.range n).map f).sum
 |0,_=>rfl
 |n+1,h=>by
  rw[List.range_succ,List.map_append,List.sum_append_nat]
  show E1.ad (J1.gSm p n).P (p n).P=_
  rw[T8 fun i hi=>h i om,h n om,Kx,Kx,←E1.times_add gK]
  simp[Kx]
theorem CC{x:Nat}(h: ¬Kx x=none):PUR 20 [.agg ((EN1 (Kx x)).map U8).toArray] (.tuple #[J1.PtV (cA1 (Kx x) (qL (uR (yA x) (GZ x)))),I 0]):=Nr _ (ft _) _ h (uR (yA x) (GZ x))
theorem M9: ¬Xm.FBad Xm.mmm SUs 2:=by
 rintro (h|h|h|h)<;>revert h<;>decide
theorem Tc: ∃p:J2.GP,Ms [109#8] p 0∧¬p.P=none:=by
 obtain ⟨A,B,hs⟩:=Qo Xm.mmm SUs
 obtain ⟨p,hp,hc⟩:=phs.ok _ _ _ _ M9 hs
 refine ⟨p,⟨hc,in_r (Mq hs) hp⟩, ?_⟩
 obtain ⟨⟨x,r,h0,rfl⟩,x',r',h1,rfl⟩:=hs
 rw[show U2n Xm.mmm SUs 0=tC from Xm.mm_0]at h0 hp
 rw[show U2n Xm.mmm SUs 1=tG from Xm.mm_1]at h1 hp
 obtain ⟨y,hy⟩:=Rc h0 h1
 rw[hp,hy]
 exact fun e=>by cases e
def k2(A B:L8):Nat→L8
 |0=>A
 |_=>B
theorem k2_0(A B:L8):k2 A B 0=A:=rfl
theorem k2_1(A B:L8):k2 A B 1=B:=rfl
theorem vG{A B:L8}{s:Nat}(ha:A.length=s)(hb:B.length=s): ∀i,(k2 A B i).length=s
 |0=>ha
 |_+1=>hb
theorem ns{w:World}{b s n:Nat}{K:Nat→L8}(h:w.rangeAt b 0 ((RW s K n).map U8))(hl: ∀i,(K i).length=s):KsAt w b s n K:=fun i hi=>iE h hi (hl i)
theorem KsAt.less{w:World}{b s n m:Nat}{K:Nat→L8}(h:KsAt w b s n K)(hm:m≤n):KsAt w b s m K:=fun i hi=>h i om
theorem Er(a b e:Zr)(A B E Z S:L8)(lA:A.length=48)(lB:B.length=48)(lS:S.length=96)(hA:PUR 28 [U64 3#64] (RV a))(hB:PUR 28 [U64 5#64] (RV b))(hE:PUR 28 [U64 8#64] (RV e))(hpA:PUR 13 [RV a] (.agg ((A).map U8).toArray))(hpB:PUR 13 [RV b] (.agg ((B).map U8).toArray))(hpE:PUR 13 [RV e] (.agg ((E).map U8).toArray))(hpZ:PUR 13 [aR (List.replicate 6 (0#64))] (.agg ((Z).map U8).toArray))(hS: ∀(bm:Nat) (w':World),Gt w'→BytesAt w' (spt bm) [109#8]→CLS 14 [RV (a+b),.slice (spt bm) 1 1].toArray w' (fun r w''=>r=.returned (.tuple #[.agg ((S).map U8).toArray,I 0])∧Grow w' w''))(hF: ∀(d:Nat) (bm:Nat) (w':World),Gt w'→KsAt w' d 48 2 (k2 A B)→BytesAt w' (spt bm) [109#8]→CLS 37 [.slice (spt d) 2 2,.slice (spt bm) 1 1,.agg ((S).map U8).toArray].toArray w' (fun r w''=>r=.returned (I 0)∧Grow w' w''))(hF': ∀(d:Nat) (bm:Nat) (w':World),Gt w'→KsAt w' d 48 2 (k2 A B)→BytesAt w' (spt bm) [109#8]→CLS 37 [.slice (spt d) 1 2,.slice (spt bm) 1 1,.agg ((S).map U8).toArray].toArray w' (fun r w''=>r=.returned (I 162)∧Grow w' w''))(hV: ∀(bm:Nat) (w':World),Gt w'→BytesAt w' (spt bm) [109#8]→CLS 29 [.agg ((E).map U8).toArray,.slice (spt bm) 1 1,.agg ((S).map U8).toArray].toArray w' (fun r w''=>r=.returned (I 0)∧Grow w' w''))(hK:PUR 20 [.agg ((Z).map U8).toArray] (.tuple #[J1.PtV J1.ch,I 160]))(hN: ∀w',Gt w'→CLS 33 [.slice none 0 0].toArray w' (fun r w''=>r=.returned (.tuple #[.agg ((List.replicate 48 (0#8)).map U8).toArray,I 161])∧Grow w' w'')):PUR 11 [] (.bool true):=by
 intro w hw
 refine Hf func11 rfl hw<|fun hGF=>ac (E:=EE [1000022])<|Asg rfl<|aa<|ac (E:=EE [1000022])<|Ca rfl (hA)<|Ca rfl (hB)<|Al 1 hGF zv27<|fun b1=>Al 2 hGF zv27<|fun b2=>Sa 1 hGF rfl rfl rfl mS<|Sa 2 hGF rfl rfl rfl mS<|aa<|ac (E:=EE [1000022])<|iw 16 [109#8] hGF rfl rfl rfl dc dc underlying22 sizeOf5 zeroValue5 rfl rfl<|fun b16=>mC 16 rfl hGF rfl rfl underlying22 underlying5 rfl rfl<|Asg rfl<|aa<|ac (E:=EE [1000022])<|La 1 rfl rfl mS<|La 2 rfl rfl mS<|Ca rfl (zZ a b)<|Mv rfl<|Cc rfl ent14 (fun w' hC hG=>hS b16 w' hG (BytesAt.range (aM (n:=16) rfl w' hC)))<|Mv rfl<|Ext rfl rfl<|Ext rfl rfl<|Al 4 hGF zv33<|fun b4=>aw 4 hGF rfl rfl rfl sizeOf33 (by simp[*]) sm (bC _) rfl<|Asg rfl<|aa<|Xd [1000022]<|La 1 rfl rfl mS<|Ca rfl (hpA)<|La 2 rfl rfl mS<|Ca rfl (hpB)<|pG (s:=48) 30 (k2 A B) (List.replicate 48 (0#8)) hGF rfl rfl rfl (fun i _=>vG lA lB i) dc dc underlying69 sizeOf30 sm zv30 rfl rfl<|fun b30=>Asg rfl<|aa<|ac (E:=EE [1000022])<|Mv rfl<|?_
 refine Mv rfl<|cf 4 rfl rfl isAgg33 sizeOf33 (by simp[*]) rfl rfl<|Cc rfl ent37 (fun w' hC hG=>hF b30 b16 w' hG (ns (aM (n:=30) rfl w' hC) (vG lA lB)) (BytesAt.range (aM (n:=16) rfl w' hC)))<|Asg rfl<|aa<|Xd [1000022]<|Mv rfl<|nY (l:=0) (h':=1) rfl underlying69 sizeOf30 rfl rfl om rfl rfl<|Mv rfl<|cf 4 rfl rfl isAgg33 sizeOf33 (by simp[*]) rfl rfl<|Cc rfl ent37 (fun w' hC hG=>hF' b30 b16 w' hG (ns (aM (n:=30) rfl w' hC) (vG lA lB)) (BytesAt.range (aM (n:=16) rfl w' hC)))<|Asg rfl<|aa<|Xd [1000022]<|Ca rfl (hE)<|Ca rfl (hpE)<|Mv rfl<|cf 4 rfl rfl isAgg33 sizeOf33 (by simp[*]) rfl rfl<|Cc rfl ent29 (fun w' hC hG=>hV b16 w' hG (BytesAt.range (aM (n:=16) rfl w' hC)))<|Asg rfl<|aa<|ac (E:=EE [1000022])<|fC zv27 underlying27 (pq sizeOf25) rfl rfl<|Ca rfl (hpZ)<|Ca rfl (hK)<|Mv rfl<|Ext rfl rfl<|Ext rfl rfl<|Al 10 hGF J1.zv54<|fun b10=>Sa 10 hGF rfl rfl rfl bM<|Asg rfl<|aa<|ac (E:=EE [1000022])<|Cc rfl ent33 (fun w' hC hG=>hN w' hG)<|Mv rfl<|Ext rfl rfl<|Ext rfl rfl<|Al 12 hGF zv30<|fun b12=>aw 12 hGF rfl rfl rfl sizeOf30 (by simp[*]) sm (bC _) rfl<|Asg rfl<|?_
 refine aa<|ac (E:=EE [1000022])<|Mv rfl<|Mv rfl<|Bnr (v:=I 0) rfl rfl (fun _=>ay _ _ _ oi)<|Mv rfl<|Bnr (v:=I 0) rfl rfl (fun _=>ay _ _ _ oi)<|Bnb true rfl rfl (fun _=>bT _ _ _) (rfl)<|Mv rfl<|Mv rfl<|Bnb true rfl rfl (fun _=>bT _ _ _) (rfl)<|Pk rfl rfl rfl<|Mv rfl<|Mv rfl<|Bnb true rfl rfl (fun _=>bT _ _ _) (rfl)<|Pk rfl rfl rfl<|Mv rfl<|Mv rfl<|Bnb true rfl rfl (fun _=>bT _ _ _) (rfl)<|Pk rfl rfl rfl<|Asg rfl<|aa<|am<|Rr<|?_
 exact aH rfl rfl (fun w hw=>⟨rfl,ae hw⟩)
theorem DZ(n:Nat)(h0:0<n)(hn:n≤512)(K:Nat→L8)(f:Nat→Nat)(hK: ∀i,i<n→K i=EN1 (Kx (f i))∧¬Kx (f i)=none): ∃P:J1.GP,P.P=Kx ((List.range n).map f).sum∧∀(b cap:Nat) (w:World),Gt w→KsAt w b 48 n K→CLS 70 [.slice (spt b) n cap,.func (.func 20) #[] #[]].toArray w (fun r w'=>r=.returned (.tuple #[J1.PtV P,I 0])∧Grow w w'):=by
 let p:Nat→J1.GP:=fun i=>cA1 (Kx (f i)) (qL (uR (yA _) (GZ _)))
 refine ⟨J1.gSm p n,T8 fun i _=>rfl,fun b cap w hw hk=> ?_⟩
 have k:=J1.rQ n h0 hn K p (fun _=>0) (fun i hi=>⟨by rw[(hK i hi).1];exact ft _,by rw[(hK i hi).1];exact CC (hK i hi).2⟩) n (Nat.le_refl _) (fun _ _=>rfl) (fun h=>absurd h (Nat.lt_irrefl _)) b cap w hw hk
 rw[if_pos rfl,if_pos rfl]at k
 exact k
theorem ve(n:Nat)(h0:0<n)(hn:n≤512)(K:Nat→L8)(f:Nat→Nat)(hK: ∀i,i<n→K i=EN1 (Kx (f i))∧¬Kx (f i)=none)(msg:L8)(H:J2.GP)(hM:Ms msg H 0)(hl:msg.length≤65600)(S:Pt W2)(oS:E2w.onP S)(rS:E2w.times S ORD=none)(e:Int)(he:(S=E2w.times H.P ((List.range n).map f).sum∧e=0)∨(¬S=E2w.times H.P ((List.range n).map f).sum∧e=162))(b c0:Nat)(a:Option Addr)(cap:Nat)(hc:msg.length≤cap)(w:World)(hw:Gt w)(hk:KsAt w b 48 n K)(hb:BytesAt w a msg):CLS 37 [.slice (spt b) n c0,.slice a msg.length cap,.agg ((EN2 S).map U8).toArray].toArray w (fun r w'=>r=.returned (I e)∧Grow w w'):=by
 obtain ⟨P,hP,hs⟩:=DZ n h0 hn K f hK
 exact UN w P (spt b) n c0 (fun w' hG hg=>hs b c0 w' hG (hk.up hg)) a msg.length cap (EN2 S) (fR _) e (fun w' hG hg=>EC P _ hP (EN2 S) (fR _) S (KM oS rS) rS msg H hM a cap hl hc e he w' hG (hb.grow hg)) hw
theorem I6(x:Nat)(hx: ¬Kx x=none)(msg:L8)(H:J2.GP)(hM:Ms msg H 0)(hl:msg.length≤65600)(S:Pt W2)(oS:E2w.onP S)(rS:E2w.times S ORD=none)(e:Int)(he:(S=E2w.times H.P x∧e=0)∨(¬S=E2w.times H.P x∧e=162))(a:Option Addr)(cap:Nat)(hc:msg.length≤cap)(w:World)(hw:Gt w)(hb:BytesAt w a msg):CLS 29 [.agg ((EN1 (Kx x)).map U8).toArray,.slice a msg.length cap,.agg ((EN2 S).map U8).toArray].toArray w (fun r w'=>r=.returned (I e)∧Grow w w'):=
 Se w (cA1 (Kx x) (qL (uR (yA x) (GZ x)))) (EN1 (Kx x)) (ft _) (CC hx) a msg.length cap (EN2 S) (fR _) e (fun w' hG hg=>EC _ x rfl (EN2 S) (fR _) S (KM oS rS) rS msg H hM a cap hl hc e he w' hG (hb.grow hg)) hw
theorem Ap(w:World)(hw:Gt w):CLS 33 [.slice none 0 0].toArray w (fun r w'=>r=.returned (.tuple #[.agg ((List.replicate 48 (0#8)).map U8).toArray,I 161])∧Grow w w'):=ot w J1.ch 161 dc none 0 0 (fun w' hG _=>J1.tY 0 rfl _ none 0 w' hG) hw
theorem IR:PUR 20 [.agg ((EN1 none).map U8).toArray] (.tuple #[J1.PtV J1.ch,I 160]):=I3 _ (ft _) none rfl (uR (P:=none) True.intro (E1.times_none ORD))
def fz:Nat→Nat
 |0=>3
 |_=>5
theorem yW:PUR 11 [] (.bool true):=by
 obtain ⟨H,hM,hH⟩:=Tc
 have e8:(zr (3#64).toNat+zr (5#64).toNat:Zr).val=8:=by decide+kernel
 have h3:(zr (3#64).toNat).val=3:=by decide+kernel
 have h5:(zr (5#64).toNat).val=5:=by decide+kernel
 have h8:(zr (8#64).toNat).val=8:=by decide+kernel
 have lt: ∀{k:Nat},k<100→k<ORD:=fun h=>Nat.lt_trans h (by decide+kernel)
 have pb: ∀(x:Zr) (k:Nat),x.val=k→PUR 13 [RV x] (.agg ((EN1 (Kx k)).map U8).toArray):=fun x k h=>by subst h;exact VB x
 have hK: ∀i,i<2→k2 (EN1 (Kx 3)) (EN1 (Kx 5)) i=EN1 (Kx (fz i))∧¬Kx (fz i)=none:=fun i hi=>by
  match i,hi with
  |0,_=>rw[show fz 0=3 from rfl];exact ⟨k2_0 _ _,De dc (lt dc)⟩
  |1,_=>rw[show fz 1=5 from rfl];exact ⟨k2_1 _ _,De dc (lt dc)⟩
 have oS:=E2w.times_on H.on 8
 have rS:=E2w.times_ord H.on hM.r 8
 refine Er _ _ _ (EN1 (Kx 3)) (EN1 (Kx 5)) (EN1 (Kx 8)) (EN1 none) (EN2 (E2w.times H.P 8)) (ft _) (ft _) (fR _) (o5 3#64) (o5 5#64) (o5 8#64) (pb _ 3 h3) (pb _ 5 h5) (pb _ 8 h8) ?_ ?_ ?_ ?_ ?_ IR Ap
 ·have k:=VB 0
  rw[RV,nr_0]at k
  exact k
 ·intro bm w' hG hb
  have k:=EB (zr (3#64).toNat+zr (5#64).toNat) [109#8] H hM (spt bm) 1 w' dc dc hG hb
  rw[show (J2.re H (zr (3#64).toNat+zr (5#64).toNat)).P=E2w.times H.P 8 from by rw[←e8];rfl]at k
  exact k
 ·intro d bm w' hG hk hb
  exact ve 2 dc dc _ fz hK [109#8] H hM dc _ oS rS 0 (.inl ⟨rfl,rfl⟩) d 2 _ 1 dc w' hG hk hb
 ·intro d bm w' hG hk hb
  exact ve 1 dc dc _ fz (fun i hi=>hK i om) [109#8] H hM dc _ oS rS 162 (.inr ⟨NN H.on hM.r hH (m:=8) (n:=3) (lt dc) (lt dc) dc,rfl⟩) d 2 _ 1 dc w' hG (hk.less dc) hb
 ·intro bm w' hG hb
  exact I6 8 (De dc (lt dc)) [109#8] H hM dc _ oS rS 0 (.inl ⟨rfl,rfl⟩) _ 1 dc w' hG hb
end
section
open Go.RowKit
attribute [local simp] aV ba aT aO aD bd aK aJ aA PLl cv cw N1l cu cr cq a7 bc aP aZ a9 J1.bi J2.bi bJ fh ft fR
attribute [local simp] iq
theorem uz{k n:Int}(hn:0<n)(h:k.tmod n<0):k.tmod n+n=k % n:=by
 rw[Int.tmod_eq_emod]at h⊢
 have:=Int.emod_nonneg k (by omega:n≠0)
 split at h
 ·omega
 ·rename_i h1
  rw[if_neg h1];omega
theorem BH{k n:Int}(hn:0<n)(h: ¬k.tmod n<0):k.tmod n=k % n:=by
 rw[Int.tmod_eq_emod]at h⊢
 have:=Int.emod_lt_of_pos k hn
 split at h
 ·rename_i h1
  rw[if_pos h1];omega
 ·omega
theorem qj(k n:Int)(hn:0<n)(hn':inI n):PUR 27 [I k,I n] (I (k % n)):=by
 intro w hw
 refine Hf func27 rfl hw<|fun hGF=>Xp<|Asg rfl<|aa<|Xp<|Mv rfl<|Mv rfl<|Bnr (v:=I (k.tmod n)) rfl rfl (fun _=>fF _ _ _ om)<|Asg rfl<|aa<|ah<|Xp<|Mv rfl<|Bnr rfl rfl (fun _=>aC _ _ _)<|aa<|?_
 refine bX rfl (fun hc=> ?_) (fun hc=> ?_)
 ·simp only[decide_eq_true_eq]at hc
  refine Xq<|Mv rfl<|Mv rfl<|Bnr (v:=I (k % n)) rfl rfl (fun _=>(ay _ _ _ (by rw[uz hn hc];unfold inI at*;have:=Int.emod_nonneg k (by omega:n≠0);have:=Int.emod_lt_of_pos k hn;omega)).trans (by rw[uz hn hc]))<|Asg rfl<|aa<|Xp<|Mv rfl<|Asg rfl<|aa<|am<|Rr<|?_
  exact aH rfl rfl (fun w hw=>⟨rfl,ae hw⟩)
 ·simp only[decide_eq_false_iff_not]at hc
  rw[BH hn hc]
  refine ap<|Xp<|Mv rfl<|Asg rfl<|aa<|am<|Rr<|?_
  exact aH rfl rfl (fun w hw=>⟨rfl,ae hw⟩)
theorem made(k:Nat):(madeCells (Value.int .u8 0).cells (k*1)).toList=(List.replicate k 0#8).map U8:=by
 refine List.ext_getElem? fun i=> ?_
 rw[Nat.mul_one,madeCells,Array.toList_map,List.getElem?_map,List.getElem?_map,Array.toList_range]
 by_cases h:i<k
 ·rw[List.getElem?_range h,List.getElem?_replicate,if_pos h]
  show some ((Value.int .u8 0).cells[i % 1]!)=_
  rw[Nat.mod_one];rfl
 ·rw[List.getElem?_eq_none (by rw[List.length_range];omega),List.getElem?_replicate,if_neg h];rfl
theorem uI{P:Program}{t e:TypeId}{n:Nat}{v:BitVec 8}(hu:P.underlying t=some (.array (n+1) e))(hs: ∀w,(sizeOf e).run P w=.ok 1 w)(hz: ∀w,(zeroValue t).run P w=.ok (.agg ((List.replicate (n+1) 0#8).map U8).toArray) w)(w:World):(Instr.build t #[(0,U8 v)]).run P w=.ok (.agg ((v::List.replicate n 0#8).map U8).toArray) w:=by
 simp[Instr.build,hz,run_underlying hu,hs,Value.cells,Instr.fill,List.replicate,U8]
theorem ti30:TI prog 30 (.agg ((List.replicate 48 0#8).map U8).toArray) 48 48:=rh kr
theorem ti33:TI prog 33 (.agg ((List.replicate 96 0#8).map U8).toArray) 96 96:=rh kr
def K17:L8:=17#8::List.replicate 47 0#8
def fM(i m:Nat):L8:=if m<i then K17 else List.replicate 48 0#8
theorem pI(i m:Nat):(fM i m).length=48:=by unfold fM;split<;>rfl
theorem DD{i m:Nat}(h:m<i):fM i m=K17:=if_pos h
theorem QN{i n:Nat}(hi:i<n):lay (0+48*i) (K17.map U8) ((RW 48 (fM i) n).map U8)=(RW 48 (fM (i+1)) n).map U8:=by
 rw[wH (s:=48) (uf:=U8) (fM i) n i K17 hi rfl (0+48*i) (Nat.zero_add _)]
 refine congrArg (List.map U8) (gT fun j _=> ?_)
 by_cases h:j=i
 ·rw[if_pos h,DD om]
 ·rw[if_neg h,fM,fM]
  by_cases h2:j<i
  ·rw[if_pos h2,if_pos om]
  ·rw[if_neg h2,if_neg om]
theorem mkK{t:TypeId}{zr:L8}{s k:Nat}{i:TypeInfo}(hs:zr.length=s)(h:prog.info? t=some i∧i.zero=some (.agg (zr.map U8).toArray)∧i.size=s∧i.bytes=s):(madeCells (Value.agg (zr.map U8).toArray).cells (k*i.size)).toList=(RW s (fun _=>zr) k).map U8:=by
 rw[h.2.2.1]
 exact congrArg Array.toList (vH (uf:=U8) zr hs k)
theorem IH{t:TypeId}{z:Value}{s k:Nat}{i:TypeInfo}(hk:k≤600)(hs:s≤96)(h:prog.info? t=some i∧i.zero=some z∧i.size=s∧i.bytes=s):k*i.size≤16777216∧i.bytes*k≤281474976710656∧k≤1000000:=by
 rw[h.2.2.1,h.2.2.2]
 have h1:=Nat.mul_le_mul hk hs
 have h2:=Nat.mul_le_mul hs hk
 omega
theorem fM_0(n:Nat):RW 48 (fun _=>List.replicate 48 0#8) n=RW 48 (fM 0) n:=gT fun i _=>(if_neg om).symm
theorem Rm{k:Nat}{i:TypeInfo}(h:prog.info? 30=some i∧i.zero=some (.agg ((List.replicate 48 0#8).map U8).toArray)∧i.size=48∧i.bytes=48):(madeCells (Value.agg ((List.replicate 48 0#8).map U8).toArray).cells (k*i.size)).toList=(RW 48 (fM 0) k).map U8:=by
 rw[←fM_0];exact mkK (s:=48) rfl h
theorem AV(z:Int)(m:Nat)(hm:511+z % 3=(m:Int))(hb:512<m)(hA: ∀(b:Nat) (w':World),Gt w'→KsAt w' b 48 m (fM m)→CLS 33 [.slice (spt b) m m].toArray w' (fun r w''=>r=.returned (.tuple #[.agg ((List.replicate 48 (0#8)).map U8).toArray,I 161])∧Grow w' w''))(hF: ∀(b:Nat) (w':World),Gt w'→KsAt w' b 48 m (fM m)→CLS 37 [.slice (spt b) m m,.slice none 0 0,.agg ((List.replicate 96 (0#8)).map U8).toArray].toArray w' (fun r w''=>r=.returned (I 161)∧Grow w' w''))(hG': ∀(b:Nat) (w':World),Gt w'→KsAt w' b 96 m (fun _=>List.replicate 96 0#8)→CLS 34 [.slice (spt b) m m].toArray w' (fun r w''=>r=.returned (.tuple #[.agg ((List.replicate 96 (0#8)).map U8).toArray,I 161])∧Grow w' w'')):PUR 9 [I z] (.bool true):=by
 intro w hw
 refine Hf func9 rfl hw<|fun hGF=>Xp<|Asg rfl<|aa<|ah<|Xp<|Ca rfl yW<|a5 rfl (fun _=>aL _) rfl rfl<|aa<|au rfl<|ap<|Xp<|Mv rfl<|Ca rfl (qj z 3 dc (by unfold inI;decide))<|Bnr (v:=I (m:Int)) rfl rfl (fun _=>(ay _ _ _ oi).trans (by rw[hm]))<|Asg rfl<|aa<|Xp<|Mv rfl<|mi (m:=m) 16 hGF rfl rfl underlying69 ti30.choose_spec.1 ti30.choose_spec.2.1 (IH om dc ti30.choose_spec) (Rm ti30.choose_spec) rfl rfl<|fun b16=>Asg rfl<|aa<|ah<|Xp<|Asg rfl<|aa<|aj<|cE (ι:={i:Nat // i≤m}) (fun y=>[(0,I (m:Int)),(3,.slice (spt b16) m m),(4,I (y.1:Int))]) (fun y=>[(16,b16,(RW 48 (fM y.1) m).map U8,30)]) (fun y=>m-y.1) ⟨0,Nat.zero_le _⟩ hGF trv trv<|?_
 rintro ⟨i,hi⟩
 dsimp only
 refine ah<|Xp<|Mv rfl<|Mv rfl<|Bnr rfl rfl (fun _=>aC _ _ _)<|aa<|?_
 refine bX rfl (fun hc=> ?_) (fun hc=> ?_)
 ·have hi2:i<m:=by simp at hc;omega
  refine ap<|ah<|aj<|Xq<|Mv rfl<|Mv rfl<|df (ps:=[(0,.const (.int .u8 17))]) (vs:=[U8 17#8]) rfl (fun w=>uI underlying30 sizeOf5 zv30 w) rfl rfl<|gL (s:=48) i rfl rfl underlying69 sizeOf30 om om rfl rfl<|gz 16 ((RW 48 (fM (i+1)) m).map U8) hGF rfl rfl rfl sizeOf30 sm (bC _) (by rw[List.length_map,List.length_map,cV];show 0+48*i+48≤_;omega) (QN hi2) rfl<|aa<|Xq<|Mv rfl<|Bnr rfl rfl (fun _=>ay _ _ _ oi)<|Asg rfl<|aa<|?_
  repeat (refine aY ?_)
  exact aU<|⟨rfl,⟨i+1,om⟩,_,by show m-(i+1)<m-i;omega,rfl,trv,trv⟩
 ·obtain rfl:m=i:=by simp at hc;omega
  refine a8<|Xp<|Mv rfl<|Cc rfl ent33 (fun w' hC hG=>hA b16 w' hG (ns (aM (n:=16) rfl w' hC) (pI m)))<|Mv rfl<|Ext rfl rfl<|Ext rfl rfl<|Al 5 hGF zv30<|fun b5=>aw 5 hGF rfl rfl rfl sizeOf30 sm sm (bC _) rfl<|Asg rfl<|aa<|Xp<|Mv rfl<|e9 zv33 underlying33 sizeOf5 rfl rfl<|Cc rfl ent37 (fun w' hC hG=>hF b16 w' hG (ns (aM (n:=16) rfl w' hC) (pI m)))<|Asg rfl<|aa<|Xp<|Mv rfl<|mi (m:=m) 36 hGF rfl rfl underlying72 ti33.choose_spec.1 ti33.choose_spec.2.1 (IH om dc ti33.choose_spec) (mkK rfl ti33.choose_spec) rfl rfl<|fun b36=>Cc rfl ent34 (fun w' hC hG=>hG' b36 w' hG (ns (aM (n:=36) rfl w' hC) (fun _=>rfl)))<|Mv rfl<|Ext rfl rfl<|Ext rfl rfl<|Al 8 hGF zv33<|fun b8=>aw 8 hGF rfl rfl rfl sizeOf33 sm sm (bC _) rfl<|Asg rfl<|aa<|ah<|Xp<|Mv rfl<|Bnb true rfl rfl (fun _=>bP _ _ _) (decide_eq_true om)<|aa<|aQ rfl<|Xp<|Mv rfl<|Bnb true rfl rfl (fun _=>bT _ _ _) (rfl)<|Mv rfl<|Mv rfl<|Bnb true rfl rfl (fun _=>bT _ _ _) (rfl)<|?_
  refine Pk rfl rfl rfl<|Mv rfl<|Mv rfl<|Bnb true rfl rfl (fun _=>bT _ _ _) (rfl)<|Pk rfl rfl rfl<|Asg rfl<|aa<|am<|Rr<|?_
  exact aH rfl rfl (fun w hw=>⟨rfl,ae hw⟩)
theorem Cx(z:Int)(m:Nat)(hm:511+z % 3=(m:Int))(hb:m≤512)(hA: ∀(b:Nat) (w':World),Gt w'→KsAt w' b 48 m (fM m)→CLS 33 [.slice (spt b) m m].toArray w' (fun r w''=>r=.returned (.tuple #[.agg ((List.replicate 48 (0#8)).map U8).toArray,I 101])∧Grow w' w''))(hF: ∀(b:Nat) (w':World),Gt w'→KsAt w' b 48 m (fM m)→CLS 37 [.slice (spt b) m m,.slice none 0 0,.agg ((List.replicate 96 (0#8)).map U8).toArray].toArray w' (fun r w''=>r=.returned (I 101)∧Grow w' w''))(hG': ∀(b:Nat) (w':World),Gt w'→KsAt w' b 96 m (fun _=>List.replicate 96 0#8)→CLS 34 [.slice (spt b) m m].toArray w' (fun r w''=>r=.returned (.tuple #[.agg ((List.replicate 96 (0#8)).map U8).toArray,I 101])∧Grow w' w'')):PUR 9 [I z] (.bool true):=by
 intro w hw
 refine Hf func9 rfl hw<|fun hGF=>Xp<|Asg rfl<|aa<|ah<|Xp<|Ca rfl yW<|a5 rfl (fun _=>aL _) rfl rfl<|aa<|au rfl<|ap<|Xp<|Mv rfl<|Ca rfl (qj z 3 dc (by unfold inI;decide))<|Bnr (v:=I (m:Int)) rfl rfl (fun _=>(ay _ _ _ oi).trans (by rw[hm]))<|Asg rfl<|aa<|Xp<|Mv rfl<|mi (m:=m) 16 hGF rfl rfl underlying69 ti30.choose_spec.1 ti30.choose_spec.2.1 (IH om dc ti30.choose_spec) (Rm ti30.choose_spec) rfl rfl<|fun b16=>Asg rfl<|aa<|ah<|Xp<|Asg rfl<|aa<|aj<|cE (ι:={i:Nat // i≤m}) (fun y=>[(0,I (m:Int)),(3,.slice (spt b16) m m),(4,I (y.1:Int))]) (fun y=>[(16,b16,(RW 48 (fM y.1) m).map U8,30)]) (fun y=>m-y.1) ⟨0,Nat.zero_le _⟩ hGF trv trv<|?_
 rintro ⟨i,hi⟩
 dsimp only
 refine ah<|Xp<|Mv rfl<|Mv rfl<|Bnr rfl rfl (fun _=>aC _ _ _)<|aa<|?_
 refine bX rfl (fun hc=> ?_) (fun hc=> ?_)
 ·have hi2:i<m:=by simp at hc;omega
  refine ap<|ah<|aj<|Xq<|Mv rfl<|Mv rfl<|df (ps:=[(0,.const (.int .u8 17))]) (vs:=[U8 17#8]) rfl (fun w=>uI underlying30 sizeOf5 zv30 w) rfl rfl<|gL (s:=48) i rfl rfl underlying69 sizeOf30 om om rfl rfl<|gz 16 ((RW 48 (fM (i+1)) m).map U8) hGF rfl rfl rfl sizeOf30 sm (bC _) (by rw[List.length_map,List.length_map,cV];show 0+48*i+48≤_;omega) (QN hi2) rfl<|aa<|Xq<|Mv rfl<|Bnr rfl rfl (fun _=>ay _ _ _ oi)<|Asg rfl<|aa<|?_
  repeat (refine aY ?_)
  exact aU<|⟨rfl,⟨i+1,om⟩,_,by show m-(i+1)<m-i;omega,rfl,trv,trv⟩
 ·obtain rfl:m=i:=by simp at hc;omega
  refine a8<|Xp<|Mv rfl<|Cc rfl ent33 (fun w' hC hG=>hA b16 w' hG (ns (aM (n:=16) rfl w' hC) (pI m)))<|Mv rfl<|Ext rfl rfl<|Ext rfl rfl<|Al 5 hGF zv30<|fun b5=>aw 5 hGF rfl rfl rfl sizeOf30 sm sm (bC _) rfl<|Asg rfl<|aa<|Xp<|Mv rfl<|e9 zv33 underlying33 sizeOf5 rfl rfl<|Cc rfl ent37 (fun w' hC hG=>hF b16 w' hG (ns (aM (n:=16) rfl w' hC) (pI m)))<|Asg rfl<|aa<|Xp<|Mv rfl<|mi (m:=m) 36 hGF rfl rfl underlying72 ti33.choose_spec.1 ti33.choose_spec.2.1 (IH om dc ti33.choose_spec) (mkK rfl ti33.choose_spec) rfl rfl<|fun b36=>Cc rfl ent34 (fun w' hC hG=>hG' b36 w' hG (ns (aM (n:=36) rfl w' hC) (fun _=>rfl)))<|Mv rfl<|Ext rfl rfl<|Ext rfl rfl<|Al 8 hGF zv33<|fun b8=>aw 8 hGF rfl rfl rfl sizeOf33 sm sm (bC _) rfl<|Asg rfl<|aa<|ah<|Xp<|Mv rfl<|Bnb false rfl rfl (fun _=>bP _ _ _) (decide_eq_false om)<|aa<|au rfl<|ap<|Xp<|Mv rfl<|Bnb true rfl rfl (fun _=>bT _ _ _) (rfl)<|Mv rfl<|Mv rfl<|?_
  refine Bnb true rfl rfl (fun _=>bT _ _ _) (rfl)<|Pk rfl rfl rfl<|Mv rfl<|Mv rfl<|Bnb true rfl rfl (fun _=>bT _ _ _) (rfl)<|Pk rfl rfl rfl<|Asg rfl<|aa<|am<|Rr<|?_
  exact aH rfl rfl (fun w hw=>⟨rfl,ae hw⟩)
theorem Vq:D1 K17 101 none:=.inr ⟨rfl,.inl ⟨dc,rfl,rfl⟩⟩
theorem Jn:D2 (List.replicate 96 0#8) 101 none:=.inr ⟨rfl,.inl ⟨dc,rfl,rfl⟩⟩
theorem T7(z:Int):PUR 9 [I z] (.bool true):=by
 obtain ⟨m,hm⟩: ∃m:Nat,511+z % 3=(m:Int):=⟨(511+z % 3).toNat,om⟩
 by_cases hb:512<m
 ·refine AV z m hm hb (fun b w' hG _=> ?_) (fun b w' hG _=> ?_) (fun b w' hG _=> ?_)
  ·exact ot w' J1.ch 161 dc _ m m (fun w1 hG1 _=>J1.lw m hb _ _ m w1 hG1) hG
  ·exact B4 w' J1.ch 161 dc _ m m (fun w1 hG1 _=>J1.lw m hb _ _ m w1 hG1) none 0 0 _ hG
  ·exact u2 w' J2.ch 161 dc _ m m (fun w1 hG1 _=>J2.lw m hb _ _ m w1 hG1) hG
 ·have s1: ∀(b:Nat) (w1:World),Gt w1→KsAt w1 b 48 m (fM m)→CLS 70 [.slice (spt b) m m,.func (.func 20) #[] #[]].toArray w1 (fun r w''=>r=.returned (.tuple #[J1.PtV J1.ch,I 101])∧Grow w1 w''):=fun b w1 hG1 hk=>by
   have k:=J1.rQ m om om (fM m) (fun _=>J1.ch) (fun _=>101) (fun i hi=>⟨pI _ _,by rw[DD hi];exact Im K17 rfl 101 dc none Vq⟩) 0 (Nat.zero_le _) (fun i hi=>absurd hi (Nat.not_lt_zero _)) (fun _=>dc) b m w1 hG1 hk
   rw[if_neg om,if_neg om]at k
   exact k
  have s2: ∀(b:Nat) (w1:World),Gt w1→KsAt w1 b 96 m (fun _=>List.replicate 96 0#8)→CLS 71 [.slice (spt b) m m,.func (.func 72) #[] #[]].toArray w1 (fun r w''=>r=.returned (.tuple #[J2.PtV J2.ch,I 101])∧Grow w1 w''):=fun b w1 hG1 hk=>by
   have k:=J2.rQ m om om (fun _=>List.replicate 96 0#8) (fun _=>cA2 none (jo Jn)) (fun _=>101) (fun i hi=>⟨rfl,P3 _ rfl 101 none Jn⟩) 0 (Nat.zero_le _) (fun i hi=>absurd hi (Nat.not_lt_zero _)) (fun _=>dc) b m w1 hG1 hk
   rw[if_neg om,if_neg om]at k
   exact k
  refine Cx z m hm om (fun b w' hG hk=> ?_) (fun b w' hG hk=> ?_) (fun b w' hG hk=> ?_)
  ·exact ot w' J1.ch 101 dc _ m m (fun w1 hG1 hg1=>s1 b w1 hG1 (hk.up hg1)) hG
  ·exact B4 w' J1.ch 101 dc _ m m (fun w1 hG1 hg1=>s1 b w1 hG1 (hk.up hg1)) none 0 0 _ hG
  ·exact u2 w' J2.ch 101 dc _ m m (fun w1 hG1 hg1=>s2 b w1 hG1 (hk.up hg1)) hG
end
end Go.Proofs.YtfgacclgjklgnaaGreatDoor
