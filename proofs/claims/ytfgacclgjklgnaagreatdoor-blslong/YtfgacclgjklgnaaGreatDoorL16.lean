/- L16 -/
import Derived.Test.YtfgacclgjklgnaaGreatDoorL15
import Derived.Test.YtfgacclgjklgnaaGreatDoorXW
import Derived.Test.YtfgacclgjklgnaaGreatDoorX3
set_option maxRecDepth 100000
set_option maxHeartbeats 1000000
namespace Go.Proofs.YtfgacclgjklgnaaGreatDoor
open Go.Proofs.Tryz
section
open Go.RowKit
attribute [local simp] aT a9 aR aM aC bd aJ aI aA PLl cq cn N1l ck cp cm a5 bc aP aX a8 J1.bf J2.bf bI fx eH eJ
attribute [local simp] ij
def Kx(x:Nat):Pt Zp:=E1.times (some G1p) x
theorem um(x:Nat):E1.onP (Kx x):=E1.times_on gH x
theorem Ft(x:Nat):E1.times (Kx x) ORD=none:=E1.times_ord gH jz x
theorem xP{x:Nat}(h0:0<x)(h1:x<ORD): ¬Kx x=none:=fun e=>by
 have k:=E1.times_inj (Q:=some G1p) uV (fun _=>hrO) jz (fun e=>by cases e) (m:=x) (n:=0) h1 om e
 omega
theorem M6{Q:Pt W2}(hQ:E2w.onP Q)(hq:E2w.times Q ORD=none)(hn: ¬Q=none){m n:Nat}(hm:m<ORD)(hn':n<ORD)(h: ¬m=n): ¬E2w.times Q m=E2w.times Q n:=fun e=>h (E2w.times_inj hQ (fun _=>hrO) hq hn hm hn' e)
theorem UD{p:Nat→J1.GP}{f:Nat→Nat}: ∀{n:Nat},(∀i,i<n→(p i).P=Kx (f i))→(J1.gSm p n).P=Kx ((List.range n).map f).sum
 |0,_=>rfl
 |n+1,h=>by
  rw[List.range_succ,List.map_append,List.sum_append_nat]
  show E1.ad (J1.gSm p n).P (p n).P=_
  rw[UD fun i hi=>h i om,h n om,Kx,Kx,←E1.times_add gH]
  simp[Kx]
theorem vu{x:Nat}(h: ¬Kx x=none):PUR 20 [.agg ((EN1 (Kx x)).map U8).toArray] (.tuple #[J1.PtV (cA1 (Kx x) (qi (qW (um x) (Ft x)))),I 0]):=OJ _ (eH _) _ h (qW (um x) (Ft x))
theorem Mq(x:Zr):PUR 13 [RV x] (.agg ((EN1 (Kx x.val)).map U8).toArray):=O5 x
theorem Nq: ¬Xm.FBad Xm.mmm SUs 2:=by
 rintro (h|h|h|h)<;>revert h<;>decide
theorem TU: ∃p:J2.GP,Ms [109#8] p 0∧¬p.P=none:=by
 obtain ⟨A,B,hs⟩:=BF Xm.mmm SUs
 obtain ⟨p,hp,hc⟩:=phs.ok _ _ _ _ Nq hs
 refine ⟨p,⟨hc,Ue (Gk hs) hp⟩, ?_⟩
 obtain ⟨⟨x,r,h0,rfl⟩,x',r',h1,rfl⟩:=hs
 rw[show U2n Xm.mmm SUs 0=uS from Xm.mm_0]at h0 hp
 rw[show U2n Xm.mmm SUs 1=uj from Xm.mm_1]at h1 hp
 obtain ⟨y,hy⟩:=RJ h0 h1
 rw[hp,hy]
 exact fun e=>by cases e
def k2(A B:L8):Nat→L8
 |0=>A
 |_=>B
theorem k2_0(A B:L8):k2 A B 0=A:=rfl
theorem k2_1(A B:L8):k2 A B 1=B:=rfl
theorem vo{A B:L8}{s:Nat}(ha:A.length=s)(hb:B.length=s): ∀i,(k2 A B i).length=s
 |0=>ha
 |_+1=>hb
theorem Ld{w:World}{b s n:Nat}{K:Nat→L8}(h:w.rangeAt b 0 ((RW s K n).map U8))(hl: ∀i,(K i).length=s):KsAt w b s n K:=fun i hi=>iL h hi (hl i)
theorem KsAt.less{w:World}{b s n m:Nat}{K:Nat→L8}(h:KsAt w b s n K)(hm:m≤n):KsAt w b s m K:=fun i hi=>h i om
theorem Eu(a b e:Zr)(A B E Z S:L8)(lA:A.length=48)(lB:B.length=48)(lS:S.length=96)(hA:PUR 28 [U64 3#64] (RV a))(hB:PUR 28 [U64 5#64] (RV b))(hE:PUR 28 [U64 8#64] (RV e))(hpA:PUR 13 [RV a] (.agg ((A).map U8).toArray))(hpB:PUR 13 [RV b] (.agg ((B).map U8).toArray))(hpE:PUR 13 [RV e] (.agg ((E).map U8).toArray))(hpZ:PUR 13 [aQ (List.replicate 6 (0#64))] (.agg ((Z).map U8).toArray))(hS: ∀(bm:Nat) (w':World),Gt w'→BytesAt w' (spt bm) [109#8]→CLS 14 [RV (a+b),.slice (spt bm) 1 1].toArray w' (fun r w''=>r=.returned (.tuple #[.agg ((S).map U8).toArray,I 0])∧Grow w' w''))(hF: ∀(d:Nat) (bm:Nat) (w':World),Gt w'→KsAt w' d 48 2 (k2 A B)→BytesAt w' (spt bm) [109#8]→CLS 37 [.slice (spt d) 2 2,.slice (spt bm) 1 1,.agg ((S).map U8).toArray].toArray w' (fun r w''=>r=.returned (I 0)∧Grow w' w''))(hF': ∀(d:Nat) (bm:Nat) (w':World),Gt w'→KsAt w' d 48 2 (k2 A B)→BytesAt w' (spt bm) [109#8]→CLS 37 [.slice (spt d) 1 2,.slice (spt bm) 1 1,.agg ((S).map U8).toArray].toArray w' (fun r w''=>r=.returned (I 162)∧Grow w' w''))(hV: ∀(bm:Nat) (w':World),Gt w'→BytesAt w' (spt bm) [109#8]→CLS 29 [.agg ((E).map U8).toArray,.slice (spt bm) 1 1,.agg ((S).map U8).toArray].toArray w' (fun r w''=>r=.returned (I 0)∧Grow w' w''))(hK:PUR 20 [.agg ((Z).map U8).toArray] (.tuple #[J1.PtV J1.cV,I 160]))(hN: ∀w',Gt w'→CLS 33 [.slice none 0 0].toArray w' (fun r w''=>r=.returned (.tuple #[.agg ((List.replicate 48 (0#8)).map U8).toArray,I 161])∧Grow w' w'')):PUR 11 [] (.bool true):=by
 intro w hw
 refine Hf func11 rfl hw<|fun hGF=>ae (E:=EE [1000022])<|Asg rfl<|aa<|ae (E:=EE [1000022])<|Ca rfl (hA)<|Ca rfl (hB)<|Al 1 hGF zv27<|fun b1=>Al 2 hGF zv27<|fun b2=>Sa 1 hGF rfl rfl rfl mI<|Sa 2 hGF rfl rfl rfl mI<|aa<|ae (E:=EE [1000022])<|ik 16 [109#8] hGF rfl rfl rfl dc dc underlying22 sizeOf5 zeroValue5 rfl rfl<|fun b16=>mN 16 rfl hGF rfl rfl underlying22 underlying5 rfl rfl<|Asg rfl<|aa<|ae (E:=EE [1000022])<|La 1 rfl rfl mI<|La 2 rfl rfl mI<|Ca rfl (AP a b)<|Mv rfl<|Cc rfl ent14 (fun w' hC hG=>hS b16 w' hG (BytesAt.range (aO (n:=16) rfl w' hC)))<|Mv rfl<|Ext rfl rfl<|Ext rfl rfl<|Al 4 hGF zv33<|fun b4=>aw 4 hGF rfl rfl rfl sizeOf33 (by simp[*]) sm (bH _) rfl<|Asg rfl<|aa<|Xd [1000022]<|La 1 rfl rfl mI<|Ca rfl (hpA)<|La 2 rfl rfl mI<|Ca rfl (hpB)<|pX (s:=48) 30 (k2 A B) (List.replicate 48 (0#8)) hGF rfl rfl rfl (fun i _=>vo lA lB i) dc dc underlying69 sizeOf30 sm zv30 rfl rfl<|fun b30=>Asg rfl<|aa<|ae (E:=EE [1000022])<|Mv rfl<|?_
 refine Mv rfl<|bT 4 rfl rfl isAgg33 sizeOf33 (by simp[*]) rfl rfl<|Cc rfl ent37 (fun w' hC hG=>hF b30 b16 w' hG (Ld (aO (n:=30) rfl w' hC) (vo lA lB)) (BytesAt.range (aO (n:=16) rfl w' hC)))<|Asg rfl<|aa<|Xd [1000022]<|Mv rfl<|nJ (l:=0) (h':=1) rfl underlying69 sizeOf30 rfl rfl om rfl rfl<|Mv rfl<|bT 4 rfl rfl isAgg33 sizeOf33 (by simp[*]) rfl rfl<|Cc rfl ent37 (fun w' hC hG=>hF' b30 b16 w' hG (Ld (aO (n:=30) rfl w' hC) (vo lA lB)) (BytesAt.range (aO (n:=16) rfl w' hC)))<|Asg rfl<|aa<|Xd [1000022]<|Ca rfl (hE)<|Ca rfl (hpE)<|Mv rfl<|bT 4 rfl rfl isAgg33 sizeOf33 (by simp[*]) rfl rfl<|Cc rfl ent29 (fun w' hC hG=>hV b16 w' hG (BytesAt.range (aO (n:=16) rfl w' hC)))<|Asg rfl<|aa<|ae (E:=EE [1000022])<|fH zv27 underlying27 (p8 sizeOf25) rfl rfl<|Ca rfl (hpZ)<|Ca rfl (hK)<|Mv rfl<|Ext rfl rfl<|Ext rfl rfl<|Al 10 hGF J1.zv54<|fun b10=>Sa 10 hGF rfl rfl rfl bS<|Asg rfl<|aa<|ae (E:=EE [1000022])<|Cc rfl ent33 (fun w' hC hG=>hN w' hG)<|Mv rfl<|Ext rfl rfl<|Ext rfl rfl<|Al 12 hGF zv30<|fun b12=>aw 12 hGF rfl rfl rfl sizeOf30 (by simp[*]) sm (bH _) rfl<|Asg rfl<|?_
 refine aa<|ae (E:=EE [1000022])<|Mv rfl<|Mv rfl<|Bnr (v:=I 0) rfl rfl (fun _=>az _ _ _ oi)<|Mv rfl<|Bnr (v:=I 0) rfl rfl (fun _=>az _ _ _ oi)<|Bnb true rfl rfl (fun _=>db _ _ _) (rfl)<|Mv rfl<|Mv rfl<|Bnb true rfl rfl (fun _=>db _ _ _) (rfl)<|Pk rfl rfl rfl<|Mv rfl<|Mv rfl<|Bnb true rfl rfl (fun _=>db _ _ _) (rfl)<|Pk rfl rfl rfl<|Mv rfl<|Mv rfl<|Bnb true rfl rfl (fun _=>db _ _ _) (rfl)<|Pk rfl rfl rfl<|Asg rfl<|aa<|am<|Rr<|?_
 exact aH rfl rfl (fun w hw=>⟨rfl,ac hw⟩)
theorem FI(n:Nat)(h0:0<n)(hn:n≤512)(K:Nat→L8)(f:Nat→Nat)(hK: ∀i,i<n→K i=EN1 (Kx (f i))∧¬Kx (f i)=none): ∃P:J1.GP,P.P=Kx ((List.range n).map f).sum∧∀(b cap:Nat) (w:World),Gt w→KsAt w b 48 n K→CLS 70 [.slice (spt b) n cap,.func (.func 20) #[] #[]].toArray w (fun r w'=>r=.returned (.tuple #[J1.PtV P,I 0])∧Grow w w'):=by
 let p:Nat→J1.GP:=fun i=>cA1 (Kx (f i)) (qi (qW (um _) (Ft _)))
 refine ⟨J1.gSm p n,UD fun i _=>rfl,fun b cap w hw hk=> ?_⟩
 have k:=J1.OL n h0 hn K p (fun _=>0) (fun i hi=>⟨by rw[(hK i hi).1];exact eH _,by rw[(hK i hi).1];exact vu (hK i hi).2⟩) n (Nat.le_refl _) (fun _ _=>rfl) (fun h=>absurd h (Nat.lt_irrefl _)) b cap w hw hk
 rw[if_pos rfl,if_pos rfl]at k
 exact k
theorem uo(n:Nat)(h0:0<n)(hn:n≤512)(K:Nat→L8)(f:Nat→Nat)(hK: ∀i,i<n→K i=EN1 (Kx (f i))∧¬Kx (f i)=none)(msg:L8)(H:J2.GP)(hM:Ms msg H 0)(hl:msg.length≤65600)(S:Pt W2)(oS:E2w.onP S)(rS:E2w.times S ORD=none)(e:Int)(he:(S=E2w.times H.P ((List.range n).map f).sum∧e=0)∨(¬S=E2w.times H.P ((List.range n).map f).sum∧e=162))(b c0:Nat)(a:Option Addr)(cap:Nat)(hc:msg.length≤cap)(w:World)(hw:Gt w)(hk:KsAt w b 48 n K)(hb:BytesAt w a msg):CLS 37 [.slice (spt b) n c0,.slice a msg.length cap,.agg ((EN2 S).map U8).toArray].toArray w (fun r w'=>r=.returned (I e)∧Grow w w'):=by
 obtain ⟨P,hP,hs⟩:=FI n h0 hn K f hK
 exact SV w P (spt b) n c0 (fun w' hG hg=>hs b c0 w' hG (hk.up hg)) a msg.length cap (EN2 S) (eJ _) e (fun w' hG hg=>Fj P _ hP (EN2 S) (eJ _) S (CJ oS rS) rS msg H hM a cap hl hc e he w' hG (hb.grow hg)) hw
theorem G4(x:Nat)(hx: ¬Kx x=none)(msg:L8)(H:J2.GP)(hM:Ms msg H 0)(hl:msg.length≤65600)(S:Pt W2)(oS:E2w.onP S)(rS:E2w.times S ORD=none)(e:Int)(he:(S=E2w.times H.P x∧e=0)∨(¬S=E2w.times H.P x∧e=162))(a:Option Addr)(cap:Nat)(hc:msg.length≤cap)(w:World)(hw:Gt w)(hb:BytesAt w a msg):CLS 29 [.agg ((EN1 (Kx x)).map U8).toArray,.slice a msg.length cap,.agg ((EN2 S).map U8).toArray].toArray w (fun r w'=>r=.returned (I e)∧Grow w w'):=
 K5 w (cA1 (Kx x) (qi (qW (um x) (Ft x)))) (EN1 (Kx x)) (eH _) (vu hx) a msg.length cap (EN2 S) (eJ _) e (fun w' hG hg=>Fj _ x rfl (EN2 S) (eJ _) S (CJ oS rS) rS msg H hM a cap hl hc e he w' hG (hb.grow hg)) hw
theorem AC(w:World)(hw:Gt w):CLS 33 [.slice none 0 0].toArray w (fun r w'=>r=.returned (.tuple #[.agg ((List.replicate 48 (0#8)).map U8).toArray,I 161])∧Grow w w'):=Ga w J1.cV 161 dc none 0 0 (fun w' hG _=>J1.FA 0 rfl _ none 0 w' hG) hw
theorem Ie:PUR 20 [.agg ((EN1 none).map U8).toArray] (.tuple #[J1.PtV J1.cV,I 160]):=H5 _ (eH _) none rfl (qW (P:=none) True.intro (E1.times_none ORD))
def fz:Nat→Nat
 |0=>3
 |_=>5
theorem zC:PUR 11 [] (.bool true):=by
 obtain ⟨H,hM,hH⟩:=TU
 have e8:(zr (3#64).toNat+zr (5#64).toNat:Zr).val=8:=by decide+kernel
 have h3:(zr (3#64).toNat).val=3:=by decide+kernel
 have h5:(zr (5#64).toNat).val=5:=by decide+kernel
 have h8:(zr (8#64).toNat).val=8:=by decide+kernel
 have lt: ∀{k:Nat},k<100→k<ORD:=fun h=>Nat.lt_trans h (by decide+kernel)
 have pb: ∀(x:Zr) (k:Nat),x.val=k→PUR 13 [RV x] (.agg ((EN1 (Kx k)).map U8).toArray):=fun x k h=>by subst h;exact O5 x
 have hK: ∀i,i<2→k2 (EN1 (Kx 3)) (EN1 (Kx 5)) i=EN1 (Kx (fz i))∧¬Kx (fz i)=none:=fun i hi=>by
  match i,hi with
  |0,_=>rw[show fz 0=3 from rfl];exact ⟨k2_0 _ _,xP dc (lt dc)⟩
  |1,_=>rw[show fz 1=5 from rfl];exact ⟨k2_1 _ _,xP dc (lt dc)⟩
 have oS:=E2w.times_on H.on 8
 have rS:=E2w.times_ord H.on hM.r 8
 refine Eu _ _ _ (EN1 (Kx 3)) (EN1 (Kx 5)) (EN1 (Kx 8)) (EN1 none) (EN2 (E2w.times H.P 8)) (eH _) (eH _) (eJ _) (iu 3#64) (iu 5#64) (iu 8#64) (pb _ 3 h3) (pb _ 5 h5) (pb _ 8 h8) ?_ ?_ ?_ ?_ ?_ Ie AC
 ·have k:=O5 0
  rw[RV,nr_0]at k
  exact k
 ·intro bm w' hG hb
  have k:=tW (zr (3#64).toNat+zr (5#64).toNat) [109#8] H hM (spt bm) 1 w' dc dc hG hb
  rw[show (J2.pU H (zr (3#64).toNat+zr (5#64).toNat)).P=E2w.times H.P 8 from by rw[←e8];rfl]at k
  exact k
 ·intro d bm w' hG hk hb
  exact uo 2 dc dc _ fz hK [109#8] H hM dc _ oS rS 0 (.inl ⟨rfl,rfl⟩) d 2 _ 1 dc w' hG hk hb
 ·intro d bm w' hG hk hb
  exact uo 1 dc dc _ fz (fun i hi=>hK i om) [109#8] H hM dc _ oS rS 162 (.inr ⟨M6 H.on hM.r hH (m:=8) (n:=3) (lt dc) (lt dc) dc,rfl⟩) d 2 _ 1 dc w' hG (hk.less dc) hb
 ·intro bm w' hG hb
  exact G4 8 (xP dc (lt dc)) [109#8] H hM dc _ oS rS 0 (.inl ⟨rfl,rfl⟩) _ 1 dc w' hG hb
end
section
open Go.RowKit
attribute [local simp] aT a9 aR aM aC bd aJ aI aA PLl cq cn N1l ck cp cm a5 bc aP aX a8 J1.bf J2.bf bI fx eH eJ
attribute [local simp] ij
theorem tG{k n:Int}(hn:0<n)(h:k.tmod n<0):k.tmod n+n=k % n:=by
 rw[Int.tmod_eq_emod]at h⊢
 have:=Int.emod_nonneg k (by omega:n≠0)
 split at h
 ·omega
 ·rename_i h1
  rw[if_neg h1];omega
theorem Ce{k n:Int}(hn:0<n)(h: ¬k.tmod n<0):k.tmod n=k % n:=by
 rw[Int.tmod_eq_emod]at h⊢
 have:=Int.emod_lt_of_pos k hn
 split at h
 ·rename_i h1
  rw[if_pos h1];omega
 ·omega
theorem zW{n:Int}(h:(Lit.int .u64 n).wf=true): ∃x:BitVec 64,(.int .u64 n:Value)=U64 x:=by
 simp only[Lit.wf,Bool.and_eq_true,decide_eq_true_eq]at h
 have h1:IntKind.u64.min=0:=rfl
 have h2:IntKind.u64.max=18446744073709551615:=rfl
 rw[h1,h2]at h
 refine ⟨BitVec.ofNat 64 n.toNat, ?_⟩
 simp only[U64,BitVec.toNat_ofNat]
 congr 1
 omega
theorem ou(k n:Int)(hn:0<n)(hn':inI n):PUR 27 [I k,I n] (I (k % n)):=by
 intro w hw
 refine Hf func27 rfl hw<|fun hGF=>Xp<|Asg rfl<|aa<|Xp<|Mv rfl<|Mv rfl<|Bnr (v:=I (k.tmod n)) rfl rfl (fun _=>fK _ _ _ om)<|Asg rfl<|aa<|ah<|Xp<|Mv rfl<|Bnr rfl rfl (fun _=>aD _ _ _)<|aa<|?_
 refine bV rfl (fun hc=> ?_) (fun hc=> ?_)
 ·simp only[decide_eq_true_eq]at hc
  refine Xq<|Mv rfl<|Mv rfl<|Bnr (v:=I (k % n)) rfl rfl (fun _=>(az _ _ _ (by rw[tG hn hc];unfold inI at*;have:=Int.emod_nonneg k (by omega:n≠0);have:=Int.emod_lt_of_pos k hn;omega)).trans (by rw[tG hn hc]))<|Asg rfl<|aa<|Xp<|Mv rfl<|Asg rfl<|aa<|am<|Rr<|?_
  exact aH rfl rfl (fun w hw=>⟨rfl,ac hw⟩)
 ·simp only[decide_eq_false_iff_not]at hc
  rw[Ce hn hc]
  refine ap<|Xp<|Mv rfl<|Asg rfl<|aa<|am<|Rr<|?_
  exact aH rfl rfl (fun w hw=>⟨rfl,ac hw⟩)
theorem Oa(k:Nat):(madeCells (Value.int .u8 0).cells (k*1)).toList=(List.replicate k 0#8).map U8:=by
 refine List.ext_getElem? fun i=> ?_
 rw[Nat.mul_one,madeCells,Array.toList_map,List.getElem?_map,List.getElem?_map,Array.toList_range]
 by_cases h:i<k
 ·rw[List.getElem?_range h,List.getElem?_replicate,if_pos h]
  show some ((Value.int .u8 0).cells[i % 1]!)=_
  rw[Nat.mod_one];rfl
 ·rw[List.getElem?_eq_none (by rw[List.length_range];omega),List.getElem?_replicate,if_neg h];rfl
theorem Uw(k:Nat)(h:k≤100000):k*ti5.choose.size≤16777216∧ti5.choose.bytes*k≤281474976710656∧k≤1000000:=by
 rw[ti5.choose_spec.2.2.1,ti5.choose_spec.2.2.2];omega
theorem D6{P:Program}{t e:TypeId}{n:Nat}{v:BitVec 8}(hu:P.underlying t=some (.array (n+1) e))(hs: ∀w,(sizeOf e).run P w=.ok 1 w)(hz: ∀w,(zeroValue t).run P w=.ok (.agg ((List.replicate (n+1) 0#8).map U8).toArray) w)(w:World):(Instr.build t #[(0,U8 v)]).run P w=.ok (.agg ((v::List.replicate n 0#8).map U8).toArray) w:=by
 simp[Instr.build,hz,run_underlying hu,hs,Value.cells,Instr.fill,List.replicate,U8]
theorem Ss(op:BinOp)(x y:Operand)(xs ys:Array Value)(w:World):(eqGuard op 33 x y (.agg xs) (.agg ys)).run prog w=.ok () w:=run_eqGuard_agg w op 33 x y xs ys kr
theorem UF(xs ys:L8)(h:xs.length=96)(h':ys.length=96)(w:World):(binOp .eql 33 (.agg (xs.map U8).toArray) (.agg (ys.map U8).toArray)).run prog w=.ok (.bool (decide (xs=ys))) w:=Hc underlying33 underlying5 sizeOf5 isAgg5 xs ys h h' w
theorem zN(z:Int)(m:Nat)(hm:65534+z % 5=(m:Int))(hb:65536<m)(x:BitVec 64)(hS: ∀(bm:Nat) (w':World),Gt w'→BytesAt w' (spt bm) (List.replicate m 0#8)→CLS 14 [RV (zr x.toNat),.slice (spt bm) m m].toArray w' (fun r w''=>r=.returned (.tuple #[.agg ((List.replicate 96 (0#8)).map U8).toArray,I 130])∧Grow w' w''))(y:Zr)(hO:PUR 28 [U64 3#64] (RV y))(K:L8)(hP:PUR 13 [RV y] (.agg ((K).map U8).toArray))(hV: ∀(bm:Nat) (w':World),Gt w'→BytesAt w' (spt bm) (List.replicate m 0#8)→CLS 29 [.agg ((K).map U8).toArray,.slice (spt bm) m m,.agg ((192#8::List.replicate 95 0#8).map U8).toArray].toArray w' (fun r w''=>r=.returned (I 130)∧Grow w' w'')):PUR 4 [I z,U64 x] (.bool true):=by
 intro w hw
 refine Hf func4 rfl hw<|fun hGF=>Xp<|Asg rfl<|aa<|ah<|Xp<|Ca rfl zC<|aY rfl (fun _=>aK _) rfl rfl<|aa<|av rfl<|ap<|Xp<|Mv rfl<|Ca rfl (ou z 5 dc (by unfold inI;decide))<|Bnr (v:=I (m:Int)) rfl rfl (fun _=>(az _ _ _ oi).trans (by rw[hm]))<|Asg rfl<|aa<|Xp<|Mv rfl<|rW (m:=m) 15 hGF rfl rfl underlying22 ti5.choose_spec.1 ti5.choose_spec.2.1 (Uw m om) (hmc m ti5.choose_spec (Oa _)) rfl rfl<|fun b15=>Asg rfl<|aa<|Xp<|Mv rfl<|Ca rfl (iu x)<|Mv rfl<|Cc rfl ent14 (fun w' hC hG=>hS b15 w' hG (BytesAt.range (aO (n:=15) rfl w' hC)))<|Mv rfl<|Ext rfl rfl<|Ext rfl rfl<|Al 6 hGF zv33<|fun b6=>aw 6 hGF rfl rfl rfl sizeOf33 (by simp[*]) sm (bH _) rfl<|Asg rfl<|aa<|ah<|Xp<|Mv rfl<|Bnb true rfl rfl (fun _=>cb _ _ _) (decide_eq_true om)<|aa<|aU rfl<|?_
 refine Xp<|Ca rfl (hO)<|Ca rfl (hP)<|Mv rfl<|dq (ps:=[(0,.const (.int .u8 192))]) (vs:=[U8 192#8]) rfl (fun w=>D6 underlying33 sizeOf5 zv33 w) rfl rfl<|Cc rfl ent29 (fun w' hC hG=>hV b15 w' hG (BytesAt.range (aO (n:=15) rfl w' hC)))<|Asg rfl<|aa<|Xp<|Mv rfl<|Bnb true rfl rfl (fun _=>db _ _ _) (rfl)<|Mv rfl<|bT 6 rfl rfl isAgg33 sizeOf33 (by simp[*]) rfl rfl<|fG zv33 underlying33 sizeOf5 rfl rfl<|xU true rfl rfl (fun _=>Ss _ _ _ _ _ _) (fun w=>UF _ _ sm sm w) (decide_eq_true rfl) rfl rfl<|Pk rfl rfl rfl<|Mv rfl<|Mv rfl<|Bnb true rfl rfl (fun _=>db _ _ _) (rfl)<|Pk rfl rfl rfl<|Asg rfl<|aa<|am<|Rr<|?_
 exact aH rfl rfl (fun w hw=>⟨rfl,ac hw⟩)
theorem Ew(z:Int)(m:Nat)(hm:65534+z % 5=(m:Int))(hb:m≤65536)(x:BitVec 64)(T:L8)(lT:T.length=96)(hS: ∀(bm:Nat) (w':World),Gt w'→BytesAt w' (spt bm) (List.replicate m 0#8)→CLS 14 [RV (zr x.toNat),.slice (spt bm) m m].toArray w' (fun r w''=>r=.returned (.tuple #[.agg ((T).map U8).toArray,I 0])∧Grow w' w'')):PUR 4 [I z,U64 x] (.bool true):=by
 intro w hw
 refine Hf func4 rfl hw<|fun hGF=>Xp<|Asg rfl<|aa<|ah<|Xp<|Ca rfl zC<|aY rfl (fun _=>aK _) rfl rfl<|aa<|av rfl<|ap<|Xp<|Mv rfl<|Ca rfl (ou z 5 dc (by unfold inI;decide))<|Bnr (v:=I (m:Int)) rfl rfl (fun _=>(az _ _ _ oi).trans (by rw[hm]))<|Asg rfl<|aa<|Xp<|Mv rfl<|rW (m:=m) 15 hGF rfl rfl underlying22 ti5.choose_spec.1 ti5.choose_spec.2.1 (Uw m om) (hmc m ti5.choose_spec (Oa _)) rfl rfl<|fun b15=>Asg rfl<|aa<|Xp<|Mv rfl<|Ca rfl (iu x)<|Mv rfl<|Cc rfl ent14 (fun w' hC hG=>hS b15 w' hG (BytesAt.range (aO (n:=15) rfl w' hC)))<|Mv rfl<|Ext rfl rfl<|Ext rfl rfl<|Al 6 hGF zv33<|fun b6=>aw 6 hGF rfl rfl rfl sizeOf33 (by simp[*]) sm (bH _) rfl<|Asg rfl<|aa<|ah<|Xp<|Mv rfl<|Bnb false rfl rfl (fun _=>cb _ _ _) (decide_eq_false om)<|aa<|av rfl<|?_
 refine ap<|Xp<|Mv rfl<|Bnb true rfl rfl (fun _=>db _ _ _) (rfl)<|Asg rfl<|aa<|am<|Rr<|?_
 exact aH rfl rfl (fun w hw=>⟨rfl,ac hw⟩)
theorem HS{m:Nat}(h:65536<m):Xm.FBad (List.replicate m 0#8) SUs 2:=.inr (.inr (.inr (by rw[List.length_replicate];exact h)))
theorem Me{m:Nat}(h:m≤65536): ¬Xm.FBad (List.replicate m 0#8) SUs 2:=by
 rintro (h'|h'|h'|h')
 ·revert h';decide
 ·revert h';decide
 ·revert h';decide
 ·rw[List.length_replicate]at h';omega
theorem GD(x:Nat)(hx: ¬Kx x=none)(bs:L8)(hn:bs.length=96)(S:Pt W2)(hD:D2 bs 0 S)(msg:L8)(H:J2.GP)(hM:Ms msg H 130)(a:Option Addr)(cap:Nat)(hl:msg.length≤65600)(hc:msg.length≤cap)(w:World)(hw:Gt w)(hb:BytesAt w a msg):CLS 29 [.agg ((EN1 (Kx x)).map U8).toArray,.slice a msg.length cap,.agg ((bs).map U8).toArray].toArray w (fun r w'=>r=.returned (I 130)∧Grow w w'):=
 K5 w (cA1 (Kx x) (qi (qW (um x) (Ft x)))) (EN1 (Kx x)) (eH _) (vu hx) a msg.length cap bs hn 130 (fun w' hG hg=>Ir _ bs hn S hD msg H hM a cap hl hc w' hG (hb.grow hg)) hw
theorem G5:192#8::List.replicate 95 0#8=EN2 none:=rfl
theorem UX(z:Int)(x:BitVec 64):PUR 4 [I z,U64 x] (.bool true):=by
 obtain ⟨m,hm⟩: ∃m:Nat,65534+z % 5=(m:Int):=⟨(65534+z % 5).toNat,om⟩
 have hm2:m≤65600:=om
 have lr:(List.replicate m 0#8).length=m:=List.length_replicate
 by_cases hb:65536<m
 ·obtain ⟨H,hM⟩:=Pe (HS hb)
  refine zN z m hm hb x (fun bm w' hG hr=> ?_) _ (iu 3#64) _ (Mq _) (fun bm w' hG hr=> ?_)
  ·have k:=Az (zr x.toNat) (List.replicate m 0#8) H hM (spt bm) m w' om om hG hr
   rw[lr]at k
   exact k
  ·have h3:(zr (3#64).toNat).val=3:=by decide+kernel
   have k0: ¬Kx (zr (3#64).toNat).val=none:=by rw[h3];exact xP dc (by decide+kernel)
   have k:=GD _ k0 (EN2 none) (eJ _) none (CJ (P:=none) True.intro (E2w.times_none ORD)) (List.replicate m 0#8) H hM (spt bm) m om om w' hG hr
   rw[lr,←G5]at k
   exact k
 ·obtain ⟨H,hM⟩:=UU (Me (Nat.le_of_not_lt hb))
  refine Ew z m hm om x (EN2 (J2.pU H (zr x.toNat)).P) (eJ _) (fun bm w' hG hr=> ?_)
  have k:=tW (zr x.toNat) (List.replicate m 0#8) H hM (spt bm) m w' om om hG hr
  rw[lr]at k
  exact k
end
end Go.Proofs.YtfgacclgjklgnaaGreatDoor
