/- L11 -/
import Derived.Test.YtfgacclgjklgnaaGreatDoorL10
import Derived.Test.YtfgacclgjklgnaaGreatDoorXW
import Derived.Test.YtfgacclgjklgnaaGreatDoorL5
import Derived.Test.YtfgacclgjklgnaaGreatDoorM1
import Derived.Test.YtfgacclgjklgnaaGreatDoorL0
import Derived.Test.YtfgacclgjklgnaaGreatDoorX1
import Derived.Test.YtfgacclgjklgnaaGreatDoorX5
import Derived.Test.YtfgacclgjklgnaaGreatDoorX2
set_option maxRecDepth 100000
set_option maxHeartbeats 1000000
namespace Go.Proofs.YtfgacclgjklgnaaGreatDoor
open Go.Proofs.Tryz
section
open Go.RowKit
attribute [local simp] aT a9 aR aM aC bd aJ aI aA PLl cq cn N1l ck cp cm a5 bc aP aX a8 J1.bf J2.bf Q6.ez Q6.fv
theorem ent237:ai prog 237:=fun _ _=>kr
theorem ent234:ai prog 234:=fun _ _=>kr
theorem ent212:ai prog 212:=fun _ _=>kr
theorem ent211:ai prog 211:=fun _ _=>kr
theorem ent118:ai prog 118:=fun _ _=>kr
namespace Q6
def pwu(u:Nat)(x:W12):W12:=K12.pw x u
theorem R4(x:W12):PUR 237 [ch x] (ch (pwu UG x)):=by
 intro w hw
 have hGF:BOk Gt (pl w):=gt_low.plain hw
 refine ca (G:=Gt) func237 rfl rfl (Hp (pl w) []) (bN (pl w) trivial ak) (aq hGF)<|Xp<|Bx 1 hGF rfl<|fun b1=>Al 2 hGF zv233<|fun b2=>aa<|Xp<|La 1 rfl rfl eE<|Al 3 hGF zv233<|fun b3=>Sa 3 hGF rfl rfl rfl eE<|aa<|ah<|Xp<|Ca rfl (va)<|aa<|aj<|?_
 refine dS (fun _=>pl w) (fun _ _=>pl w) (fun _=>hGF) (fun _ _=>hGF) (fun _=>rfl) (fun _ _=>rfl) rfl rfl ent240 po (fun x hx=>by obtain ⟨k,hk,rfl⟩:=List.mem_map.1 hx;rfl) rfl (fun k=>[(1,b1,mA x,233),(2,b2,(((fe 0++fe 0)++((fe 0++fe 0)++(fe 0++fe 0)))++((fe 0++fe 0)++((fe 0++fe 0)++(fe 0++fe 0)))).map U64,233),(3,b3,mA (pwD x k),233)]) (fun _ _ _=>False) ⟨rfl,rfl,by rw[show pwD x 0=x from K12.pw_one x];rfl,trivial⟩ (fun _ _ _ _=>trivial) ?_ ?_ (fun _ _ _ _ _ h=>h.elim)
 ·intro k v hx R hR
  obtain ⟨hk,rfl⟩:=wt hx
  refine Xq<|Asg rfl<|aa<|?_
  refine ⟨rfl,_,rfl, ?_⟩
  refine aj<|Xp<|La 3 rfl rfl eE<|Ca rfl (iN _)<|aw 3 (hR (pl w) rfl hGF).2.1 rfl rfl rfl sizeOf233 sm sm (bq _) rfl<|aa<|Xp<|Mv rfl<|aa<|?_
  refine bV rfl (fun hc=> ?_) (fun hc=> ?_)
  ·have hd:DGb k=true:=by simpa using hc
   refine Xq<|La 3 rfl rfl eE<|La 1 rfl rfl eE<|Ca rfl (vL _ _)<|aw 3 (hR (pl w) rfl hGF).2.1 rfl rfl rfl sizeOf233 sm sm (bq _) rfl<|aa<|?_
   repeat (first|refine a7 ?_|refine bU ?_)
   exact ⟨_,rfl,⟨rfl,rfl,by first|(rw[←Kw x hk hd];rfl)|(rw[←JM x hk hd];rfl),trivial⟩⟩
  ·have hd:DGb k=false:=by simpa using hc
   refine ap ?_
   repeat (first|refine a7 ?_|refine bU ?_)
   exact ⟨_,rfl,⟨rfl,rfl,by first|(rw[←Kw x hk hd];rfl)|(rw[←JM x hk hd];rfl),trivial⟩⟩
 ·intro D hD
  rw[mg]
  refine Xp<|La 3 rfl rfl eE<|Sa 2 hD rfl rfl rfl eE<|aa<|am<|Rr<|?_
  exact cX (.inl rfl) ak (ay 2 rfl rfl rfl isAgg233 sizeOf233 sm (fun w hw=>⟨by rw[pwu,←O2],ac hw⟩))
abbrev HF(f:W12→W12):Prop:= ∀x,PUR 237 [ch x] (ch (f x))
def agI(m:Nat):Ag Unit where
 of:=fun v=>match v with
  | .inr (.inr (.inl (.int .i64 (.ofNat n))))=>bif Nat.beq n m then some ()else none
  |_=>none
 dn:=fun _=>I (m:Int)
 ok:=fun v x r h=>by
  split at h
  ·rename_i n
   obtain ⟨h1,h⟩:=ee h
   show Value.int .i64 (Int.ofNat n)=I (m:Int)
   rw[Nat.eq_of_beq_eq_true h1];rfl
  ·cases h
theorem Qx(x:W12):PUR 235 [ch x,I 1] (ch (bK x)):=zG x 1
theorem Mu(x:W12):PUR 235 [ch x,I 2] (ch (bK (bK x))):=zG x 2
theorem wfr{f:Nat}{g:W12→W12}(m:Nat)(en:ai prog f)(h: ∀a,PUR f [ch a,I (m:Int)] (ch (g a))):Snd prog Gt f (c2 q12.ag (agI m) q12.rd (fun a _=>g a)):=fS q12.ag (agI m) q12.rd en (fun a _=>bL (l2 (V12 _).symm rfl) (V12 _).symm (h a))
def UL{f:W12→W12}(hf:HF f):Tb prog Gt:=TO224.add (cC (g:=f) ent237 hf)
def S8{f:W12→W12}(hf:HF f):Tb prog Gt:=(UL hf).add (wfr (g:=bK) 1 ent235 Qx)
def Lj{f:W12→W12}(hf:HF f):Tb prog Gt:=(S8 hf).add (wfr (g:=fun x=>bK (bK x)) 2 ent235 Mu)
theorem Qn{α β:Type}(p:α×β):(p.1,p.2)=p:=by cases p;rfl
def pva(f:W12→W12)(x:W12):W12:=K12.mul (f x) x
def pez(x:W12):W12:=fi2 (fi1 x)
def ph1(f:W12→W12)(x:W12):W12:=K12.mul (bK x) (bZ (f x))
def ph2(f:W12→W12)(x:W12):W12:=K12.mul (K12.mul (f (f x)) (bK (bK x))) (bZ x)
def phd(f:W12→W12)(x:W12):W12:=K12.mul (K12.mul (ph2 f (ph1 f (pva f (pva f x)))) (K12.mul x x)) x
theorem Qi{p6:Nat}(h6: ∀x,bZ x=K12.pw x p6)(x:W12)(u:Nat):bZ (K12.pw x u)=K12.pw (bZ x) u:=by rw[h6,h6,←K12.pw_mul,←K12.pw_mul,Nat.mul_comm]
theorem m9(x:W12)(u:Nat):bZ (K12.pw x u)=K12.pw (bZ x) u:=Qi (fun x=>(u9 x).symm) x u
theorem Dn(u:Nat)(x:W12):fi3 u x=bZ (pva (pwu u) x):=by rw[fi3,tnd,←iI,pva,pwu]
theorem NS(u:Nat)(x:W12):pva (pwu u) (bZ x)=bZ (pva (pwu u) x):=by rw[pva,pva,pwu,pwu,←m9,←iI]
theorem Tj(u:Nat)(x:W12):pva (pwu u) (pva (pwu u) x)=fi3 u (fi3 u x):=by rw[Dn,Dn,NS,nL]
theorem Of(u:Nat)(x:W12):ph1 (pwu u) x=fi4 u x:=by rw[ph1,fi4,tnd,pwu];exact K12.mul_comm _ _
theorem Oc(u:Nat)(x:W12):ph2 (pwu u) x=fi5 u x:=by rw[ph2,fi5,tnd,tnd,←m9,nL,pwu,pwu]
theorem LI(u:Nat)(x:W12):phd (pwu u) x=fi6 u x:=by
 rw[phd,Tj,Of,Oc]
 show K12.mul (K12.mul _ (K12.mul _ _)) _=K12.mul (K12.mul (K12.mul _ _) _) _
 rw[←K12.mul_assoc]
theorem NG(u:Nat)(x:W12):r9 u x=phd (pwu u) (pez x):=by rw[r9,LI,pez]
def gE(f:W12→W12)(x:W12):W12:=
 let t0:=f x
 let t1:=K12.mul (((t0.1.1.1,t0.1.1.2),(t0.1.2.1.1,t0.1.2.1.2),(t0.1.2.2.1,t0.1.2.2.2)),((t0.2.1.1,t0.2.1.2),(t0.2.2.1.1,t0.2.2.1.2),(t0.2.2.2.1,t0.2.2.2.2))) x
 t1
theorem F8(f:W12→W12)(x:W12):gE f x=pva f x:=by
 unfold gE
 simp only[Qn]
 rfl
theorem Sr{f:W12→W12}(hf:HF f)(x:W12):PUR 234 [ch x] (ch (gE f x)):=(bL (l1 (V12 _)) (V12 _) (pE (Lj hf) func234 [.inl [x.1.1.1,x.1.1.2,x.1.2.1.1,x.1.2.1.2,x.1.2.2.1,x.1.2.2.2,x.2.1.1,x.2.1.2,x.2.2.1.1,x.2.2.1.2,x.2.2.2.1,x.2.2.2.2]] (.inl (.inl [(gE f x).1.1.1,(gE f x).1.1.2,(gE f x).1.2.1.1,(gE f x).1.2.1.2,(gE f x).1.2.2.1,(gE f x).1.2.2.2,(gE f x).2.1.1,(gE f x).2.1.2,(gE f x).2.2.1.1,(gE f x).2.2.1.2,(gE f x).2.2.2.1,(gE f x).2.2.2.2])) (let t0:=f x;let t1:=K12.mul (((t0.1.1.1,t0.1.1.2),(t0.1.2.1.1,t0.1.2.1.2),(t0.1.2.2.1,t0.1.2.2.2)),((t0.2.1.1,t0.2.1.2),(t0.2.2.1.1,t0.2.2.1.2),(t0.2.2.2.1,t0.2.2.2.2))) x;(.inl (.inl [t1.1.1.1,t1.1.1.2,t1.1.2.1.1,t1.1.2.1.2,t1.1.2.2.1,t1.1.2.2.2,t1.2.1.1,t1.2.1.2,t1.2.2.1.1,t1.2.2.1.2,t1.2.2.2.1,t1.2.2.2.2]),[])) [] kr aG kr))
theorem ppva{f:W12→W12}(hf:HF f)(x:W12):PUR 234 [ch x] (ch (pva f x)):=by rw[←F8];exact Sr hf x
def JZ{f:W12→W12}(hf:HF f):Tb prog Gt:=(Lj hf).add (cC (g:=pva f) ent234 (ppva hf))
def gG(x:W12):W12:=
 let t0:=bZ x
 let t1:=il x
 let t2:=K12.mul (((t0.1.1.1,t0.1.1.2),(t0.1.2.1.1,t0.1.2.1.2),(t0.1.2.2.1,t0.1.2.2.2)),((t0.2.1.1,t0.2.1.2),(t0.2.2.1.1,t0.2.2.1.2),(t0.2.2.2.1,t0.2.2.2.2))) (((t1.1.1.1,t1.1.1.2),(t1.1.2.1.1,t1.1.2.1.2),(t1.1.2.2.1,t1.1.2.2.2)),((t1.2.1.1,t1.2.1.2),(t1.2.2.1.1,t1.2.2.1.2),(t1.2.2.2.1,t1.2.2.2.2)))
 let t3:=bK (bK (((t2.1.1.1,t2.1.1.2),(t2.1.2.1.1,t2.1.2.1.2),(t2.1.2.2.1,t2.1.2.2.2)),((t2.2.1.1,t2.2.1.2),(t2.2.2.1.1,t2.2.2.1.2),(t2.2.2.2.1,t2.2.2.2.2))))
 let t4:=K12.mul (((t3.1.1.1,t3.1.1.2),(t3.1.2.1.1,t3.1.2.1.2),(t3.1.2.2.1,t3.1.2.2.2)),((t3.2.1.1,t3.2.1.2),(t3.2.2.1.1,t3.2.2.1.2),(t3.2.2.2.1,t3.2.2.2.2))) (((t2.1.1.1,t2.1.1.2),(t2.1.2.1.1,t2.1.2.1.2),(t2.1.2.2.1,t2.1.2.2.2)),((t2.2.1.1,t2.2.1.2),(t2.2.2.1.1,t2.2.2.1.2),(t2.2.2.2.1,t2.2.2.2.2)))
 t4
theorem Cz(x:W12):gG x=pez x:=by
 unfold gG
 simp only[Qn]
 rfl
theorem U5{f:W12→W12}(hf:HF f)(x:W12):PUR 212 [ch x] (ch (gG x)):=(bL (l1 (V12 _)) (V12 _) (pE (JZ hf) func212 [.inl [x.1.1.1,x.1.1.2,x.1.2.1.1,x.1.2.1.2,x.1.2.2.1,x.1.2.2.2,x.2.1.1,x.2.1.2,x.2.2.1.1,x.2.2.1.2,x.2.2.2.1,x.2.2.2.2]] (.inl (.inl [(gG x).1.1.1,(gG x).1.1.2,(gG x).1.2.1.1,(gG x).1.2.1.2,(gG x).1.2.2.1,(gG x).1.2.2.2,(gG x).2.1.1,(gG x).2.1.2,(gG x).2.2.1.1,(gG x).2.2.1.2,(gG x).2.2.2.1,(gG x).2.2.2.2])) (let t0:=bZ x;let t1:=il x;let t2:=K12.mul (((t0.1.1.1,t0.1.1.2),(t0.1.2.1.1,t0.1.2.1.2),(t0.1.2.2.1,t0.1.2.2.2)),((t0.2.1.1,t0.2.1.2),(t0.2.2.1.1,t0.2.2.1.2),(t0.2.2.2.1,t0.2.2.2.2))) (((t1.1.1.1,t1.1.1.2),(t1.1.2.1.1,t1.1.2.1.2),(t1.1.2.2.1,t1.1.2.2.2)),((t1.2.1.1,t1.2.1.2),(t1.2.2.1.1,t1.2.2.1.2),(t1.2.2.2.1,t1.2.2.2.2)));let t3:=bK (bK (((t2.1.1.1,t2.1.1.2),(t2.1.2.1.1,t2.1.2.1.2),(t2.1.2.2.1,t2.1.2.2.2)),((t2.2.1.1,t2.2.1.2),(t2.2.2.1.1,t2.2.2.1.2),(t2.2.2.2.1,t2.2.2.2.2))));let t4:=K12.mul (((t3.1.1.1,t3.1.1.2),(t3.1.2.1.1,t3.1.2.1.2),(t3.1.2.2.1,t3.1.2.2.2)),((t3.2.1.1,t3.2.1.2),(t3.2.2.1.1,t3.2.2.1.2),(t3.2.2.2.1,t3.2.2.2.2))) (((t2.1.1.1,t2.1.1.2),(t2.1.2.1.1,t2.1.2.1.2),(t2.1.2.2.1,t2.1.2.2.2)),((t2.2.1.1,t2.2.1.2),(t2.2.2.1.1,t2.2.2.1.2),(t2.2.2.2.1,t2.2.2.2.2)));(.inl (.inl [t4.1.1.1,t4.1.1.2,t4.1.2.1.1,t4.1.2.1.2,t4.1.2.2.1,t4.1.2.2.2,t4.2.1.1,t4.2.1.2,t4.2.2.1.1,t4.2.2.1.2,t4.2.2.2.1,t4.2.2.2.2]),[])) [] kr aG kr))
theorem ppez{f:W12→W12}(hf:HF f)(x:W12):PUR 212 [ch x] (ch (pez x)):=by rw[←Cz];exact U5 hf x
def KH{f:W12→W12}(hf:HF f):Tb prog Gt:=(JZ hf).add (cC (g:=pez) ent212 (ppez hf))
def gI(f:W12→W12)(x:W12):W12:=
 let t0:=pva f x
 let t1:=pva f (((t0.1.1.1,t0.1.1.2),(t0.1.2.1.1,t0.1.2.1.2),(t0.1.2.2.1,t0.1.2.2.2)),((t0.2.1.1,t0.2.1.2),(t0.2.2.1.1,t0.2.2.1.2),(t0.2.2.2.1,t0.2.2.2.2)))
 let t2:=bK (((t1.1.1.1,t1.1.1.2),(t1.1.2.1.1,t1.1.2.1.2),(t1.1.2.2.1,t1.1.2.2.2)),((t1.2.1.1,t1.2.1.2),(t1.2.2.1.1,t1.2.2.1.2),(t1.2.2.2.1,t1.2.2.2.2)))
 let t3:=f (((t1.1.1.1,t1.1.1.2),(t1.1.2.1.1,t1.1.2.1.2),(t1.1.2.2.1,t1.1.2.2.2)),((t1.2.1.1,t1.2.1.2),(t1.2.2.1.1,t1.2.2.1.2),(t1.2.2.2.1,t1.2.2.2.2)))
 let t4:=bZ (((t3.1.1.1,t3.1.1.2),(t3.1.2.1.1,t3.1.2.1.2),(t3.1.2.2.1,t3.1.2.2.2)),((t3.2.1.1,t3.2.1.2),(t3.2.2.1.1,t3.2.2.1.2),(t3.2.2.2.1,t3.2.2.2.2)))
 let t5:=K12.mul (((t2.1.1.1,t2.1.1.2),(t2.1.2.1.1,t2.1.2.1.2),(t2.1.2.2.1,t2.1.2.2.2)),((t2.2.1.1,t2.2.1.2),(t2.2.2.1.1,t2.2.2.1.2),(t2.2.2.2.1,t2.2.2.2.2))) (((t4.1.1.1,t4.1.1.2),(t4.1.2.1.1,t4.1.2.1.2),(t4.1.2.2.1,t4.1.2.2.2)),((t4.2.1.1,t4.2.1.2),(t4.2.2.1.1,t4.2.2.1.2),(t4.2.2.2.1,t4.2.2.2.2)))
 let t6:=f (((t5.1.1.1,t5.1.1.2),(t5.1.2.1.1,t5.1.2.1.2),(t5.1.2.2.1,t5.1.2.2.2)),((t5.2.1.1,t5.2.1.2),(t5.2.2.1.1,t5.2.2.1.2),(t5.2.2.2.1,t5.2.2.2.2)))
 let t7:=f (((t6.1.1.1,t6.1.1.2),(t6.1.2.1.1,t6.1.2.1.2),(t6.1.2.2.1,t6.1.2.2.2)),((t6.2.1.1,t6.2.1.2),(t6.2.2.1.1,t6.2.2.1.2),(t6.2.2.2.1,t6.2.2.2.2)))
 let t8:=bK (bK (((t5.1.1.1,t5.1.1.2),(t5.1.2.1.1,t5.1.2.1.2),(t5.1.2.2.1,t5.1.2.2.2)),((t5.2.1.1,t5.2.1.2),(t5.2.2.1.1,t5.2.2.1.2),(t5.2.2.2.1,t5.2.2.2.2))))
 let t9:=K12.mul (((t7.1.1.1,t7.1.1.2),(t7.1.2.1.1,t7.1.2.1.2),(t7.1.2.2.1,t7.1.2.2.2)),((t7.2.1.1,t7.2.1.2),(t7.2.2.1.1,t7.2.2.1.2),(t7.2.2.2.1,t7.2.2.2.2))) (((t8.1.1.1,t8.1.1.2),(t8.1.2.1.1,t8.1.2.1.2),(t8.1.2.2.1,t8.1.2.2.2)),((t8.2.1.1,t8.2.1.2),(t8.2.2.1.1,t8.2.2.1.2),(t8.2.2.2.1,t8.2.2.2.2)))
 let t10:=bZ (((t5.1.1.1,t5.1.1.2),(t5.1.2.1.1,t5.1.2.1.2),(t5.1.2.2.1,t5.1.2.2.2)),((t5.2.1.1,t5.2.1.2),(t5.2.2.1.1,t5.2.2.1.2),(t5.2.2.2.1,t5.2.2.2.2)))
 let t11:=K12.mul (((t9.1.1.1,t9.1.1.2),(t9.1.2.1.1,t9.1.2.1.2),(t9.1.2.2.1,t9.1.2.2.2)),((t9.2.1.1,t9.2.1.2),(t9.2.2.1.1,t9.2.2.1.2),(t9.2.2.2.1,t9.2.2.2.2))) (((t10.1.1.1,t10.1.1.2),(t10.1.2.1.1,t10.1.2.1.2),(t10.1.2.2.1,t10.1.2.2.2)),((t10.2.1.1,t10.2.1.2),(t10.2.2.1.1,t10.2.2.1.2),(t10.2.2.2.1,t10.2.2.2.2)))
 let t12:=K12.mul x x
 let t13:=K12.mul (((t11.1.1.1,t11.1.1.2),(t11.1.2.1.1,t11.1.2.1.2),(t11.1.2.2.1,t11.1.2.2.2)),((t11.2.1.1,t11.2.1.2),(t11.2.2.1.1,t11.2.2.1.2),(t11.2.2.2.1,t11.2.2.2.2))) (((t12.1.1.1,t12.1.1.2),(t12.1.2.1.1,t12.1.2.1.2),(t12.1.2.2.1,t12.1.2.2.2)),((t12.2.1.1,t12.2.1.2),(t12.2.2.1.1,t12.2.2.1.2),(t12.2.2.2.1,t12.2.2.2.2)))
 let t14:=K12.mul (((t13.1.1.1,t13.1.1.2),(t13.1.2.1.1,t13.1.2.1.2),(t13.1.2.2.1,t13.1.2.2.2)),((t13.2.1.1,t13.2.1.2),(t13.2.2.1.1,t13.2.2.1.2),(t13.2.2.2.1,t13.2.2.2.2))) x
 t14
theorem Bb(f:W12→W12)(x:W12):gI f x=phd f x:=by
 unfold gI
 simp only[Qn]
 rfl
theorem VX{f:W12→W12}(hf:HF f)(x:W12):PUR 211 [ch x] (ch (gI f x)):=(bL (l1 (V12 _)) (V12 _) (pE (KH hf) func211 [.inl [x.1.1.1,x.1.1.2,x.1.2.1.1,x.1.2.1.2,x.1.2.2.1,x.1.2.2.2,x.2.1.1,x.2.1.2,x.2.2.1.1,x.2.2.1.2,x.2.2.2.1,x.2.2.2.2]] (.inl (.inl [(gI f x).1.1.1,(gI f x).1.1.2,(gI f x).1.2.1.1,(gI f x).1.2.1.2,(gI f x).1.2.2.1,(gI f x).1.2.2.2,(gI f x).2.1.1,(gI f x).2.1.2,(gI f x).2.2.1.1,(gI f x).2.2.1.2,(gI f x).2.2.2.1,(gI f x).2.2.2.2])) (let t0:=pva f x;let t1:=pva f (((t0.1.1.1,t0.1.1.2),(t0.1.2.1.1,t0.1.2.1.2),(t0.1.2.2.1,t0.1.2.2.2)),((t0.2.1.1,t0.2.1.2),(t0.2.2.1.1,t0.2.2.1.2),(t0.2.2.2.1,t0.2.2.2.2)));let t2:=bK (((t1.1.1.1,t1.1.1.2),(t1.1.2.1.1,t1.1.2.1.2),(t1.1.2.2.1,t1.1.2.2.2)),((t1.2.1.1,t1.2.1.2),(t1.2.2.1.1,t1.2.2.1.2),(t1.2.2.2.1,t1.2.2.2.2)));let t3:=f (((t1.1.1.1,t1.1.1.2),(t1.1.2.1.1,t1.1.2.1.2),(t1.1.2.2.1,t1.1.2.2.2)),((t1.2.1.1,t1.2.1.2),(t1.2.2.1.1,t1.2.2.1.2),(t1.2.2.2.1,t1.2.2.2.2)));let t4:=bZ (((t3.1.1.1,t3.1.1.2),(t3.1.2.1.1,t3.1.2.1.2),(t3.1.2.2.1,t3.1.2.2.2)),((t3.2.1.1,t3.2.1.2),(t3.2.2.1.1,t3.2.2.1.2),(t3.2.2.2.1,t3.2.2.2.2)));let t5:=K12.mul (((t2.1.1.1,t2.1.1.2),(t2.1.2.1.1,t2.1.2.1.2),(t2.1.2.2.1,t2.1.2.2.2)),((t2.2.1.1,t2.2.1.2),(t2.2.2.1.1,t2.2.2.1.2),(t2.2.2.2.1,t2.2.2.2.2))) (((t4.1.1.1,t4.1.1.2),(t4.1.2.1.1,t4.1.2.1.2),(t4.1.2.2.1,t4.1.2.2.2)),((t4.2.1.1,t4.2.1.2),(t4.2.2.1.1,t4.2.2.1.2),(t4.2.2.2.1,t4.2.2.2.2)));let t6:=f (((t5.1.1.1,t5.1.1.2),(t5.1.2.1.1,t5.1.2.1.2),(t5.1.2.2.1,t5.1.2.2.2)),((t5.2.1.1,t5.2.1.2),(t5.2.2.1.1,t5.2.2.1.2),(t5.2.2.2.1,t5.2.2.2.2)));let t7:=f (((t6.1.1.1,t6.1.1.2),(t6.1.2.1.1,t6.1.2.1.2),(t6.1.2.2.1,t6.1.2.2.2)),((t6.2.1.1,t6.2.1.2),(t6.2.2.1.1,t6.2.2.1.2),(t6.2.2.2.1,t6.2.2.2.2)));let t8:=bK (bK (((t5.1.1.1,t5.1.1.2),(t5.1.2.1.1,t5.1.2.1.2),(t5.1.2.2.1,t5.1.2.2.2)),((t5.2.1.1,t5.2.1.2),(t5.2.2.1.1,t5.2.2.1.2),(t5.2.2.2.1,t5.2.2.2.2))));let t9:=K12.mul (((t7.1.1.1,t7.1.1.2),(t7.1.2.1.1,t7.1.2.1.2),(t7.1.2.2.1,t7.1.2.2.2)),((t7.2.1.1,t7.2.1.2),(t7.2.2.1.1,t7.2.2.1.2),(t7.2.2.2.1,t7.2.2.2.2))) (((t8.1.1.1,t8.1.1.2),(t8.1.2.1.1,t8.1.2.1.2),(t8.1.2.2.1,t8.1.2.2.2)),((t8.2.1.1,t8.2.1.2),(t8.2.2.1.1,t8.2.2.1.2),(t8.2.2.2.1,t8.2.2.2.2)));let t10:=bZ (((t5.1.1.1,t5.1.1.2),(t5.1.2.1.1,t5.1.2.1.2),(t5.1.2.2.1,t5.1.2.2.2)),((t5.2.1.1,t5.2.1.2),(t5.2.2.1.1,t5.2.2.1.2),(t5.2.2.2.1,t5.2.2.2.2)));let t11:=K12.mul (((t9.1.1.1,t9.1.1.2),(t9.1.2.1.1,t9.1.2.1.2),(t9.1.2.2.1,t9.1.2.2.2)),((t9.2.1.1,t9.2.1.2),(t9.2.2.1.1,t9.2.2.1.2),(t9.2.2.2.1,t9.2.2.2.2))) (((t10.1.1.1,t10.1.1.2),(t10.1.2.1.1,t10.1.2.1.2),(t10.1.2.2.1,t10.1.2.2.2)),((t10.2.1.1,t10.2.1.2),(t10.2.2.1.1,t10.2.2.1.2),(t10.2.2.2.1,t10.2.2.2.2)));let t12:=K12.mul x x;let t13:=K12.mul (((t11.1.1.1,t11.1.1.2),(t11.1.2.1.1,t11.1.2.1.2),(t11.1.2.2.1,t11.1.2.2.2)),((t11.2.1.1,t11.2.1.2),(t11.2.2.1.1,t11.2.2.1.2),(t11.2.2.2.1,t11.2.2.2.2))) (((t12.1.1.1,t12.1.1.2),(t12.1.2.1.1,t12.1.2.1.2),(t12.1.2.2.1,t12.1.2.2.2)),((t12.2.1.1,t12.2.1.2),(t12.2.2.1.1,t12.2.2.1.2),(t12.2.2.2.1,t12.2.2.2.2)));let t14:=K12.mul (((t13.1.1.1,t13.1.1.2),(t13.1.2.1.1,t13.1.2.1.2),(t13.1.2.2.1,t13.1.2.2.2)),((t13.2.1.1,t13.2.1.2),(t13.2.2.1.1,t13.2.2.1.2),(t13.2.2.2.1,t13.2.2.2.2))) x;(.inl (.inl [t14.1.1.1,t14.1.1.2,t14.1.2.1.1,t14.1.2.1.2,t14.1.2.2.1,t14.1.2.2.2,t14.2.1.1,t14.2.1.2,t14.2.2.1.1,t14.2.2.1.2,t14.2.2.2.1,t14.2.2.2.2]),[])) [] kr aG kr))
theorem pphd{f:W12→W12}(hf:HF f)(x:W12):PUR 211 [ch x] (ch (phd f x)):=by rw[←Bb];exact VX hf x
def Tc{f:W12→W12}(hf:HF f):Tb prog Gt:=(KH hf).add (cC (g:=phd f) ent211 (pphd hf))
theorem Jc{f:W12→W12}(hf:HF f)(x:W12):PUR 177 [ch x] (ch (phd f (pez x))):=(bL (l1 (V12 _)) (V12 _) (pE (Tc hf) func177 [.inl [x.1.1.1,x.1.1.2,x.1.2.1.1,x.1.2.1.2,x.1.2.2.1,x.1.2.2.2,x.2.1.1,x.2.1.2,x.2.2.1.1,x.2.2.1.2,x.2.2.2.1,x.2.2.2.2]] (.inl (.inl [(phd f (pez x)).1.1.1,(phd f (pez x)).1.1.2,(phd f (pez x)).1.2.1.1,(phd f (pez x)).1.2.1.2,(phd f (pez x)).1.2.2.1,(phd f (pez x)).1.2.2.2,(phd f (pez x)).2.1.1,(phd f (pez x)).2.1.2,(phd f (pez x)).2.2.1.1,(phd f (pez x)).2.2.1.2,(phd f (pez x)).2.2.2.1,(phd f (pez x)).2.2.2.2])) (let t0:=pez x;let t1:=phd f (((t0.1.1.1,t0.1.1.2),(t0.1.2.1.1,t0.1.2.1.2),(t0.1.2.2.1,t0.1.2.2.2)),((t0.2.1.1,t0.2.1.2),(t0.2.2.1.1,t0.2.2.1.2),(t0.2.2.2.1,t0.2.2.2.2)));(.inl (.inl [t1.1.1.1,t1.1.1.2,t1.1.2.1.1,t1.1.2.1.2,t1.1.2.2.1,t1.1.2.2.2,t1.2.1.1,t1.2.1.2,t1.2.2.1.1,t1.2.2.1.2,t1.2.2.2.1,t1.2.2.2.2]),[])) [] kr aG kr))
theorem P1(x:W12):PUR 177 [ch x] (ch (r9 UG x)):=by rw[NG];exact Jc R4 x
end Q6
end
section
open Go.RowKit
attribute [local simp] aT a9 aR aM aC bd aJ aI aA PLl cq cn N1l ck cp cm a5 bc aP aX a8 J1.bf J2.bf Q6.ez Q6.fv
namespace Q6
theorem M9{f:Nat→J1.GP×J2.GP}{n:Nat}(hf: ∀i,i<n→E2w.times (f i).2.P ORD=none):r9 UG (LPv f n)=FN FE (PRD f n):=by
 rw[Bv]
 exact (Mf hf).fn IT
def PRN(f:Nat→J1.GP×J2.GP):Nat→W12
 |0=>K12.one
 |i+1=>K12.mul (PRN f i) (PR L63 FE (f i).1.P (f i).2.P)
theorem CG(f:Nat→J1.GP×J2.GP): ∀n,FN FE (PRD f n)=PRN f n
 |0=>kZ
 |n+1=>by rw[PRD,oH,CG f n,PRN,PR]
theorem Iz(l c:Nat)(x:Option Addr)(a:W12)(w:World)(hw:Gt w)(hL: ∀w',Gt w'→Grow w w'→CLS 178 [.slice x l c].toArray w' (fun y w''=>y=.returned (ch a)∧Grow w' w'')):CLS 118 [.slice x l c].toArray w (fun r w'=>r=.returned (.bool (decide (r9 UG a=K12.one)))∧Grow w w'):=by
 refine Hf func118 rfl hw<|fun hGF=>Xp<|Asg rfl<|aa<|Xp<|Mv rfl<|Cc rfl ent178 (fun w' hC hG=>hL w' hG (ac hC))<|Ca rfl (P1 a)<|Ca rfl (qf)<|Ca rfl (qd _ _)<|Asg rfl<|aa<|am<|Rr<|?_
 exact aH rfl rfl (fun w hw=>⟨rfl,ac hw⟩)
theorem gL{w w':World}{b:Nat}{cs:List Value}(h:w.rangeAt b 0 cs)(hg:Grow w w'):w'.rangeAt b 0 cs:=fun j v hv=>(hg.cell (block_lt_of_cell (h j v hv))).trans (h j v hv)
theorem Mt(n:Nat)(f:Nat→J1.GP×J2.GP)(b cap:Nat)(hn:n≤1000)(hf: ∀i,i<n→E2w.times (f i).2.P ORD=none)(w:World)(hw:Gt w)(h:w.rangeAt b 0 ((RW 54 (fun i=>PRv (f i)) n).map U64)):CLS 118 [.slice (spt b) n cap].toArray w (fun r w'=>r=.returned (.bool (decide (PRN f n=K12.one)))∧Grow w w'):=by
 have k:=Iz n cap (spt b) (LPv f n) w hw fun w' hG hg=>Ph n f b cap hn hf w' hG (gL h hg)
 rw[M9 hf,CG]at k
 exact k
end Q6
end
section
open Go.RowKit
attribute [local simp] ij aR aM aC aJ aI uk MLl SB IVRl Il a5
abbrev RV(x:Zr):Value:=aQ (nr x)
theorem zv27(w:World):(zeroValue 27).run prog w=.ok (aQ (List.replicate 6 (0#64))) w:=(zeroValue27 w).trans rr
theorem zv112(w:World):(zeroValue 112).run prog w=.ok (.agg ((List.replicate 32 (0#8)).map U8).toArray) w:=(zeroValue112 w).trans rr
theorem Ni{x y:BitVec 64}(h:(x==y)=true):x=y:=beq_iff_eq.1 h
theorem Qr{x y:BitVec 64}(h:(x==y)=false): ¬x=y:=beq_eq_false_iff_ne.1 h
theorem ent93:ai prog 93:=fun _ _=>kr
theorem iu(n:BitVec 64):PUR 28 [U64 n] (RV (zr n.toNat)):=by
 intro w hw
 refine Hf func28 rfl hw<|fun hGF=>Xp<|Al 2 hGF zv27<|fun b2=>aa<|Xp<|Mv rfl<|mD n rfl underlying25 sizeOf24 zv25 rfl rfl<|dI rfl sm underlying27 rfl sizeOf25 zv27 rfl rfl<|Sa 2 hGF rfl rfl rfl mI<|aa<|am<|Rr<|?_
 exact ay 2 rfl rfl rfl isAgg27 sizeOf27 sm (fun w hw=>⟨congrArg (fun l=>Ending.returned (NV l)) (ES n),ac hw⟩)
theorem AP(x y:Zr):PUR 36 [RV x,RV y] (RV (x+y)):=by
 intro w hw
 refine Hf func36 rfl hw<|fun hGF=>Xp<|Bx 2 hGF rfl<|fun b2=>Bx 3 hGF rfl<|fun b3=>Al 4 hGF zv27<|fun b4=>aa<|Xp<|Fa 0 rfl underlying27 rfl sizeOf25<|La 2 rfl rfl bJ<|Fa 0 rfl underlying27 rfl sizeOf25<|La 3 rfl rfl bJ<|Ca rfl (lY _ _ sm sm)<|Mv rfl<|Ext rfl rfl<|Ext rfl rfl<|Al 5 hGF zv25<|fun b5=>Sa 5 hGF rfl rfl rfl bJ<|Asg rfl<|aa<|Xp<|La 5 rfl rfl bJ<|ji hGF isAgg25 sizeOf25 sm (fun _ h=>h.g1) rfl rfl<|Ca rfl (iO _ _ sm sm)<|Mv rfl<|Ext rfl rfl<|Ext rfl rfl<|Al 7 hGF zv25<|fun b7=>Sa 7 hGF rfl rfl rfl bJ<|Asg rfl<|aa<|ah<|Xp<|Mv rfl<|Bnr rfl rfl (fun _=>bR _ _ _)<|aa<|?_
 refine bV rfl (fun hc=> ?_) (fun hc=> ?_)
 ·refine Xp<|La 5 rfl rfl bJ<|dI rfl sm underlying27 rfl sizeOf25 zv27 rfl rfl<|Sa 4 hGF rfl rfl rfl mI<|aa<|am<|Rr<|?_
  exact ay 4 rfl rfl rfl isAgg27 sizeOf27 sm (fun w hw=>⟨by rw[DC (Ni hc)],ac hw⟩)
 ·refine ap<|Xp<|La 7 rfl rfl bJ<|dI rfl sm underlying27 rfl sizeOf25 zv27 rfl rfl<|Sa 4 hGF rfl rfl rfl mI<|aa<|am<|Rr<|?_
  exact ay 4 rfl rfl rfl isAgg27 sizeOf27 sm (fun w hw=>⟨by rw[Ah (wF (wT _ _ _) (Qr hc))],ac hw⟩)
end
section
open Go.RowKit
theorem ent143:ai prog 143:=fun _ _=>kr
theorem ent192:ai prog 192:=fun _ _=>kr
theorem vT(a:L6)(_ha:a.length=6)(w:World)(hw:Gt w):CLS 143 [aQ (a)].toArray w (fun e w'=> ∃b1,e=.returned (.func (.func 192) #[] #[pnt b1])∧Grow w w'∧w.heap.size≤b1∧OwnB w' b1 (a.map U64) 25):=by
 refine Hf func143 rfl hw<|fun hGF=>Xp<|Bx 1 hGF rfl<|fun b1=>Asg rfl<|aa<|Xp<|ft rfl rfl rfl rfl<|Asg rfl<|aa<|am<|Rr<|?_
 exact aH rfl rfl (fun w hw=>⟨b1,rfl,ac hw,(hw.own 1 b1 _ _ rfl).2.elim id False.elim,(hw.own 1 b1 _ _ rfl).1⟩)
theorem uA(bb:Nat)(a:L6)(ha:a.length=6):ek prog Gt 192 [pnt bb] (BT a) (fun W=>W.rangeAt bb 0 (a.map U64)):=by
 intro l J Jx hJ hJx hRd hGx hY w hj
 have okJ: ∀k,BOk Gt (Bi w (fun Y=>J Y k)):=fun k=>⟨fun _ _ _ h=>(hRd _ _ _ h.rid).1,hJ k⟩
 have okX: ∀k,BOk Gt (Bi w (fun Y=>Jx Y k)):=fun k=>⟨fun _ _ _ h=>hGx _ _ _ h.rid,hJx k⟩
 refine ca (G:=Gt) func192 rfl rfl (Hp (Bi w (fun Y=>J Y 0)) []) (bN (Bi w _) hj (hJ 0)) (aq (okJ 0))<|ae (E:=EE [133])<|gM 2 (okJ _) rfl rfl rfl<|fun b2=>aa<|ae (E:=EE [133])<|cf (l:=0) (h':=6) rfl underlying25 sizeOf24 rfl rfl om om rfl rfl<|?_
 refine cU rfl rfl ent133 rfl rfl (fun w' hw'=>(lp _ rfl w' ((okJ _).g _ _ _ hw')).mono fun e w'' h=> ?_)
 obtain ⟨c2,rfl,hgr,h2,hc2⟩:=h
 refine ⟨_,_,rfl,aq (okJ _),hw'.news (hJ _) hgr [(33,c2,[.slice (spt bb) 6 6],67)] ?_ bG, ?_⟩
 ·intro n' b' c' t' hl
  rcases aB hl with ⟨_,e⟩|⟨_,hl⟩
  ·cases e;exact ⟨h2,hc2⟩
  ·cases hl
 clear hw' hgr h2 hc2
 refine aa<|aj<|?_
 refine dS (fun k=>(Bi w (fun Y=>J Y (fA a k).length))) (fun _ k=>Bi w (fun Y=>Jx Y (fA a k).length)) (fun _=>okJ _) (fun _ _=>okX _) (fun _=>rfl) (fun _ _=>rfl) rfl rfl ent188 (pi c2 bb a 6 dc ha) (fun x hx=>by obtain ⟨k,hk,rfl⟩:=List.mem_map.1 hx;rfl) rfl (fun _=>[(2,b2,[.func (.yield l) #[] #[]],82),(33,c2,[.slice (spt bb) 6 6],67)]) (fun c _ _=>c=.ret) trv (fun k Y w' h=>⟨cy (n:=33) rfl rfl w' h,(hRd _ _ _ h.rid).2⟩) ?_ ?_ ?_
 ·intro k x hx R hR
  obtain ⟨hk,rfl⟩:=Kf a 6 k x hx
  rw[show 64*6-1-k=383-k from rfl]
  refine ae (E:=EE [133])<|Asg rfl<|aa<|bz (E:=EE [133])<|Asg rfl<|aa<|?_
  refine ⟨rfl,_,rfl, ?_⟩
  rcases Decidable.em (dig a (383-k)=1)with h1|h1
  ·refine aj<|ae (E:=EE [133])<|Mv rfl<|Bnr (v:=.bool true) rfl rfl (fun w=>(bR _ _ _).trans (congrArg (fun b=>Result.ok (Value.bool b) w) (beq_iff_eq.2 h1)))<|Mv rfl<|cu 2 rfl rfl rfl isAgg82 rfl rfl<|Mv rfl<|?_
   refine cN ((hY.b (k:=(fA a k).length) (Rs a k om h1) w).br R.l R.D R.rb R.Y R.W) (hR (Bi w (fun Y=>J Y ((fA a k).length+1))) rfl (okJ _)).2.1 (hR (Bi w (fun Y=>Jx Y ((fA a k).length+1))) rfl (okX _)).2.1 rfl rfl rfl rfl rfl ?_ ?_
   ·refine aY rfl (fun _=>aK _) rfl rfl<|Pk rfl rfl rfl<|aa<|av rfl<|ap<|?_
    show∃L',_=Hp (R.b (Bi w (fun Y=>J Y (fA a (k+1)).length))) L'∧jl L' [(2,b2,[.func (.yield l) #[] #[]],82),(33,c2,[.slice (spt bb) 6 6],67)]
    rw[tk a k h1]
    exact ⟨_,rfl,trv⟩
   ·refine aY rfl (fun _=>aK _) rfl rfl<|Pk rfl rfl rfl<|aa<|aU rfl<|am<|Rr<|?_
    show∃L',_=Hp (R.b (Bi w (fun Y=>Jx Y (fA a (k+1)).length))) L'∧Code.ret=Code.ret
    rw[tk a k h1]
    exact ⟨_,rfl,rfl⟩
  ·refine aj<|ae (E:=EE [133,3000000])<|Mv rfl<|Bnr (v:=.bool false) rfl rfl (fun w=>(bR _ _ _).trans (congrArg (fun b=>Result.ok (Value.bool b) w) (beq_eq_false_iff_ne.2 h1)))<|Mv rfl<|Sk<|Sk<|Sk<|Sk<|Pk rfl rfl rfl<|aa<|av rfl<|ap<|?_
   show∃L',_=Hp (R.b (Bi w (fun Y=>J Y (fA a (k+1)).length))) L'∧jl L' [(2,b2,[.func (.yield l) #[] #[]],82),(33,c2,[.slice (spt bb) 6 6],67)]
   rw[HQ a k h1]
   exact ⟨_,rfl,trv⟩
 ·intro D _
  refine cX (.inr rfl) (hJ _) (cM rfl (fun w hw=>⟨⟨_,rfl⟩,.inl ?_⟩))
  have:=bx (hJ _) hw.rid
  rw[ep]at this
  rw[Mk]
  exact this
 ·intro D c j L' _ hc
  subst hc
  exact cX (.inl rfl) (hJx _) (cM rfl (fun w hw=>⟨⟨_,rfl⟩,.inr ⟨_,bx (hJx _) hw.rid⟩⟩))
end
section
open Go.RowKit
attribute [local simp] aT a9 aR aM aC bd aJ aI aA PLl cq cn N1l ck cp cm a5 bc aP aX a8 J1.bf J2.bf Q6.ez Q6.fv
attribute [local simp] ij uk
theorem mY(k:Zr)(w:World)(hw:Gt w):CLS 93 [RV k].toArray w (fun e w'=> ∃b1,e=.returned (.func (.func 192) #[] #[pnt b1])∧Grow w w'∧w.heap.size≤b1∧OwnB w' b1 ((nr k).map U64) 25):=by
 refine Hf func93 rfl hw<|fun hGF=>ae (E:=EE [143])<|Bx 1 hGF rfl<|fun b1=>Asg rfl<|aa<|ae (E:=EE [143])<|Fa 0 rfl underlying27 rfl sizeOf25<|La 1 rfl rfl bJ<|?_
 refine cU rfl rfl ent143 rfl rfl (fun w' hw'=>(vT (nr k) sm w' (hGF.g _ _ _ hw')).mono fun e' w'' h=> ?_)
 obtain ⟨c1,rfl,hg,h1,ho⟩:=h
 refine ⟨_,_,rfl,aq hGF,hw'.news ak hg [(33,c1,(nr k).map U64,25)] ?_ bG, ?_⟩
 ·intro n' b' c' t' hl
  rcases aB hl with ⟨_,e⟩|⟨_,hl⟩
  ·cases e;exact ⟨h1,ho⟩
  ·cases hl
 clear hw' hg h1 ho
 refine Asg rfl<|aa<|am<|Rr<|?_
 exact aH rfl rfl (fun w hw=>⟨c1,rfl,ac hw,(hw.own 33 c1 _ _ rfl).2.elim id False.elim,(hw.own 33 c1 _ _ rfl).1⟩)
def dg(a:L6)(m:Nat):Bool:=decide (dig a (383-m)=1)
theorem xW(a:L6): ∀m,fA a m=oL (dg a) 384 m
 |0=>rfl
 |m+1=>by
  rw[fA,oL,xW a m]
  by_cases h:dig a (383-m)=1
  ·rw[if_pos h,if_pos (show dg a m=true from decide_eq_true h)]
  ·rw[if_neg h,if_neg (show¬dg a m=true from fun e=>h (of_decide_eq_true e))]
theorem O3(a:L6)(m:Nat)(hm:m<384):dg a m=true↔V a 6 / 2^(384-1-m) % 2=1:=by
 have e:=sC a 6 (383-m) om
 rw[show 384-1-m=383-m from by omega,←e]
 constructor
 ·intro h
  have h2:dig a (383-m)=1:=of_decide_eq_true h
  rw[h2];rfl
 ·intro h
  refine decide_eq_true (BitVec.eq_of_toNat_eq ?_)
  rw[h];rfl
theorem E4{a:L6}{N:Nat}(hN:N=384)(h:V a 6<2^N):SOg (oL (dg a) N N)=V a 6:=by
 rw[vw]
 exact OU h (fun m hm=>by subst hN;exact O3 a m hm)
def onK(k:Zr):List Nat:=fA (nr k) 384
theorem CU(k:Zr){N:Nat}(hN:N=384):onK k=oL (dg (nr k)) N N:=by
 subst hN
 exact xW (nr k) 384
theorem Oq(k:Zr){N:Nat}(hN:N=384):V (nr k) 6<2^N:=by
 have h:=ue (nr k) 6
 rw[show 64*6=N from hN.symm]at h
 exact h
theorem zg(k:Zr){N:Nat}(hN:N=384):SOg (onK k)=k.val:=by rw[CU k hN,E4 hN (Oq k hN),Ho]
theorem B8(k:Zr){N:Nat}(hN:N=384):(onK k).Pairwise (fun a b=>b≤a):=by rw[CU k hN];exact tL _ _ _ (Nat.le_refl _)
theorem Bo(k:Zr){N:Nat}(hN:N=384){b:Nat}(h:b∈onK k):b<100000000:=by
 rw[CU k hN]at h
 have:=E8 h (Nat.le_refl _)
 omega
theorem uC{b:Nat}{c:List Value}{w w':World}(h:w.rangeAt b 0 c)(hg:Grow w w'):w'.rangeAt b 0 c:=fun j v hv=>(hg.cell (block_lt_of_cell (h j v hv))).trans (h j v hv)
namespace J1
theorem sZ(c1:Nat)(k:Zr){L:List Nat}(hL:onK k=L):ek prog Gt 192 [pnt c1] (NLs L) (fun W=>W.rangeAt c1 0 ((nr k).map U64)):=by
 subst hL
 exact uA c1 (nr k) (ij k)
theorem wp(p:GP)(k:Zr){L:List Nat}(hL:onK k=L)(hb: ∀b∈L,b<100000000):PUR 43 [PtV p,RV k] (JV (tmF p.J L)):=by
 intro w hw
 refine Hf func43 rfl hw<|fun hGF=>ae (E:=EE [93,2000093])<|Bx 2 hGF rfl<|fun b2=>Bx 3 hGF rfl<|fun b3=>Al 4 hGF zv54<|fun b4=>aa<|Xd [93,2000093]<|La 2 rfl rfl bS<|La 3 rfl rfl mI<|?_
 refine bE rfl rfl ent93 rfl rfl (fun w' hw'=>(mY k w' (hGF.g _ _ _ hw')).mono fun e' w'' h=> ?_)
 obtain ⟨c1,rfl,hg,h1,ho⟩:=h
 refine ⟨_,_,rfl,aq hGF,hw'.news ak hg [(33,c1,(nr k).map U64,25)] ?_ bG,bD ak rfl, ?_⟩
 ·intro n' b' c' t' hl
  rcases aB hl with ⟨_,e⟩|⟨_,hl⟩
  ·cases e;exact ⟨h1,ho⟩
  ·cases hl
 clear hw' hg h1 ho
 refine Cc rfl ent92 (fun w' hC hG=>fc p.J 192 [pnt c1] L (fun W=>W.rangeAt c1 0 ((nr k).map U64)) ent192 (sZ c1 k hL) hb w' hG (fun w'' hg=>uC (aO (n:=33) rfl w' hC) hg))<|Sa 4 hGF rfl rfl rfl bS<|aa<|am<|Rr<|?_
 exact ay 4 rfl rfl rfl isAgg54 sizeOf54 sm (fun w hw=>⟨rfl,ac hw⟩)
theorem wx{x:Zp×Zp×Zp}{P:Pt Zp}(hP:E1.onP P)(hx:E1.jr x P)(k:Zr):E1.jr (tmF x (onK k)) (E1.times P k.val):=by
 rw[←zg k rfl]
 exact tmF_jr hP hx (B8 k rfl)
def pU(p:GP)(k:Zr):GP:=⟨tmF p.J (onK k),E1.times p.P k.val,E1.times_on p.on _,wx p.on p.jr k⟩
theorem sK(p:GP)(k:Zr):PUR 43 [PtV p,RV k] (PtV (pU p k)):=wp p k rfl (fun _ h=>Bo k rfl h)
end J1
namespace J2
theorem sZ(c1:Nat)(k:Zr){L:List Nat}(hL:onK k=L):ek prog Gt 192 [pnt c1] (NLs L) (fun W=>W.rangeAt c1 0 ((nr k).map U64)):=by
 subst hL
 exact uA c1 (nr k) (ij k)
theorem wp(p:GP)(k:Zr){L:List Nat}(hL:onK k=L)(hb: ∀b∈L,b<100000000):PUR 46 [PtV p,RV k] (EV6 (E2w.tmF p.J L)):=by
 intro w hw
 refine Hf func46 rfl hw<|fun hGF=>ae (E:=EE [93,2000093])<|Bx 2 hGF rfl<|fun b2=>Bx 3 hGF rfl<|fun b3=>Al 4 hGF zv94<|fun b4=>aa<|Xd [93,2000093]<|La 2 rfl rfl bO<|La 3 rfl rfl mI<|?_
 refine bE rfl rfl ent93 rfl rfl (fun w' hw'=>(mY k w' (hGF.g _ _ _ hw')).mono fun e' w'' h=> ?_)
 obtain ⟨c1,rfl,hg,h1,ho⟩:=h
 refine ⟨_,_,rfl,aq hGF,hw'.news ak hg [(33,c1,(nr k).map U64,25)] ?_ bG,bD ak rfl, ?_⟩
 ·intro n' b' c' t' hl
  rcases aB hl with ⟨_,e⟩|⟨_,hl⟩
  ·cases e;exact ⟨h1,ho⟩
  ·cases hl
 clear hw' hg h1 ho
 refine Cc rfl ent98 (fun w' hC hG=>fc p.J 192 [pnt c1] L (fun W=>W.rangeAt c1 0 ((nr k).map U64)) ent192 (sZ c1 k hL) hb w' hG (fun w'' hg=>uC (aO (n:=33) rfl w' hC) hg))<|Sa 4 hGF rfl rfl rfl bO<|aa<|am<|Rr<|?_
 exact ay 4 rfl rfl rfl isAgg94 sizeOf94 sm (fun w hw=>⟨rfl,ac hw⟩)
theorem wx{x:W6}{P:Pt W2}(hP:E2w.onP P)(hx:E2w.jr x P)(k:Zr):E2w.jr (E2w.tmF x (onK k)) (E2w.times P k.val):=by
 rw[←zg k rfl]
 exact E2w.tmF_jr hP hx (B8 k rfl)
def pU(p:GP)(k:Zr):GP:=⟨E2w.tmF p.J (onK k),E2w.times p.P k.val,E2w.times_on p.on _,wx p.on p.jr k⟩
theorem sK(p:GP)(k:Zr):PUR 46 [PtV p,RV k] (PtV (pU p k)):=wp p k rfl (fun _ h=>Bo k rfl h)
end J2
end
section
open Go.RowKit
theorem ent282:ai prog 282:=fun _ _=>kr
theorem ent283:ai prog 283:=fun _ _=>kr
theorem ent296:ai prog 296:=fun _ _=>kr
theorem ent293:ai prog 293:=fun _ _=>kr
theorem ent297:ai prog 297:=fun _ _=>kr
theorem ent303:ai prog 303:=fun _ _=>kr
namespace Sh
theorem zv106(w:World):(zeroValue 106).run prog w=.ok (.agg ((List.replicate 64 (0#32)).map U32).toArray) w:=(zeroValue106 w).trans rr
theorem zv105(w:World):(zeroValue 105).run prog w=.ok (.agg ((List.replicate 8 (0#32)).map U32).toArray) w:=(zeroValue105 w).trans rr
theorem zv313(w:World):(zeroValue 313).run prog w=.ok (.agg ((List.replicate 64 (0#8)).map U8).toArray) w:=(zeroValue313 w).trans rr
theorem zv112(w:World):(zeroValue 112).run prog w=.ok (.agg ((List.replicate 32 (0#8)).map U8).toArray) w:=(zeroValue112 w).trans rr
def mi(x:BitVec 32)(k:Int):BitVec 32:=(x<<<(BitVec.ofInt 64 k &&& 31#64).toNat)|||(x>>>(32#64-(BitVec.ofInt 64 k &&& 31#64)).toNat)
theorem dJ(x:BitVec 32)(k:Int):PUR 306 [U32 x,I k] (U32 (mi x k)):=by
 intro w hw
 refine Hf func306 rfl hw<|fun hGF=>Xp<|Asg rfl<|aa<|Xp<|Mv rfl<|cJ rfl rfl (fun _=>n6 underlying3 underlying216 _) rfl rfl<|Bnr rfl rfl (fun _=>eV _ _ _)<|Asg rfl<|aa<|Xp<|Mv rfl<|Mv rfl<|Bnr rfl rfl (fun _=>gV _ _ _)<|Mv rfl<|Mv rfl<|Bnr rfl rfl (fun _=>nk _ _ _)<|Bnr rfl rfl (fun _=>eZ _ _ _)<|Bnr rfl rfl (fun _=>i4 _ _ _)<|Asg rfl<|aa<|am<|Rr<|?_
 exact aH rfl rfl (fun w hw=>⟨rfl,ac hw⟩)
def turn(x:BitVec 32)(n:Nat):BitVec 32:=(x>>>n)|||(x<<<(32-n))
def uz(x:BitVec 32):BitVec 32:=mi x (-6)^^^mi x (-11)^^^mi x (-25)
theorem Aj(x:BitVec 32):PUR 301 [U32 x] (U32 (uz x)):=by
 intro w hw
 refine Hf func301 rfl hw<|fun hGF=>Xp<|Asg rfl<|aa<|Xp<|Mv rfl<|Ca rfl (dJ _ _)<|Mv rfl<|Ca rfl (dJ _ _)<|Bnr rfl rfl (fun _=>cG _ _ _)<|Mv rfl<|Ca rfl (dJ _ _)<|Bnr rfl rfl (fun _=>cG _ _ _)<|Asg rfl<|aa<|am<|Rr<|?_
 exact aH rfl rfl (fun w hw=>⟨rfl,ac hw⟩)
def BK(x:BitVec 32):BitVec 32:=mi x (-2)^^^mi x (-13)^^^mi x (-22)
theorem AD(x:BitVec 32):PUR 302 [U32 x] (U32 (BK x)):=by
 intro w hw
 refine Hf func302 rfl hw<|fun hGF=>Xp<|Asg rfl<|aa<|Xp<|Mv rfl<|Ca rfl (dJ _ _)<|Mv rfl<|Ca rfl (dJ _ _)<|Bnr rfl rfl (fun _=>cG _ _ _)<|Mv rfl<|Ca rfl (dJ _ _)<|Bnr rfl rfl (fun _=>cG _ _ _)<|Asg rfl<|aa<|am<|Rr<|?_
 exact aH rfl rfl (fun w hw=>⟨rfl,ac hw⟩)
def I0(x:BitVec 32):BitVec 32:=mi x (-7)^^^mi x (-18)^^^(x>>>3)
theorem AF(x:BitVec 32):PUR 305 [U32 x] (U32 (I0 x)):=by
 intro w hw
 refine Hf func305 rfl hw<|fun hGF=>Xp<|Asg rfl<|aa<|Xp<|Mv rfl<|Ca rfl (dJ _ _)<|Mv rfl<|Ca rfl (dJ _ _)<|Bnr rfl rfl (fun _=>cG _ _ _)<|Mv rfl<|Bnr rfl rfl (fun _=>eZ _ _ _)<|Bnr rfl rfl (fun _=>cG _ _ _)<|Asg rfl<|aa<|am<|Rr<|?_
 exact aH rfl rfl (fun w hw=>⟨rfl,ac hw⟩)
def G1(x:BitVec 32):BitVec 32:=mi x (-17)^^^mi x (-19)^^^(x>>>10)
theorem Am(x:BitVec 32):PUR 304 [U32 x] (U32 (G1 x)):=by
 intro w hw
 refine Hf func304 rfl hw<|fun hGF=>Xp<|Asg rfl<|aa<|Xp<|Mv rfl<|Ca rfl (dJ _ _)<|Mv rfl<|Ca rfl (dJ _ _)<|Bnr rfl rfl (fun _=>cG _ _ _)<|Mv rfl<|Bnr rfl rfl (fun _=>eZ _ _ _)<|Bnr rfl rfl (fun _=>cG _ _ _)<|Asg rfl<|aa<|am<|Rr<|?_
 exact aH rfl rfl (fun w hw=>⟨rfl,ac hw⟩)
end Sh
end
section
open Go.RowKit
namespace Sh
def w4(bl:L8)(i:Nat):BitVec 32:=((bl.getD (4*i) 0).setWidth 32<<<24)|||((bl.getD (4*i+1) 0).setWidth 32<<<16)|||((bl.getD (4*i+2) 0).setWidth 32<<<8)|||(bl.getD (4*i+3) 0).setWidth 32
def W1(bl:L8):Nat→L3
 |0=>List.replicate 64 0#32
 |k+1=>(W1 bl k).set k (w4 bl k)
theorem wJ(bl:L8): ∀k,(W1 bl k).length=64
 |0=>by simp[W1]
 |k+1=>by simp[W1,wJ bl k]
def w5(ws:L3)(i:Nat):BitVec 32:=G1 (ws.getD (i-2) 0)+ws.getD (i-7) 0+I0 (ws.getD (i-15) 0)+ws.getD (i-16) 0
def W2(bl:L8):Nat→L3
 |0=>W1 bl 16
 |k+1=>(W2 bl k).set (16+k) (w5 (W2 bl k) (16+k))
theorem fZ(bl:L8): ∀k,(W2 bl k).length=64
 |0=>wJ bl 16
 |k+1=>by simp[W2,fZ bl k]
theorem wH(bl:L8)(hb:bl.length=64):PUR 300 [.agg (bl.map U8).toArray] (.agg ((W2 bl 48).map U32).toArray):=by
 intro w hw
 refine Hf func300 rfl hw<|fun hGF=>Xp<|Bx 1 hGF rfl<|fun b1=>Al 2 hGF zv106<|fun b2=>aa<|Xp<|Al 3 hGF zv106<|fun b3=>aa<|ah<|Xp<|Mv rfl<|aa<|aj<|cH (ι:={i:Nat // i≤16}) (fun x=>[(6,I (x.1:Int)),(1,pnt b1),(2,pnt b2),(3,pnt b3)]) (fun x=>[(3,b3,(W1 bl x.1).map U32,106),(2,b2,(List.replicate 64 (0#32)).map U32,106),(1,b1,bl.map U8,313)]) (fun x=>16-x.1) ⟨0,om⟩ hGF trv trv<|?_
 rintro ⟨i,hi⟩
 dsimp only
 refine Xp<|Bnr rfl rfl (fun _=>aD _ _ _)<|aa<|ah<|?_
 refine bV rfl (fun hc=> ?_) (fun hc=> ?_)
 ·simp only[decide_eq_true_eq]at hc
  refine ap<|ah<|aj<|Xp<|Mv rfl<|Asg rfl<|aa<|Xe []<|Mv rfl<|Mv rfl<|Bnr rfl rfl (fun _=>bM _ _ _ oi)<|Ia ((4*i)) rfl rfl underlying313 sizeOf5<|Lm 1 U8 0 rfl rfl isAgg5 (by rw[hb];omega)<|cJ rfl rfl (fun _=>ia underlying5 underlying104 _) rfl rfl<|Bnr rfl rfl (fun _=>gV _ _ _)<|Mv rfl<|Bnr rfl rfl (fun _=>bM _ _ _ oi)<|Bnr rfl rfl (fun _=>az _ _ _ oi)<|Ia (((4*i)+1)) rfl rfl underlying313 sizeOf5<|Lm 1 U8 0 rfl rfl isAgg5 (by rw[hb];omega)<|cJ rfl rfl (fun _=>ia underlying5 underlying104 _) rfl rfl<|Bnr rfl rfl (fun _=>gV _ _ _)<|Bnr rfl rfl (fun _=>i4 _ _ _)<|Mv rfl<|Bnr rfl rfl (fun _=>bM _ _ _ oi)<|Bnr rfl rfl (fun _=>az _ _ _ oi)<|Ia (((4*i)+2)) rfl rfl underlying313 sizeOf5<|Lm 1 U8 0 rfl rfl isAgg5 (by rw[hb];omega)<|cJ rfl rfl (fun _=>ia underlying5 underlying104 _) rfl rfl<|Bnr rfl rfl (fun _=>gV _ _ _)<|Bnr rfl rfl (fun _=>i4 _ _ _)<|Mv rfl<|Bnr rfl rfl (fun _=>bM _ _ _ oi)<|Bnr rfl rfl (fun _=>az _ _ _ oi)<|Ia (((4*i)+3)) rfl rfl underlying313 sizeOf5<|Lm 1 U8 0 rfl rfl isAgg5 (by rw[hb];omega)<|cJ rfl rfl (fun _=>ia underlying5 underlying104 _) rfl rfl<|Bnr rfl rfl (fun _=>i4 _ _ _)<|Ia (i) rfl rfl underlying106 sizeOf104<|bu 3 U32 hGF rfl rfl rfl sizeOf104 rfl (by rw[wJ];omega) rfl<|?_
  exact aa<|Xq<|Bnr rfl rfl (fun _=>az _ _ _ oi)<|Mv rfl<|aa<|aV<|⟨rfl,⟨i+1,om⟩,_,by show 16-(i+1)<16-i;omega,rfl,trv,trv⟩
 ·obtain rfl:i=16:=by simp at hc;omega
  refine ba<|ah<|Xp<|Asg rfl<|aa<|aj<|cH (ι:={i:Nat // i≤48}) (fun x=>[(5,I ((16+x.1:Nat):Int)),(2,pnt b2),(3,pnt b3)]) (fun x=>[(3,b3,(W2 bl x.1).map U32,106),(2,b2,(List.replicate 64 (0#32)).map U32,106)]) (fun x=>48-x.1) ⟨0,om⟩ hGF trv trv<|?_
  rintro ⟨j,hj⟩
  dsimp only
  refine ah<|Xp<|Mv rfl<|Bnr rfl rfl (fun _=>aD _ _ _)<|aa<|?_
  refine bV rfl (fun hc=> ?_) (fun hc=> ?_)
  ·simp only[decide_eq_true_eq]at hc
   exact ap<|ah<|aj<|Xe []<|Mv rfl<|Mv rfl<|Bnr rfl rfl (fun _=>bi _ _ _ oi)<|Ia (((16+j)-2)) rfl rfl underlying106 sizeOf104<|Lm 3 U32 0 rfl rfl isAgg104 (by rw[fZ];omega)<|Ca rfl (Am _)<|Mv rfl<|Bnr rfl rfl (fun _=>bi _ _ _ oi)<|Ia (((16+j)-7)) rfl rfl underlying106 sizeOf104<|Lm 3 U32 0 rfl rfl isAgg104 (by rw[fZ];omega)<|Bnr rfl rfl (fun _=>bF _ _ _)<|Mv rfl<|Bnr rfl rfl (fun _=>bi _ _ _ oi)<|Ia (((16+j)-15)) rfl rfl underlying106 sizeOf104<|Lm 3 U32 0 rfl rfl isAgg104 (by rw[fZ];omega)<|Ca rfl (AF _)<|Bnr rfl rfl (fun _=>bF _ _ _)<|Mv rfl<|Bnr rfl rfl (fun _=>bi _ _ _ oi)<|Ia (((16+j)-16)) rfl rfl underlying106 sizeOf104<|Lm 3 U32 0 rfl rfl isAgg104 (by rw[fZ];omega)<|Bnr rfl rfl (fun _=>bF _ _ _)<|Ia ((16+j)) rfl rfl underlying106 sizeOf104<|bu 3 U32 hGF rfl rfl rfl sizeOf104 rfl (by rw[fZ];omega) rfl<|aa<|Xq<|Mv rfl<|Bnr rfl rfl (fun _=>az _ _ _ oi)<|Asg rfl<|aa<|aV<|⟨rfl,⟨j+1,om⟩,_,by show 48-(j+1)<48-j;omega,rfl,trv,trv⟩
  ·obtain rfl:j=48:=by simp at hc;omega
   refine ba<|Xp<|Lw 3 rfl rfl xt (fZ _ _)<|Sx 2 hGF rfl rfl rfl xt (fZ _ _) (h9 _)<|aa<|am<|Rr<|?_
   exact ay 2 rfl rfl rfl isAgg106 sizeOf106 (by rw[List.length_map,fZ]) (fun w hw=>⟨rfl,ac hw⟩)
theorem gk{B:Bs}{L:Hl}{Y:Nat→Prop}(hw:Gt B.w0)(hM: ¬B.M 7)(k:Nat)(hk:k<64): ∀w,Hq B L Y w→w.cell? ⟨7,k,none⟩=some (U32 (KW.getD k 0)):=by
 have:=hw.g7 k _ (gm U32 KW 0 k hk)
 rw[Nat.zero_add]at this
 exact mT this hM
structure V8 where
 (a b c d e f g h:BitVec 32)
def rnd(v:V8)(k w:BitVec 32):V8:=
 ⟨(v.h+uz v.e+(v.e &&& v.f^^^ ~~~v.e &&& v.g)+k+w)+(BK v.a+(v.a &&& v.b^^^v.a &&& v.c^^^v.b &&& v.c)),v.a,v.b,v.c,v.d+(v.h+uz v.e+(v.e &&& v.f^^^ ~~~v.e &&& v.g)+k+w),v.e,v.f,v.g⟩
def nt(v:V8)(ws:L3):Nat→V8
 |0=>v
 |k+1=>rnd (nt v ws k) (KW.getD k 0) (ws.getD k 0)
def v8(st:L3):V8:=⟨st.getD 0 0,st.getD 1 0,st.getD 2 0,st.getD 3 0,st.getD 4 0,st.getD 5 0,st.getD 6 0,st.getD 7 0⟩
def RN(st:L3)(v:V8):L3:=[st.getD 0 0+v.a,st.getD 1 0+v.b,st.getD 2 0+v.c,st.getD 3 0+v.d,st.getD 4 0+v.e,st.getD 5 0+v.f,st.getD 6 0+v.g,st.getD 7 0+v.h]
def ul(st:L3)(bl:L8):L3:=RN st (nt (v8 st) (W2 bl 48) 64)
theorem qX(st:L3)(bl:L8)(hs:st.length=8)(hb:bl.length=64):PUR 294 [.agg (st.map U32).toArray,.agg (bl.map U8).toArray] (.agg ((ul st bl).map U32).toArray):=by
 intro w hw
 refine Hf func294 rfl hw<|fun hGF=>Xp<|Bx 2 hGF rfl<|fun b2=>Bx 3 hGF rfl<|fun b3=>Al 4 hGF zv105<|fun b4=>aa<|Xp<|Lw 3 rfl rfl yW hb<|Ca rfl (wH _ hb)<|Al 5 hGF zv106<|fun b5=>Sx 5 hGF rfl rfl rfl xt (fZ _ _) (h9 _)<|aa<|Xd []<|Ia (0) rfl rfl underlying105 sizeOf104<|Lm 2 U32 0 rfl rfl isAgg104 (by rw[hs];omega)<|Ia (1) rfl rfl underlying105 sizeOf104<|Lm 2 U32 0 rfl rfl isAgg104 (by rw[hs];omega)<|Ia (2) rfl rfl underlying105 sizeOf104<|Lm 2 U32 0 rfl rfl isAgg104 (by rw[hs];omega)<|Ia (3) rfl rfl underlying105 sizeOf104<|Lm 2 U32 0 rfl rfl isAgg104 (by rw[hs];omega)<|Asg rfl<|Asg rfl<|Asg rfl<|Asg rfl<|aa<|Xd []<|Ia (4) rfl rfl underlying105 sizeOf104<|Lm 2 U32 0 rfl rfl isAgg104 (by rw[hs];omega)<|Ia (5) rfl rfl underlying105 sizeOf104<|Lm 2 U32 0 rfl rfl isAgg104 (by rw[hs];omega)<|Ia (6) rfl rfl underlying105 sizeOf104<|Lm 2 U32 0 rfl rfl isAgg104 (by rw[hs];omega)<|Ia (7) rfl rfl underlying105 sizeOf104<|Lm 2 U32 0 rfl rfl isAgg104 (by rw[hs];omega)<|Asg rfl<|Asg rfl<|Asg rfl<|Asg rfl<|aa<|?_
 refine ah<|Xp<|Lw 5 rfl rfl xt (fZ _ _)<|Mv rfl<|aa<|aj<|cH (ι:={i:Nat // i≤64}) (fun x=>[(39,I (x.1:Int)),(2,pnt b2),(4,pnt b4),(6,U32 (nt (v8 st) (W2 bl 48) x.1).a),(7,U32 (nt (v8 st) (W2 bl 48) x.1).b),(8,U32 (nt (v8 st) (W2 bl 48) x.1).c),(9,U32 (nt (v8 st) (W2 bl 48) x.1).d),(10,U32 (nt (v8 st) (W2 bl 48) x.1).e),(11,U32 (nt (v8 st) (W2 bl 48) x.1).f),(12,U32 (nt (v8 st) (W2 bl 48) x.1).g),(13,U32 (nt (v8 st) (W2 bl 48) x.1).h),(38,.agg ((W2 bl 48).map U32).toArray)]) (fun x=>[(2,b2,st.map U32,105),(4,b4,(List.replicate 8 (0#32)).map U32,105)]) (fun x=>64-x.1) ⟨0,om⟩ hGF trv trv<|?_
 rintro ⟨i,hi⟩
 dsimp only
 refine Xp<|Bnr rfl rfl (fun _=>aD _ _ _)<|aa<|ah<|?_
 refine bV rfl (fun hc=> ?_) (fun hc=> ?_)
 ·simp only[decide_eq_true_eq]at hc
  refine ap<|ah<|aj<|Xp<|Mv rfl<|i7 U32 0 (i) rfl rfl underlying106 sizeOf104 isAgg104 om om (fZ _ _) rfl rfl<|Asg rfl<|Asg rfl<|aa<|Xp<|Mv rfl<|Mv rfl<|Bnr rfl rfl (fun _=>fU _ _ _)<|Mv rfl<|aY rfl (fun _=>v7 _) rfl rfl<|Mv rfl<|Bnr rfl rfl (fun _=>fU _ _ _)<|Bnr rfl rfl (fun _=>cG _ _ _)<|Asg rfl<|aa<|Xd []<|Mv rfl<|Mv rfl<|Ca rfl (Aj _)<|Bnr rfl rfl (fun _=>bF _ _ _)<|Mv rfl<|Bnr rfl rfl (fun _=>bF _ _ _)<|Mv rfl<|Ia (i) rfl rfl underlying106 sizeOf104<|bt rfl isAgg104 (gk (B:=pl w) hw (fun h=>h) (i) om) rfl rfl<|Bnr rfl rfl (fun _=>bF _ _ _)<|Mv rfl<|Bnr rfl rfl (fun _=>bF _ _ _)<|Asg rfl<|aa<|Xp<|Mv rfl<|Mv rfl<|Bnr rfl rfl (fun _=>fU _ _ _)<|Mv rfl<|?_
  refine Mv rfl<|Bnr rfl rfl (fun _=>fU _ _ _)<|Bnr rfl rfl (fun _=>cG _ _ _)<|Mv rfl<|Mv rfl<|Bnr rfl rfl (fun _=>fU _ _ _)<|Bnr rfl rfl (fun _=>cG _ _ _)<|Asg rfl<|aa<|Xp<|Mv rfl<|Ca rfl (AD _)<|Mv rfl<|Bnr rfl rfl (fun _=>bF _ _ _)<|Asg rfl<|aa<|Xp<|Mv rfl<|Mv rfl<|Mv rfl<|Mv rfl<|Mv rfl<|Bnr rfl rfl (fun _=>bF _ _ _)<|Asg rfl<|Asg rfl<|Asg rfl<|Asg rfl<|aa<|Xq<|Mv rfl<|Mv rfl<|Mv rfl<|Mv rfl<|Mv rfl<|Bnr rfl rfl (fun _=>bF _ _ _)<|Asg rfl<|Asg rfl<|Asg rfl<|Asg rfl<|aa<|?_
  exact Xq<|Bnr rfl rfl (fun _=>az _ _ _ oi)<|Mv rfl<|aa<|aV<|⟨rfl,⟨i+1,om⟩,_,by show 64-(i+1)<64-i;omega,rfl,trv,trv⟩
 ·obtain rfl:i=64:=by simp at hc;omega
  refine ba<|Xp<|Ia (0) rfl rfl underlying105 sizeOf104<|Lm 2 U32 0 rfl rfl isAgg104 (by rw[hs];omega)<|Mv rfl<|Bnr rfl rfl (fun _=>bF _ _ _)<|Ia (1) rfl rfl underlying105 sizeOf104<|Lm 2 U32 0 rfl rfl isAgg104 (by rw[hs];omega)<|Mv rfl<|Bnr rfl rfl (fun _=>bF _ _ _)<|Ia (2) rfl rfl underlying105 sizeOf104<|Lm 2 U32 0 rfl rfl isAgg104 (by rw[hs];omega)<|Mv rfl<|Bnr rfl rfl (fun _=>bF _ _ _)<|Ia (3) rfl rfl underlying105 sizeOf104<|Lm 2 U32 0 rfl rfl isAgg104 (by rw[hs];omega)<|Mv rfl<|Bnr rfl rfl (fun _=>bF _ _ _)<|Ia (4) rfl rfl underlying105 sizeOf104<|Lm 2 U32 0 rfl rfl isAgg104 (by rw[hs];omega)<|Mv rfl<|Bnr rfl rfl (fun _=>bF _ _ _)<|Ia (5) rfl rfl underlying105 sizeOf104<|Lm 2 U32 0 rfl rfl isAgg104 (by rw[hs];omega)<|Mv rfl<|Bnr rfl rfl (fun _=>bF _ _ _)<|Ia (6) rfl rfl underlying105 sizeOf104<|Lm 2 U32 0 rfl rfl isAgg104 (by rw[hs];omega)<|Mv rfl<|Bnr rfl rfl (fun _=>bF _ _ _)<|Ia (7) rfl rfl underlying105 sizeOf104<|Lm 2 U32 0 rfl rfl isAgg104 (by rw[hs];omega)<|Mv rfl<|Bnr rfl rfl (fun _=>bF _ _ _)<|rj (n:=8) rfl rfl underlying105 sizeOf104 zeroValue105 rfl rfl rfl rfl<|aw 4 hGF rfl rfl rfl sizeOf105 rfl (by rw[List.length_map,List.length_replicate]) rfl rfl<|aa<|am<|Rr<|?_
  exact ay 4 rfl rfl rfl isAgg105 sizeOf105 rfl (fun w hw=>⟨rfl,ac hw⟩)
def IV:L3:=[0x6a09e667#32,0xbb67ae85#32,0x3c6ef372#32,0xa54ff53a#32,0x510e527f#32,0x9b05688c#32,0x1f83d9ab#32,0x5be0cd19#32]
theorem wB  :PUR 299 [] (.agg (IV.map U32).toArray):=by
 intro w hw
 refine Hf func299 rfl hw<|fun hGF=>Xp<|Al 0 hGF zv105<|fun b0=>aa<|Xp<|rj (n:=8) rfl rfl underlying105 sizeOf104 zeroValue105 rfl rfl rfl rfl<|aw 0 hGF rfl rfl rfl sizeOf105 rfl (by rw[List.length_map,List.length_replicate]) rfl rfl<|aa<|am<|Rr<|?_
 exact ay 0 rfl rfl rfl isAgg105 sizeOf105 rfl (fun w hw=>⟨rfl,ac hw⟩)
def DG(st:L3):Nat→L8
 |0=>List.replicate 32 0#8
 |k+1=>((((DG st k).set (4*k) ((st.getD k 0>>>24).setWidth 8)).set (4*k+1) ((st.getD k 0>>>16).setWidth 8)).set (4*k+2) ((st.getD k 0>>>8).setWidth 8)).set (4*k+3) ((st.getD k 0).setWidth 8)
theorem ep(st:L3): ∀k,(DG st k).length=32
 |0=>by simp[DG]
 |k+1=>by simp[DG,ep st k]
theorem tp(st:L3)(hs:st.length=8):PUR 295 [.agg (st.map U32).toArray] (.agg ((DG st 8).map U8).toArray):=by
 intro w hw
 refine Hf func295 rfl hw<|fun hGF=>Xp<|Bx 1 hGF rfl<|fun b1=>Al 2 hGF zv112<|fun b2=>aa<|Xp<|Al 3 hGF zv112<|fun b3=>aa<|ah<|Xp<|Lw 1 rfl rfl m7 hs<|Mv rfl<|aa<|aj<|cH (ι:={i:Nat // i≤8}) (fun x=>[(7,I (x.1:Int)),(2,pnt b2),(3,pnt b3),(6,.agg (st.map U32).toArray)]) (fun x=>[(3,b3,(DG st x.1).map U8,112),(2,b2,(List.replicate 32 (0#8)).map U8,112)]) (fun x=>8-x.1) ⟨0,om⟩ hGF trv trv<|?_
 rintro ⟨i,hi⟩
 dsimp only
 refine Xp<|Bnr rfl rfl (fun _=>aD _ _ _)<|aa<|ah<|?_
 refine bV rfl (fun hc=> ?_) (fun hc=> ?_)
 ·simp only[decide_eq_true_eq]at hc
  refine ap<|ah<|aj<|Xp<|Mv rfl<|i7 U32 0 (i) rfl rfl underlying105 sizeOf104 isAgg104 om om (hs) rfl rfl<|Asg rfl<|Asg rfl<|aa<|Xp<|Mv rfl<|Bnr rfl rfl (fun _=>bM _ _ _ oi)<|Mv rfl<|Bnr rfl rfl (fun _=>eZ _ _ _)<|cJ rfl rfl (fun _=>g9 underlying104 underlying5 _) rfl rfl<|Ia ((4*i)) rfl rfl underlying112 sizeOf5<|bu 3 U8 hGF rfl rfl rfl sizeOf5 rfl (by simp[ep];omega) rfl<|aa<|Xp<|Mv rfl<|Bnr rfl rfl (fun _=>bM _ _ _ oi)<|Bnr rfl rfl (fun _=>az _ _ _ oi)<|Mv rfl<|Bnr rfl rfl (fun _=>eZ _ _ _)<|cJ rfl rfl (fun _=>g9 underlying104 underlying5 _) rfl rfl<|Ia (((4*i)+1)) rfl rfl underlying112 sizeOf5<|bu 3 U8 hGF rfl rfl rfl sizeOf5 rfl (by simp[ep];omega) rfl<|aa<|Xp<|Mv rfl<|Bnr rfl rfl (fun _=>bM _ _ _ oi)<|Bnr rfl rfl (fun _=>az _ _ _ oi)<|Mv rfl<|Bnr rfl rfl (fun _=>eZ _ _ _)<|cJ rfl rfl (fun _=>g9 underlying104 underlying5 _) rfl rfl<|Ia (((4*i)+2)) rfl rfl underlying112 sizeOf5<|bu 3 U8 hGF rfl rfl rfl sizeOf5 rfl (by simp[ep];omega) rfl<|aa<|Xq<|Mv rfl<|?_
  exact Bnr rfl rfl (fun _=>bM _ _ _ oi)<|Bnr rfl rfl (fun _=>az _ _ _ oi)<|Mv rfl<|cJ rfl rfl (fun _=>g9 underlying104 underlying5 _) rfl rfl<|Ia (((4*i)+3)) rfl rfl underlying112 sizeOf5<|bu 3 U8 hGF rfl rfl rfl sizeOf5 rfl (by simp[ep];omega) rfl<|aa<|Xq<|Bnr rfl rfl (fun _=>az _ _ _ oi)<|Mv rfl<|aa<|aV<|⟨rfl,⟨i+1,om⟩,_,by show 8-(i+1)<8-i;omega,rfl,trv,trv⟩
 ·obtain rfl:i=8:=by simp at hc;omega
  refine ba<|Xp<|Lw 3 rfl rfl u2 (ep _ _)<|Sx 2 hGF rfl rfl rfl u2 (ep _ _) (bH _)<|aa<|am<|Rr<|?_
  exact ay 2 rfl rfl rfl isAgg112 sizeOf112 (by rw[List.length_map,ep]) (fun w hw=>⟨rfl,ac hw⟩)
end Sh
end
section
open Go.RowKit
namespace Sh
theorem Eo:(prog.info? 5).map (·.size)=some 1:=kr
def e1(rs:L8):L8:=(rs++List.replicate (64-rs.length) 0#8).set rs.length 128#8
theorem Ct(rs:L8)(h:rs.length≤64):(e1 rs).length=64:=by simp[e1];omega
def LB(bl:L8)(n:BitVec 64):Nat→L8
 |0=>bl
 |k+1=>(LB bl n k).set (56+k) (((8#64*n)>>>(56-8*(k:Int)).toNat).setWidth 8)
theorem vm(bl:L8)(n:BitVec 64): ∀k,(LB bl n k).length=bl.length
 |0=>rfl
 |k+1=>by simp[LB,vm bl n k]
theorem rZ(rs:L8)(n:BitVec 64)(h:rs.length≤64)(k:Nat):(LB (e1 rs) n k).length=64:=by rw[vm,Ct rs h]
theorem ry(n:BitVec 64)(k:Nat):(LB (List.replicate 64 0#8) n k).length=64:=by rw[vm];simp
def rL(br bn:Nat)(a:Option Addr)(cap:Nat)(rs:L8)(n:BitVec 64):Cls:=fun W=>W.cell? ⟨br,0,none⟩=some (.slice a rs.length cap)∧W.cell? ⟨bn,0,none⟩=some (U64 n)∧BytesAt W a rs
def enc(bl:L8):List Value:=[.agg (bl.map U8).toArray]
theorem bx{J:(Nat→Prop)→World→Prop}(h:Rides J){L:Hl}{w:World}(hj:J (fun b=>Yof L b∨False) w):J (fun _=>False) w:=h.less _ _ _ (fun _ h=>h.elim) hj
theorem AM(br bn:Nat)(a:Option Addr)(cap:Nat)(rs:L8)(n:BitVec 64)(h:rs.length<56):ek prog Gt 303 [pnt br,pnt bn] [enc (LB (e1 rs) n 8)] (rL br bn a cap rs n):=by
 intro l J Jx hJ hJx hRd hGx hY w hj
 have okJ: ∀k,BOk Gt (Bi w (fun Y=>J Y k)):=fun k=>⟨fun _ _ _ h=>(hRd _ _ _ h.rid).1,hJ k⟩
 have okX: ∀k,BOk Gt (Bi w (fun Y=>Jx Y k)):=fun k=>⟨fun _ _ _ h=>hGx _ _ _ h.rid,hJx k⟩
 have c1: ∀k L w',Hp (Bi w (fun Y=>J Y k)) L w'→rL br bn a cap rs n w':=fun k L w' h=>(hRd _ _ _ h.rid).2
 refine bY (G:=Gt) func303 rfl rfl (Hp (Bi w (fun Y=>J Y 0)) []) (bN (Bi w _) hj (hJ 0)) (aq (okJ 0))<|Xp<|Al 4 (okJ _) zv313<|fun b4=>aa<|Xd []<|cf (l:=0) (h':=64) rfl underlying313 sizeOf5 rfl rfl om om rfl rfl<|bt rfl isAgg22 (fun w h=>(c1 _ _ w h).1) rfl rfl<|fy 4 (okJ _) rfl rfl rfl underlying22 Eo (by show rs.length=Nat.min rs.length 64;exact (Nat.min_eq_left om).symm) (fun w h=>(c1 _ _ w h).2.2) (by simp;omega) rfl rfl<|?_
 rw[sB rs 64 om]
 refine aa<|Xp<|bt rfl isAgg22 (fun w h=>(c1 _ _ w h).1) rfl rfl<|bv rfl (fun _=>aL underlying22 _ _ _ _) rfl rfl<|Ia (rs.length) rfl rfl underlying313 sizeOf5<|bu 4 U8 (okJ _) rfl rfl rfl sizeOf5 rfl (by simp;omega) rfl<|aa<|ah<|Xp<|bt rfl isAgg22 (fun w h=>(c1 _ _ w h).1) rfl rfl<|bv rfl (fun _=>aL underlying22 _ _ _ _) rfl rfl<|Bnr rfl rfl (fun _=>dK _ _ _)<|aa<|av (by show some (Value.bool (decide ((rs.length:Int)≥56)))=_;rw[decide_eq_false om])<|ap<|Xp<|bt rfl isAgg24 (fun w h=>(c1 _ _ w h).2.1) rfl rfl<|Bnr rfl rfl (fun _=>cI _ _ _)<|Asg rfl<|aa<|ah<|Xp<|Mv rfl<|aa<|aj<|cH (ι:={i:Nat // i≤8}) (fun x=>[(23,I (x.1:Int)),(0,.func (.yield l) #[] #[]),(4,pnt b4),(5,U64 (8#64*n))]) (fun x=>[(4,b4,(LB (e1 rs) n x.1).map U8,313)]) (fun x=>8-x.1) ⟨0,om⟩ (okJ _) trv trv<|?_
 rintro ⟨i,hi⟩
 dsimp only
 refine Xp<|Bnr rfl rfl (fun _=>aD _ _ _)<|aa<|ah<|?_
 refine bV rfl (fun hc=> ?_) (fun hc=> ?_)
 ·simp only[decide_eq_true_eq]at hc
  exact ap<|ah<|aj<|Xp<|Mv rfl<|Asg rfl<|aa<|Xq<|Mv rfl<|Bnr rfl rfl (fun _=>az _ _ _ oi)<|Mv rfl<|Mv rfl<|Bnr rfl rfl (fun _=>bM _ _ _ oi)<|Bnr rfl rfl (fun _=>bi _ _ _ oi)<|Bnr rfl rfl (fun _=>eD _ _ _ om)<|cJ rfl rfl (fun _=>g8 underlying24 underlying5 _) rfl rfl<|Ia ((56+i)) rfl rfl underlying313 sizeOf5<|bu 4 U8 (okJ _) rfl rfl rfl sizeOf5 rfl (by rw[rZ rs n om];omega) rfl<|aa<|Xq<|Bnr rfl rfl (fun _=>az _ _ _ oi)<|Mv rfl<|aa<|aV<|⟨rfl,⟨i+1,om⟩,_,by show 8-(i+1)<8-i;omega,rfl,trv,trv⟩
 ·obtain rfl:i=8:=by simp at hc;omega
  refine ba<|Xq<|Mv rfl<|Lw 4 rfl rfl yW (by rw[rZ rs n om])<|?_
  refine cN (hY.b (k:=0) rfl w) (okJ _) (okX _) rfl rfl rfl rfl rfl ?_ ?_
  ·exact aa<|ci rfl (fun w hw=>⟨⟨_,rfl⟩,.inl (bx (hJ _) hw.rid)⟩)
  ·exact aa<|ci rfl (fun w hw=>⟨⟨_,rfl⟩,.inr ⟨_,bx (hJx _) hw.rid⟩⟩)
theorem Da(br bn:Nat)(a:Option Addr)(cap:Nat)(rs:L8)(n:BitVec 64)(h:56≤rs.length)(h2:rs.length<64):ek prog Gt 303 [pnt br,pnt bn] [enc (e1 rs),enc (LB (List.replicate 64 0#8) n 8)] (rL br bn a cap rs n):=by
 intro l J Jx hJ hJx hRd hGx hY w hj
 have okJ: ∀k,BOk Gt (Bi w (fun Y=>J Y k)):=fun k=>⟨fun _ _ _ h=>(hRd _ _ _ h.rid).1,hJ k⟩
 have okX: ∀k,BOk Gt (Bi w (fun Y=>Jx Y k)):=fun k=>⟨fun _ _ _ h=>hGx _ _ _ h.rid,hJx k⟩
 have c1: ∀k L w',Hp (Bi w (fun Y=>J Y k)) L w'→rL br bn a cap rs n w':=fun k L w' h=>(hRd _ _ _ h.rid).2
 refine bY (G:=Gt) func303 rfl rfl (Hp (Bi w (fun Y=>J Y 0)) []) (bN (Bi w _) hj (hJ 0)) (aq (okJ 0))<|Xp<|Al 4 (okJ _) zv313<|fun b4=>aa<|Xd []<|cf (l:=0) (h':=64) rfl underlying313 sizeOf5 rfl rfl om om rfl rfl<|bt rfl isAgg22 (fun w h=>(c1 _ _ w h).1) rfl rfl<|fy 4 (okJ _) rfl rfl rfl underlying22 Eo (by show rs.length=Nat.min rs.length 64;exact (Nat.min_eq_left om).symm) (fun w h=>(c1 _ _ w h).2.2) (by simp;omega) rfl rfl<|?_
 rw[sB rs 64 om]
 refine aa<|Xp<|bt rfl isAgg22 (fun w h=>(c1 _ _ w h).1) rfl rfl<|bv rfl (fun _=>aL underlying22 _ _ _ _) rfl rfl<|Ia (rs.length) rfl rfl underlying313 sizeOf5<|bu 4 U8 (okJ _) rfl rfl rfl sizeOf5 rfl (by simp;omega) rfl<|aa<|ah<|Xp<|bt rfl isAgg22 (fun w h=>(c1 _ _ w h).1) rfl rfl<|bv rfl (fun _=>aL underlying22 _ _ _ _) rfl rfl<|Bnr rfl rfl (fun _=>dK _ _ _)<|aa<|aU (by show some (Value.bool (decide ((rs.length:Int)≥56)))=_;rw[decide_eq_true om])<|ah<|Xp<|Mv rfl<|bT 4 rfl rfl isAgg313 sizeOf313 (by simp;omega) rfl rfl<|?_
 refine cN (hY.b (k:=0) rfl w) (okJ _) (okX _) rfl rfl rfl rfl rfl ?_ ?_
 ·refine aY rfl (fun _=>aK _) rfl rfl<|aa<|av rfl<|ap<|Xq<|fG zv313 underlying313 sizeOf5 rfl rfl<|aw 4 (okJ _) rfl rfl rfl sizeOf313 (by rw[List.length_map,List.length_replicate]) (by simp;omega) (bH _) rfl<|aa<|Xp<|bt rfl isAgg24 (fun w h=>(c1 _ _ w h).2.1) rfl rfl<|Bnr rfl rfl (fun _=>cI _ _ _)<|Asg rfl<|aa<|ah<|Xp<|Mv rfl<|aa<|aj<|cH (ι:={i:Nat // i≤8}) (fun x=>[(23,I (x.1:Int)),(0,.func (.yield l) #[] #[]),(4,pnt b4),(5,U64 (8#64*n))]) (fun x=>[(4,b4,(LB (List.replicate 64 0#8) n x.1).map U8,313)]) (fun x=>8-x.1) ⟨0,om⟩ (okJ _) trv trv<|?_
  rintro ⟨i,hi⟩
  dsimp only
  refine Xp<|Bnr rfl rfl (fun _=>aD _ _ _)<|aa<|ah<|?_
  refine bV rfl (fun hc=> ?_) (fun hc=> ?_)
  ·simp only[decide_eq_true_eq]at hc
   exact ap<|ah<|aj<|Xp<|Mv rfl<|Asg rfl<|aa<|Xq<|Mv rfl<|Bnr rfl rfl (fun _=>az _ _ _ oi)<|Mv rfl<|Mv rfl<|Bnr rfl rfl (fun _=>bM _ _ _ oi)<|Bnr rfl rfl (fun _=>bi _ _ _ oi)<|Bnr rfl rfl (fun _=>eD _ _ _ om)<|cJ rfl rfl (fun _=>g8 underlying24 underlying5 _) rfl rfl<|Ia ((56+i)) rfl rfl underlying313 sizeOf5<|bu 4 U8 (okJ _) rfl rfl rfl sizeOf5 rfl (by rw[ry];omega) rfl<|aa<|Xq<|Bnr rfl rfl (fun _=>az _ _ _ oi)<|Mv rfl<|aa<|aV<|⟨rfl,⟨i+1,om⟩,_,by show 8-(i+1)<8-i;omega,rfl,trv,trv⟩
  ·obtain rfl:i=8:=by simp at hc;omega
   refine ba<|Xq<|Mv rfl<|Lw 4 rfl rfl yW (ry _ _)<|?_
   refine cN (hY.b (k:=1) rfl w) (okJ _) (okX _) rfl rfl rfl rfl rfl ?_ ?_
   ·exact aa<|ci rfl (fun w hw=>⟨⟨_,rfl⟩,.inl (bx (hJ _) hw.rid)⟩)
   ·exact aa<|ci rfl (fun w hw=>⟨⟨_,rfl⟩,.inr ⟨_,bx (hJx _) hw.rid⟩⟩)
 ·refine aY rfl (fun _=>aK _) rfl rfl<|aa<|aU rfl<|am<|Rr<|?_
  exact cM rfl (fun w hw=>⟨⟨_,rfl⟩,.inr ⟨_,bx (hJx _) hw.rid⟩⟩)
end Sh
end
section
open Go.RowKit
namespace Sh
def fq(rs:L8)(n:BitVec 64):List L8:=if rs.length<56 then [LB (e1 rs) n 8]else [e1 rs,LB (List.replicate 64 0#8) n 8]
theorem uL(rs:L8)(n:BitVec 64)(h:rs.length<64): ∀bl∈fq rs n,bl.length=64:=by
 unfold fq
 split
 ·intro bl hbl
  rcases List.mem_singleton.1 hbl with rfl
  exact rZ rs n om 8
 ·intro bl hbl
  rcases List.mem_cons.1 hbl with rfl|hbl
  ·exact Ct rs om
  ·rcases List.mem_singleton.1 hbl with rfl
   exact ry n 8
theorem G8(br bn:Nat)(a:Option Addr)(cap:Nat)(rs:L8)(n:BitVec 64)(h:rs.length<64):ek prog Gt 303 [pnt br,pnt bn] ((fq rs n).map enc) (rL br bn a cap rs n):=by
 unfold fq
 split
 ·exact AM br bn a cap rs n (by assumption)
 ·exact Da br bn a cap rs n om h
def gQ(bs:L8):List L8:=(List.range (bs.length / 64)).map fun k=>(bs.drop (64*k)).take 64
def Ak(bs:L8):List L8:=gQ bs++fq (bs.drop (64*(bs.length / 64))) (BitVec.ofInt 64 bs.length)
theorem AJ(bs:L8):(gQ bs).length=bs.length / 64:=by simp[gQ]
theorem sN(sv:Value)(n:BitVec 64)(hs:sv.cells= #[sv])(w:World)(hw:Gt w):CLS 297 [sv,U64 n].toArray w (fun e w'=> ∃b2 b3,e=.returned (.func (.func 303) #[] #[pnt b2,pnt b3])∧Grow w w'∧w.heap.size≤b2∧w.heap.size≤b3∧b2≠b3∧OwnB w' b2 [sv] 22∧OwnB w' b3 [U64 n] 24):=by
 refine Hf func297 rfl hw<|fun hGF=>Xp<|gM 2 hGF rfl rfl rfl<|fun b2=>gM 3 hGF rfl rfl rfl<|fun b3=>Asg rfl<|aa<|Xp<|ft rfl rfl rfl rfl<|Asg rfl<|aa<|am<|Rr<|?_
 exact aH rfl rfl (fun w hw=>⟨b2,b3,rfl,ac hw,(hw.own 2 b2 _ _ rfl).2.elim id False.elim,(hw.own 3 b3 _ _ rfl).2.elim id False.elim,(fun e=>by subst e;exact absurd (hw.inj 2 3 _ _ _ _ _ rfl rfl) dc),(by have:=(hw.own 2 b2 _ _ rfl).1;rw[hs]at this;exact this),(hw.own 3 b3 _ _ rfl).1⟩)
theorem rp{n m:Nat}{b1 b2:Nat}{c1 c2:List Value}{t1 t2:TypeId}(hne:b1≠b2): ∀i j b c t c' t',lkB [(n,b1,c1,t1),(m,b2,c2,t2)] i=some (b,c,t)→lkB [(n,b1,c1,t1),(m,b2,c2,t2)] j=some (b,c',t')→i=j:=by
 intro i j b c t c' t' h1 h2
 rcases aB h1 with ⟨e1,x1⟩|⟨_,h1⟩<;>rcases aB h2 with ⟨e2,x2⟩|⟨_,h2⟩
 ·exact e1.trans e2.symm
 ·rcases aB h2 with ⟨_,x2⟩|⟨_,h2⟩
  ·cases x1;cases x2;exact (hne rfl).elim
  ·cases h2
 ·rcases aB h1 with ⟨_,x1⟩|⟨_,h1⟩
  ·cases x1;cases x2;exact (hne rfl).elim
  ·cases h1
 ·rcases aB h1 with ⟨e1,x1⟩|⟨_,h1⟩
  ·rcases aB h2 with ⟨e2,x2⟩|⟨_,h2⟩
   ·exact e1.trans e2.symm
   ·cases h2
  ·cases h1
end Sh
end
section
open Go.RowKit
namespace Sh
def go(st:L3)(bls:List L8):Nat→L3
 |0=>st
 |k+1=>ul (go st bls k) (bls.getD k [])
theorem gx(st:L3)(bl:L8):(ul st bl).length=8:=rfl
theorem gD(st:L3)(bls:List L8)(h:st.length=8): ∀k,(go st bls k).length=8
 |0=>h
 |_+1=>gx _ _
theorem Au(st:L3)(hs:st.length=8)(gf:Nat)(caps:List Value)(bls:List L8)(hb: ∀bl∈bls,bl.length=64)(Rd:Cls)(he:ai prog gf)(hseq:ek prog Gt gf caps (bls.map enc) Rd)(w:World)(hw:Gt w)(hRs: ∀w',Grow w w'→Rd w'):
 CLS 296 [.agg (st.map U32).toArray,.func (.func gf) #[] caps.toArray].toArray w (fun e w'=>e=.returned (.agg ((go st bls bls.length).map U32).toArray)∧Grow w w'):=by
 have hGF:BOk Gt (pl w):=gt_low.plain hw
 refine ca (G:=Gt) func296 rfl rfl (Hp (pl w) []) (bN (pl w) trivial ak) (aq hGF)<|Xp<|Bx 2 hGF rfl<|fun b2=>Al 4 hGF zv105<|fun b4=>aa<|ah<|Xp<|Mv rfl<|aa<|aj<|?_
 refine dS (fun _=>pl w) (fun _ _=>pl w) (fun _=>hGF) (fun _ _=>hGF) (fun _=>rfl) (fun _ _=>rfl) rfl rfl he hseq (by simp[enc]) rfl (fun k=>[(2,b2,(go st bls k).map U32,105),(4,b4,(List.replicate 8 0#32).map U32,105)]) (fun _ _ _=>False) trv (fun _ _ w' h=>hRs w' (h.below (fun _ h=>h))) ?_ ?_ (fun _ _ _ _ _ h=>h.elim)
 ·intro k x hx R hR
  obtain ⟨hk,rfl⟩:k<bls.length∧enc (bls.getD k [])=x:=by
   rw[List.getElem?_map]at hx
   rcases Nat.lt_or_ge k bls.length with h|h
   ·simp[h]at hx;exact ⟨h,by simpa [h]using hx⟩
   ·simp[h]at hx
  have hb64:(bls.getD k []).length=64:=hb _ (by rw[show bls.getD k []=bls[k]from by simp[hk]];exact List.getElem_mem hk)
  refine Xq<|dd 5 (hR (pl w) rfl hGF).1 zv313 rfl rfl<|fun b5=>aw 5 (hR (pl w) rfl hGF).1 rfl rfl rfl sizeOf313 (by rw[List.length_map,hb64]) (by rw[List.length_map,List.length_replicate]) (bH _) rfl<|aa<|?_
  refine ⟨rfl,_,rfl, ?_⟩
  exact aj<|Xq<|Lw 2 rfl rfl m7 (by rw[gD st bls hs])<|Lw 5 rfl rfl yW hb64<|Ca rfl (qX _ _ (gD _ _ hs _) hb64)<|aw 2 (hR (pl w) rfl hGF).2.1 rfl rfl rfl sizeOf105 (by rw[List.length_map,gx]) (by rw[List.length_map,gD st bls hs]) (h9 _) rfl<|aa<|⟨_,rfl,trv⟩
 ·intro D hD
  refine Xp<|Lw 2 rfl rfl m7 (by rw[gD st bls hs])<|Sx 4 hD rfl rfl rfl m7 (by rw[gD st bls hs]) (h9 _)<|aa<|am<|Rr<|?_
  refine cX (.inl rfl) ak (ay 4 rfl rfl rfl isAgg105 sizeOf105 (by rw[List.length_map,gD st bls hs]) (fun w hw=>⟨?_,ac hw⟩))
  rw[List.length_map]
def SHA(bs:L8):L8:=DG (go IV (Ak bs) (Ak bs).length) 8
theorem gj(bs:L8):(SHA bs).length=32:=ep _ 8
theorem bG{n:Nat}{b1:Nat}{c1:List Value}{t1:TypeId}: ∀i j b c t c' t',lkB [(n,b1,c1,t1)] i=some (b,c,t)→lkB [(n,b1,c1,t1)] j=some (b,c',t')→i=j:=by
 intro i j b c t c' t' h1 h2
 rcases aB h1 with ⟨e1,x1⟩|⟨_,h1⟩
 ·rcases aB h2 with ⟨e2,x2⟩|⟨_,h2⟩
  ·exact e1.trans e2.symm
  ·cases h2
 ·cases h1
end Sh
end
section
open Go.RowKit
namespace Sh
def hc(st:L3)(rs:L8)(n:BitVec 64):List Value:=st.map U32++(rs.map U8++[U64 n])
section
variable {st st':L3} {rs rs':L8} {n m:BitVec 64}
theorem rn(h1:st.length=8)(h2:rs.length=64):(hc st rs n).length=73:=by simp[hc,h1,h2]
theorem qF(h1:st.length=8)(h2:rs.length=64):(hc st rs n)[72]? =some (U64 n):=by
 unfold hc
 rw[List.getElem?_append_right (by simp[h1]),List.getElem?_append_right (by simp[h1,h2])]
 simp[h1,h2]
theorem To: ∀j v,(st.map U32)[j]? =some v→(hc st rs n)[0+j]? =some v:=fun j v hv=>by
 have:j<(st.map U32).length:=by
  rcases Nat.lt_or_ge j (st.map U32).length with h|h
  ·exact h
  ·rw[List.getElem?_eq_none h]at hv;cases hv
 unfold hc
 rw[Nat.zero_add,List.getElem?_append_left this]
 exact hv
theorem KJ(h1:st.length=8): ∀j v,(rs.map U8)[j]? =some v→(hc st rs n)[8+j]? =some v:=fun j v hv=>by
 have:j<(rs.map U8).length:=by
  rcases Nat.lt_or_ge j (rs.map U8).length with h|h
  ·exact h
  ·rw[List.getElem?_eq_none h]at hv;cases hv
 unfold hc
 rw[List.getElem?_append_right (by simp[h1]),List.getElem?_append_left (by simpa [h1]using this)]
 simpa [h1]using hv
theorem Mc(h1:st.length=8)(h1':st'.length=8):lay 0 (st'.map U32) (hc st rs n)=hc st' rs n:=by
 rw[im _ _ _ (by simp[hc,h1,h1'])]
 simp[hc,h1',h1]
theorem uD(h1:st.length=8)(o:Nat)(xs:L8)(h:o+xs.length≤rs.length):lay (8+o) (xs.map U8) (hc st rs n)=hc st (rs.take o++xs++rs.drop (o+xs.length)) n:=by
 rw[im _ _ _ (by simp[hc,h1];omega)]
 simp only[hc,List.take_append,List.drop_append,List.length_map,h1,List.map_append,List.map_take,List.map_drop]
 rw[List.take_of_length_le (by simp[h1]),List.drop_eq_nil_of_le (by simp[h1];omega)]
 rw[show 8+o-8=o from by omega,show o-rs.length=0 from by omega,show 8+o+xs.length-8=o+xs.length from by omega,show o+xs.length-rs.length=0 from by omega]
 simp
theorem QO(h1:st.length=8)(h2:rs.length=64)(h2':rs'.length=64):lay 8 (rs'.map U8) (hc st rs n)=hc st rs' n:=by
 have:=uD (rs:=rs) (n:=n) h1 0 rs' om
 rw[Nat.add_zero]at this
 rw[this,Nat.zero_add,List.drop_eq_nil_of_le om]
 simp
theorem PD(h1:st.length=8)(h2:rs.length=64):(hc st rs n).set 72 (U64 m)=hc st rs m:=by
 unfold hc
 rw[List.set_append_right _ _ (by simp[h1]),List.set_append_right _ _ (by simp[h1,h2])]
 simp[h1,h2]
end
def tl(T:L8):L8:=T.drop (64*(T.length / 64))
theorem kU(T:L8):(tl T).length=T.length % 64:=by simp[tl];omega
def nb(rs:L8):L8:=rs++List.replicate (64-rs.length) 0#8
theorem zQ(rs:L8)(h:rs.length≤64):(nb rs).length=64:=by simp[nb];omega
def full(T:L8):L3:=go IV (gQ T) (T.length / 64)
structure HInv(T:L8)(st:L3)(rs:L8)(n:BitVec 64):Prop where
 len:T.length<9223372036854775808
 st8:st.length=8
 rest:rs=nb (tl T)
 num:n=BitVec.ofNat 64 T.length
 state:64≤T.length→st=full T
theorem HInv.zero:HInv [] (List.replicate 8 0#32) (List.replicate 64 0#8) 0:=⟨sm,sm,by simp[nb,tl],rfl,fun h=>by simp at h⟩
theorem HInv.rs64{T:L8}{st:L3}{rs:L8}{n:BitVec 64}(h:HInv T st rs n):rs.length=64:=by rw[h.rest];exact zQ _ (by rw[kU];omega)
theorem HInv.toNat{T:L8}{st:L3}{rs:L8}{n:BitVec 64}(h:HInv T st rs n):n.toNat=T.length:=by
 have:=h.len
 rw[h.num,BitVec.toNat_ofNat];omega
def rch(st:L3)(n:BitVec 64):L3:=if n<64#64 then IV else st
theorem HInv.rch{T:L8}{st:L3}{rs:L8}{n:BitVec 64}(h:HInv T st rs n):rch st n=full T:=by
 unfold Sh.rch
 by_cases hlt:n<64#64
 ·have:T.length<64:=by have h1:=BitVec.lt_def.1 hlt;rw[h.toNat]at h1;simpa using h1
  rw[if_pos hlt,full,Nat.div_eq_of_lt this];rfl
 ·have: ¬T.length<64:=fun h'=>hlt (BitVec.lt_def.2 (by rw[h.toNat];simpa using h'))
  rw[if_neg hlt];exact h.state om
theorem lq{st:L3}{n:BitVec 64}(h:st.length=8):(rch st n).length=8:=by unfold rch;split;rfl;exact h
theorem i6(st:L3)(a b:List L8): ∀k,(∀i,i<k→a.getD i []=b.getD i [])→go st a k=go st b k
 |0,_=>rfl
 |k+1,h=>by rw[go,go,i6 st a b k (fun i hi=>h i om),h k om]
theorem mV(st:L3)(a b:List L8): ∀k,go st (a++b) (a.length+k)=go (go st a a.length) b k
 |0=>by
  show go st (a++b) a.length=go st a a.length
  exact i6 st _ _ _ (fun i hi=>by simp[List.getElem?_append_left hi])
 |k+1=>by
  rw[←Nat.add_assoc,go,mV st a b k,go]
  congr 1
  simp only[List.getD_eq_getElem?_getD]
  rw[List.getElem?_append_right om,Nat.add_sub_cancel_left]
theorem Ed(T:L8):SHA T=DG (go (full T) (fq (tl T) (BitVec.ofInt 64 T.length)) (fq (tl T) (BitVec.ofInt 64 T.length)).length) 8:=by
 have:=mV IV (gQ T) (fq (tl T) (BitVec.ofInt 64 T.length)) (fq (tl T) (BitVec.ofInt 64 T.length)).length
 unfold SHA
 rw[show Ak T=gQ T++fq (tl T) (BitVec.ofInt 64 T.length)from rfl,List.length_append,this,AJ]
 rfl
theorem HInv.part{T:L8}{st:L3}{rs:L8}{n:BitVec 64}(h:HInv T st rs n)(xs:L8)(hx:T.length % 64+xs.length<64)(hl:(T++xs).length<9223372036854775808):
 HInv (T++xs) st (rs.take (T.length % 64)++xs++rs.drop (T.length % 64+xs.length)) (n+BitVec.ofInt 64 xs.length):=by
 have hd:(T++xs).length / 64=T.length / 64:=by simp;omega
 have ht:tl (T++xs)=tl T++xs:=by
  unfold tl
  rw[hd,List.drop_append_of_le_length om]
 refine ⟨hl,h.st8, ?_, ?_,fun h64=> ?_⟩
 ·have e:=kU T
  rw[h.rest,ht,nb,nb]
  rw[List.take_append_of_le_length om,List.take_of_length_le om,List.drop_append,List.drop_eq_nil_of_le om]
  simp only[List.nil_append,List.append_assoc,List.drop_replicate,List.length_append]
  congr 3
  omega
 ·apply BitVec.eq_of_toNat_eq
  rw[BitVec.toNat_add,h.toNat,BitVec.ofInt_natCast,BitVec.toNat_ofNat,BitVec.toNat_ofNat]
  simp
 ·have h64':64≤T.length:=by simp at h64;omega
  rw[h.state h64',full,full,hd]
  refine i6 _ _ _ _ (fun i hi=> ?_)
  have h1:i<T.length / 64:=hi
  have h2:i<(T++xs).length / 64:=om
  have e1:(gQ T).getD i []=(T.drop (64*i)).take 64:=by simp[gQ,h1]
  have e2:(gQ (T++xs)).getD i []=((T++xs).drop (64*i)).take 64:=by
   unfold gQ
   simp[-List.length_append,h2]
  rw[e1,e2,List.drop_append_of_le_length om,List.take_append_of_le_length (by simp;omega)]
theorem HInv.fill{T:L8}{st:L3}{rs:L8}{n:BitVec 64}(h:HInv T st rs n)(xs:L8)(hx:T.length % 64+xs.length=64)(hl:(T++xs).length<9223372036854775808):
 HInv (T++xs) (ul (full T) (rs.take (T.length % 64)++xs++rs.drop (T.length % 64+xs.length))) (List.replicate 64 0#8) (n+BitVec.ofInt 64 xs.length):=by
 have hd:(T++xs).length / 64=T.length / 64+1:=by simp;omega
 have ht:tl (T++xs)=[]:=by
  unfold tl
  rw[hd]
  apply List.drop_eq_nil_of_le
  simp;omega
 refine ⟨hl,gx _ _,by rw[ht];rfl, ?_,fun _=> ?_⟩
 ·apply BitVec.eq_of_toNat_eq
  rw[BitVec.toNat_add,h.toNat,BitVec.ofInt_natCast,BitVec.toNat_ofNat,BitVec.toNat_ofNat]
  simp
 ·rw[full,full,hd,go]
  have e2: ∀i,i<(T++xs).length / 64→(gQ (T++xs)).getD i []=((T++xs).drop (64*i)).take 64:=fun i hi=>by
   unfold gQ
   simp[-List.length_append,hi]
  congr 1
  ·refine i6 _ _ _ _ (fun i hi=> ?_)
   have e1:(gQ T).getD i []=(T.drop (64*i)).take 64:=by simp[gQ,hi]
   rw[e1,e2 i om,List.drop_append_of_le_length om,List.take_append_of_le_length (by simp;omega)]
  ·have e:=kU T
   rw[e2 _ om,h.rest,nb,List.take_append_of_le_length om,List.take_of_length_le om,List.drop_append,List.drop_eq_nil_of_le om]
   rw[List.drop_append_of_le_length om,show T.drop (64*(T.length / 64))=tl T from rfl,List.take_of_length_le (by simp;omega)]
   simp
   omega
end Sh
end
section
open Go.RowKit
namespace Sh
theorem Ae{w:World}{b:Nat}{c:List Value}{t:TypeId}(h:OwnB w b c t){o:Nat}{cs:List Value}(hc: ∀j v,cs[j]? =some v→c[o+j]? =some v):w.rangeAt b o cs:=fun j v hv=>(h.cell (o+j)).trans (hc j v hv)
theorem kE(bh:Nat)(st:L3)(rs:L8)(n:BitVec 64)(h1:st.length=8)(h2:rs.length=64)(w:World)(hw:Gt w)(ho:OwnB w bh (hc st rs n) 315):
 CLS 293 [pnt bh].toArray w (fun e w'=>e=.returned (.agg ((rch st n).map U32).toArray)∧Grow w w'):=by
 refine Hf func293 rfl hw<|fun hGF=>Xp<|Al 2 hGF zv105<|fun b2=>aa<|ah<|Xp<|Mv rfl<|dQ rfl rfl rfl<|Fa 72 rfl underlying315 rfl sizeOf24<|bt rfl isAgg24 (mT (B:=pl w) ((ho.cell 72).trans (qF h1 h2)) (fun h=>h)) rfl rfl<|Bnr rfl rfl (fun _=>nj _ _ _)<|aa<|?_
 refine bV rfl (fun hc=> ?_) (fun hc=> ?_)
 ·simp only[decide_eq_true_eq]at hc
  refine Xp<|Ca rfl (wB)<|Sx 2 hGF rfl rfl rfl m7 (by rw[(show IV.length=8 from rfl)]) (h9 _)<|aa<|am<|Rr<|?_
  exact ay 2 rfl rfl rfl isAgg105 sizeOf105 rfl (fun w hw=>⟨by rw[rch,if_pos hc],ac hw⟩)
 ·simp only[decide_eq_false_iff_not]at hc
  refine ap<|Xp<|Mv rfl<|dQ rfl rfl rfl<|Fa 0 rfl underlying315 rfl sizeOf105<|df rfl isAgg105 sizeOf105 (by rw[List.length_map,h1]) (eX (B:=pl w) (Ae ho To) (fun h=>h)) rfl rfl<|Sx 2 hGF rfl rfl rfl m7 h1 (h9 _)<|aa<|am<|Rr<|?_
  exact ay 2 rfl rfl rfl isAgg105 sizeOf105 (by rw[List.length_map,h1]) (fun w hw=>⟨by rw[rch,if_neg hc],ac hw⟩)
theorem wa(T:L8)(bh:Nat)(st:L3)(rs:L8)(n:BitVec 64)(hi:HInv T st rs n)(w:World)(hw:Gt w)(ho:OwnB w bh (hc st rs n) 315):
 CLS 283 [pnt bh].toArray w (fun e w'=>e=.returned (.agg ((SHA T).map U8).toArray)∧Grow w w'):=by
 have hGF:BOk Gt (pl w):=gt_low.plain hw
 have hmt:(n % 64#64).toNat=(tl T).length:=by rw[BitVec.toNat_umod,hi.toNat,kU];rfl
 have hm64:(n % 64#64).toNat<64:=by rw[hmt,kU];omega
 have hn:BitVec.ofInt 64 T.length=n:=by rw[hi.num,BitVec.ofInt_natCast]
 refine Hd func283 rfl hGF<|ae (E:=EE [297])<|Al 2 hGF zv112<|fun b2=>aa<|Xd [297]<|Mv rfl<|Cc rfl ent293 (fun w' hw' hG=>kE bh st rs n hi.st8 hi.rs64 w' hG (ho.of_same ((ac hw').block bh ho.lt)))<|Mv rfl<|dQ rfl rfl rfl<|Fa 8 rfl underlying315 rfl sizeOf313<|Mv rfl<|dQ rfl rfl rfl<|Fa 72 rfl underlying315 rfl sizeOf24<|bt rfl isAgg24 (mT (B:=pl w) ((ho.cell 72).trans (qF hi.st8 hi.rs64)) (fun h=>h)) rfl rfl<|Bnr rfl rfl (fun _=>dY _ _ _ dc)<|I3 rfl underlying313 sizeOf5 rfl hm64 rfl rfl<|Mv rfl<|dQ rfl rfl rfl<|Fa 72 rfl underlying315 rfl sizeOf24<|bt rfl isAgg24 (mT (B:=pl w) ((ho.cell 72).trans (qF hi.st8 hi.rs64)) (fun h=>h)) rfl rfl<|?_
 refine cU rfl rfl ent297 rfl rfl (fun w' hw'=>(sN _ _ rfl w' (hGF.g _ _ _ hw')).mono fun e w'' h=> ?_)
 obtain ⟨c2,c3,rfl,hgr,h2,h3,hne,hc2,hc3⟩:=h
 refine ⟨_,_,rfl,aq hGF,hw'.news ak hgr [(31,c2,[.slice (some ⟨bh,8,none⟩) (n % 64#64).toNat 64],22),(32,c3,[U64 n],24)] ?_ ?_, ?_⟩
 ·intro n' b c t hl
  rcases aB hl with ⟨_,e⟩|⟨_,hl⟩
  ·cases e;exact ⟨h2,hc2⟩
  ·rcases aB hl with ⟨_,e⟩|⟨_,hl⟩
   ·cases e;exact ⟨h3,hc3⟩
   ·cases hl
 ·exact rp hne
 refine Cc rfl ent296 (fun w' hw' hG=>Au (rch st n) (lq hi.st8) 303 [pnt c2,pnt c3] (fq (tl T) n) (uL _ _ (by rw[kU];omega)) (rL c2 c3 (some ⟨bh,8,none⟩) 64 (tl T) n) ent303 (G8 c2 c3 (some ⟨bh,8,none⟩) 64 (tl T) n (by rw[kU];omega)) w' hG (fun w3 hg3=> ?_)) ?_
 ·have hx:=hw'.grow ak hg3
  refine ⟨by rw[←hmt];exact cy (n:=31) rfl rfl w3 hx,cy (n:=32) rfl rfl w3 hx,BytesAt.range ?_⟩
  intro j v hv
  refine mT (B:=pl w) ((ho.cell (8+j)).trans ?_) (fun h=>h) w3 hx
  refine KJ hi.st8 j v ?_
  rw[hi.rest,nb,List.map_append]
  have hlt:j<((tl T).map U8).length:=by
   rcases Nat.lt_or_ge j ((tl T).map U8).length with h|h
   ·exact h
   ·rw[List.getElem?_eq_none h]at hv;cases hv
  rw[List.getElem?_append_left hlt];exact hv
 refine Ca rfl (tp _ (gD _ _ (lq hi.st8) _))<|Sx 2 hGF rfl rfl rfl u2 (ep _ _) (bH _)<|aa<|am<|Rr<|?_
 exact ay 2 rfl rfl rfl isAgg112 sizeOf112 (by rw[List.length_map,ep]) (fun w hw=>⟨by rw[Ed T,hi.rch,hn],ac hw⟩)
end Sh
end
end Go.Proofs.YtfgacclgjklgnaaGreatDoor
