/- L11 -/
import Derived.Test.YtfgacclgjklgnaaGreatDoorL10
import Derived.Test.YtfgacclgjklgnaaGreatDoorXW
import Derived.Test.YtfgacclgjklgnaaGreatDoorL5
import Derived.Test.YtfgacclgjklgnaaGreatDoorM1
import Derived.Test.YtfgacclgjklgnaaGreatDoorL0
import Derived.Test.YtfgacclgjklgnaaGreatDoorX1
import Derived.Test.YtfgacclgjklgnaaGreatDoorX5
import Derived.Test.YtfgacclgjklgnaaGreatDoorX2
set_option maxRecDepth 100000
set_option maxHeartbeats 1000000
namespace Go.Proofs.YtfgacclgjklgnaaGreatDoor
open Go.Proofs.Tryz
section
open Go.RowKit
attribute [local simp] aV ba aT aO aD bd aK aJ aA PLl cv cw N1l cu cr cq a7 bc aP aZ a9 J1.bi J2.bi Q6.ep Q6.fw
theorem ent237:ai prog 237:=fun _ _=>kr
theorem ent234:ai prog 234:=fun _ _=>kr
theorem ent212:ai prog 212:=fun _ _=>kr
theorem ent211:ai prog 211:=fun _ _=>kr
theorem ent118:ai prog 118:=fun _ _=>kr
namespace Q6
def pwu(u:Nat)(x:W12):W12:=K12.pw x u
theorem UK(x:W12):PUR 237 [cm x] (cm (pwu UG x)):=by
 intro w hw
 have hGF:BOk Gt (pl w):=gt_low.plain hw
 refine bV (G:=Gt) func237 rfl rfl (Hp (pl w) []) (bK (pl w) trivial ak) (ao hGF)<|Xp<|Bx 1 hGF rfl<|fun b1=>Al 2 hGF zv233<|fun b2=>aa<|Xp<|La 1 rfl rfl eG<|Al 3 hGF zv233<|fun b3=>Sa 3 hGF rfl rfl rfl eG<|aa<|ah<|Xp<|Ca rfl (wX)<|aa<|aj<|?_
 refine dS (fun _=>pl w) (fun _ _=>pl w) (fun _=>hGF) (fun _ _=>hGF) (fun _=>rfl) (fun _ _=>rfl) rfl rfl ent240 o8 (fun x hx=>by obtain ⟨k,hk,rfl⟩:=List.mem_map.1 hx;rfl) rfl (fun k=>[(1,b1,mR x,233),(2,b2,(((fe 0++fe 0)++((fe 0++fe 0)++(fe 0++fe 0)))++((fe 0++fe 0)++((fe 0++fe 0)++(fe 0++fe 0)))).map U64,233),(3,b3,mR (pwD x k),233)]) (fun _ _ _=>False) ⟨rfl,rfl,by rw[show pwD x 0=x from K12.pw_one x];rfl,trivial⟩ (fun _ _ _ _=>trivial) ?_ ?_ (fun _ _ _ _ _ h=>h.elim)
 ·intro k v hx R hR
  obtain ⟨hk,rfl⟩:=wA hx
  refine Xq<|Asg rfl<|aa<|?_
  refine ⟨rfl,_,rfl, ?_⟩
  refine aj<|Xp<|La 3 rfl rfl eG<|Ca rfl (iG _)<|aw 3 (hR (pl w) rfl hGF).2.1 rfl rfl rfl sizeOf233 sm sm (bj _) rfl<|aa<|Xp<|Mv rfl<|aa<|?_
  refine bX rfl (fun hc=> ?_) (fun hc=> ?_)
  ·have hd:DGb k=true:=by simpa using hc
   refine Xq<|La 3 rfl rfl eG<|La 1 rfl rfl eG<|Ca rfl (vq _ _)<|aw 3 (hR (pl w) rfl hGF).2.1 rfl rfl rfl sizeOf233 sm sm (bj _) rfl<|aa<|?_
   repeat (first|refine aY ?_|refine bY ?_)
   exact ⟨_,rfl,⟨rfl,rfl,by first|(rw[←Js x hk hd];rfl)|(rw[←JA x hk hd];rfl),trivial⟩⟩
  ·have hd:DGb k=false:=by simpa using hc
   refine ap ?_
   repeat (first|refine aY ?_|refine bY ?_)
   exact ⟨_,rfl,⟨rfl,rfl,by first|(rw[←Js x hk hd];rfl)|(rw[←JA x hk hd];rfl),trivial⟩⟩
 ·intro D hD
  rw[mf]
  refine Xp<|La 3 rfl rfl eG<|Sa 2 hD rfl rfl rfl eG<|aa<|am<|Rr<|?_
  exact cQ (.inl rfl) ak (az 2 rfl rfl rfl isAgg233 sizeOf233 sm (fun w hw=>⟨by rw[pwu,←PF],ae hw⟩))
abbrev HF(f:W12→W12):Prop:= ∀x,PUR 237 [cm x] (cm (f x))
def agI(m:Nat):Ag Unit where
 of:=fun v=>match v with
  | .inr (.inr (.inl (.int .i64 (.ofNat n))))=>bif Nat.beq n m then some ()else none
  |_=>none
 dn:=fun _=>I (m:Int)
 ok:=fun v x r h=>by
  split at h
  ·rename_i n
   obtain ⟨h1,h⟩:=ej h
   show Value.int .i64 (Int.ofNat n)=I (m:Int)
   rw[Nat.eq_of_beq_eq_true h1];rfl
  ·cases h
theorem Qb(x:W12):PUR 235 [cm x,I 1] (cm (bO x)):=yh x 1
theorem LJ(x:W12):PUR 235 [cm x,I 2] (cm (bO (bO x))):=yh x 2
theorem wfr{f:Nat}{g:W12→W12}(m:Nat)(en:ai prog f)(h: ∀a,PUR f [cm a,I (m:Int)] (cm (g a))):Snd prog Gt f (c2 q12.ag (agI m) q12.rd (fun a _=>g a)):=fW q12.ag (agI m) q12.rd en (fun a _=>bN (l2 (V12 _).symm rfl) (V12 _).symm (h a))
def UF{f:W12→W12}(hf:HF f):Tb prog Gt:=TO224.add (cG (g:=f) ent237 hf)
def QU{f:W12→W12}(hf:HF f):Tb prog Gt:=(UF hf).add (wfr (g:=bO) 1 ent235 Qb)
def JM{f:W12→W12}(hf:HF f):Tb prog Gt:=(QU hf).add (wfr (g:=fun x=>bO (bO x)) 2 ent235 LJ)
theorem OQ{α β:Type}(p:α×β):(p.1,p.2)=p:=by cases p;rfl
def pva(f:W12→W12)(x:W12):W12:=K12.mul (f x) x
def pez(x:W12):W12:=fi2 (fi1 x)
def ph1(f:W12→W12)(x:W12):W12:=K12.mul (bO x) (cb (f x))
def ph2(f:W12→W12)(x:W12):W12:=K12.mul (K12.mul (f (f x)) (bO (bO x))) (cb x)
def phd(f:W12→W12)(x:W12):W12:=K12.mul (K12.mul (ph2 f (ph1 f (pva f (pva f x)))) (K12.mul x x)) x
theorem NS{p6:Nat}(h6: ∀x,cb x=K12.pw x p6)(x:W12)(u:Nat):cb (K12.pw x u)=K12.pw (cb x) u:=by rw[h6,h6,←K12.pw_mul,←K12.pw_mul,Nat.mul_comm]
theorem nq(x:W12)(u:Nat):cb (K12.pw x u)=K12.pw (cb x) u:=NS (fun x=>(v9 x).symm) x u
theorem FQ(u:Nat)(x:W12):fi3 u x=cb (pva (pwu u) x):=by rw[fi3,tnd,←iD,pva,pwu]
theorem LK(u:Nat)(x:W12):pva (pwu u) (cb x)=cb (pva (pwu u) x):=by rw[pva,pva,pwu,pwu,←nq,←iD]
theorem TG(u:Nat)(x:W12):pva (pwu u) (pva (pwu u) x)=fi3 u (fi3 u x):=by rw[FQ,FQ,LK,n6]
theorem OG(u:Nat)(x:W12):ph1 (pwu u) x=fi4 u x:=by rw[ph1,fi4,tnd,pwu];exact K12.mul_comm _ _
theorem Oi(u:Nat)(x:W12):ph2 (pwu u) x=fi5 u x:=by rw[ph2,fi5,tnd,tnd,←nq,n6,pwu,pwu]
theorem Qg(u:Nat)(x:W12):phd (pwu u) x=fi6 u x:=by
 rw[phd,TG,OG,Oi]
 show K12.mul (K12.mul _ (K12.mul _ _)) _=K12.mul (K12.mul (K12.mul _ _) _) _
 rw[←K12.mul_assoc]
theorem Ov(u:Nat)(x:W12):rG u x=phd (pwu u) (pez x):=by rw[rG,Qg,pez]
def gP(f:W12→W12)(x:W12):W12:=
 let t0:=f x
 let t1:=K12.mul (((t0.1.1.1,t0.1.1.2),(t0.1.2.1.1,t0.1.2.1.2),(t0.1.2.2.1,t0.1.2.2.2)),((t0.2.1.1,t0.2.1.2),(t0.2.2.1.1,t0.2.2.1.2),(t0.2.2.2.1,t0.2.2.2.2))) x
 t1
theorem F9(f:W12→W12)(x:W12):gP f x=pva f x:=by
 unfold gP
 simp only[OQ]
 rfl
theorem Q3{f:W12→W12}(hf:HF f)(x:W12):PUR 234 [cm x] (cm (gP f x)):=(bN (l1 (V12 _)) (V12 _) (pE (JM hf) func234 [.inl [x.1.1.1,x.1.1.2,x.1.2.1.1,x.1.2.1.2,x.1.2.2.1,x.1.2.2.2,x.2.1.1,x.2.1.2,x.2.2.1.1,x.2.2.1.2,x.2.2.2.1,x.2.2.2.2]] (.inl (.inl [(gP f x).1.1.1,(gP f x).1.1.2,(gP f x).1.2.1.1,(gP f x).1.2.1.2,(gP f x).1.2.2.1,(gP f x).1.2.2.2,(gP f x).2.1.1,(gP f x).2.1.2,(gP f x).2.2.1.1,(gP f x).2.2.1.2,(gP f x).2.2.2.1,(gP f x).2.2.2.2])) (let t0:=f x;let t1:=K12.mul (((t0.1.1.1,t0.1.1.2),(t0.1.2.1.1,t0.1.2.1.2),(t0.1.2.2.1,t0.1.2.2.2)),((t0.2.1.1,t0.2.1.2),(t0.2.2.1.1,t0.2.2.1.2),(t0.2.2.2.1,t0.2.2.2.2))) x;(.inl (.inl [t1.1.1.1,t1.1.1.2,t1.1.2.1.1,t1.1.2.1.2,t1.1.2.2.1,t1.1.2.2.2,t1.2.1.1,t1.2.1.2,t1.2.2.1.1,t1.2.2.1.2,t1.2.2.2.1,t1.2.2.2.2]),[])) [] kr aI kr))
theorem ppva{f:W12→W12}(hf:HF f)(x:W12):PUR 234 [cm x] (cm (pva f x)):=by rw[←F9];exact Q3 hf x
def Kg{f:W12→W12}(hf:HF f):Tb prog Gt:=(JM hf).add (cG (g:=pva f) ent234 (ppva hf))
def gF(x:W12):W12:=
 let t0:=cb x
 let t1:=iA x
 let t2:=K12.mul (((t0.1.1.1,t0.1.1.2),(t0.1.2.1.1,t0.1.2.1.2),(t0.1.2.2.1,t0.1.2.2.2)),((t0.2.1.1,t0.2.1.2),(t0.2.2.1.1,t0.2.2.1.2),(t0.2.2.2.1,t0.2.2.2.2))) (((t1.1.1.1,t1.1.1.2),(t1.1.2.1.1,t1.1.2.1.2),(t1.1.2.2.1,t1.1.2.2.2)),((t1.2.1.1,t1.2.1.2),(t1.2.2.1.1,t1.2.2.1.2),(t1.2.2.2.1,t1.2.2.2.2)))
 let t3:=bO (bO (((t2.1.1.1,t2.1.1.2),(t2.1.2.1.1,t2.1.2.1.2),(t2.1.2.2.1,t2.1.2.2.2)),((t2.2.1.1,t2.2.1.2),(t2.2.2.1.1,t2.2.2.1.2),(t2.2.2.2.1,t2.2.2.2.2))))
 let t4:=K12.mul (((t3.1.1.1,t3.1.1.2),(t3.1.2.1.1,t3.1.2.1.2),(t3.1.2.2.1,t3.1.2.2.2)),((t3.2.1.1,t3.2.1.2),(t3.2.2.1.1,t3.2.2.1.2),(t3.2.2.2.1,t3.2.2.2.2))) (((t2.1.1.1,t2.1.1.2),(t2.1.2.1.1,t2.1.2.1.2),(t2.1.2.2.1,t2.1.2.2.2)),((t2.2.1.1,t2.2.1.2),(t2.2.2.1.1,t2.2.2.1.2),(t2.2.2.2.1,t2.2.2.2.2)))
 t4
theorem Cv(x:W12):gF x=pez x:=by
 unfold gF
 simp only[OQ]
 rfl
theorem Ve{f:W12→W12}(hf:HF f)(x:W12):PUR 212 [cm x] (cm (gF x)):=(bN (l1 (V12 _)) (V12 _) (pE (Kg hf) func212 [.inl [x.1.1.1,x.1.1.2,x.1.2.1.1,x.1.2.1.2,x.1.2.2.1,x.1.2.2.2,x.2.1.1,x.2.1.2,x.2.2.1.1,x.2.2.1.2,x.2.2.2.1,x.2.2.2.2]] (.inl (.inl [(gF x).1.1.1,(gF x).1.1.2,(gF x).1.2.1.1,(gF x).1.2.1.2,(gF x).1.2.2.1,(gF x).1.2.2.2,(gF x).2.1.1,(gF x).2.1.2,(gF x).2.2.1.1,(gF x).2.2.1.2,(gF x).2.2.2.1,(gF x).2.2.2.2])) (let t0:=cb x;let t1:=iA x;let t2:=K12.mul (((t0.1.1.1,t0.1.1.2),(t0.1.2.1.1,t0.1.2.1.2),(t0.1.2.2.1,t0.1.2.2.2)),((t0.2.1.1,t0.2.1.2),(t0.2.2.1.1,t0.2.2.1.2),(t0.2.2.2.1,t0.2.2.2.2))) (((t1.1.1.1,t1.1.1.2),(t1.1.2.1.1,t1.1.2.1.2),(t1.1.2.2.1,t1.1.2.2.2)),((t1.2.1.1,t1.2.1.2),(t1.2.2.1.1,t1.2.2.1.2),(t1.2.2.2.1,t1.2.2.2.2)));let t3:=bO (bO (((t2.1.1.1,t2.1.1.2),(t2.1.2.1.1,t2.1.2.1.2),(t2.1.2.2.1,t2.1.2.2.2)),((t2.2.1.1,t2.2.1.2),(t2.2.2.1.1,t2.2.2.1.2),(t2.2.2.2.1,t2.2.2.2.2))));let t4:=K12.mul (((t3.1.1.1,t3.1.1.2),(t3.1.2.1.1,t3.1.2.1.2),(t3.1.2.2.1,t3.1.2.2.2)),((t3.2.1.1,t3.2.1.2),(t3.2.2.1.1,t3.2.2.1.2),(t3.2.2.2.1,t3.2.2.2.2))) (((t2.1.1.1,t2.1.1.2),(t2.1.2.1.1,t2.1.2.1.2),(t2.1.2.2.1,t2.1.2.2.2)),((t2.2.1.1,t2.2.1.2),(t2.2.2.1.1,t2.2.2.1.2),(t2.2.2.2.1,t2.2.2.2.2)));(.inl (.inl [t4.1.1.1,t4.1.1.2,t4.1.2.1.1,t4.1.2.1.2,t4.1.2.2.1,t4.1.2.2.2,t4.2.1.1,t4.2.1.2,t4.2.2.1.1,t4.2.2.1.2,t4.2.2.2.1,t4.2.2.2.2]),[])) [] kr aI kr))
theorem ppez{f:W12→W12}(hf:HF f)(x:W12):PUR 212 [cm x] (cm (pez x)):=by rw[←Cv];exact Ve hf x
def Jr{f:W12→W12}(hf:HF f):Tb prog Gt:=(Kg hf).add (cG (g:=pez) ent212 (ppez hf))
def gD(f:W12→W12)(x:W12):W12:=
 let t0:=pva f x
 let t1:=pva f (((t0.1.1.1,t0.1.1.2),(t0.1.2.1.1,t0.1.2.1.2),(t0.1.2.2.1,t0.1.2.2.2)),((t0.2.1.1,t0.2.1.2),(t0.2.2.1.1,t0.2.2.1.2),(t0.2.2.2.1,t0.2.2.2.2)))
 let t2:=bO (((t1.1.1.1,t1.1.1.2),(t1.1.2.1.1,t1.1.2.1.2),(t1.1.2.2.1,t1.1.2.2.2)),((t1.2.1.1,t1.2.1.2),(t1.2.2.1.1,t1.2.2.1.2),(t1.2.2.2.1,t1.2.2.2.2)))
 let t3:=f (((t1.1.1.1,t1.1.1.2),(t1.1.2.1.1,t1.1.2.1.2),(t1.1.2.2.1,t1.1.2.2.2)),((t1.2.1.1,t1.2.1.2),(t1.2.2.1.1,t1.2.2.1.2),(t1.2.2.2.1,t1.2.2.2.2)))
 let t4:=cb (((t3.1.1.1,t3.1.1.2),(t3.1.2.1.1,t3.1.2.1.2),(t3.1.2.2.1,t3.1.2.2.2)),((t3.2.1.1,t3.2.1.2),(t3.2.2.1.1,t3.2.2.1.2),(t3.2.2.2.1,t3.2.2.2.2)))
 let t5:=K12.mul (((t2.1.1.1,t2.1.1.2),(t2.1.2.1.1,t2.1.2.1.2),(t2.1.2.2.1,t2.1.2.2.2)),((t2.2.1.1,t2.2.1.2),(t2.2.2.1.1,t2.2.2.1.2),(t2.2.2.2.1,t2.2.2.2.2))) (((t4.1.1.1,t4.1.1.2),(t4.1.2.1.1,t4.1.2.1.2),(t4.1.2.2.1,t4.1.2.2.2)),((t4.2.1.1,t4.2.1.2),(t4.2.2.1.1,t4.2.2.1.2),(t4.2.2.2.1,t4.2.2.2.2)))
 let t6:=f (((t5.1.1.1,t5.1.1.2),(t5.1.2.1.1,t5.1.2.1.2),(t5.1.2.2.1,t5.1.2.2.2)),((t5.2.1.1,t5.2.1.2),(t5.2.2.1.1,t5.2.2.1.2),(t5.2.2.2.1,t5.2.2.2.2)))
 let t7:=f (((t6.1.1.1,t6.1.1.2),(t6.1.2.1.1,t6.1.2.1.2),(t6.1.2.2.1,t6.1.2.2.2)),((t6.2.1.1,t6.2.1.2),(t6.2.2.1.1,t6.2.2.1.2),(t6.2.2.2.1,t6.2.2.2.2)))
 let t8:=bO (bO (((t5.1.1.1,t5.1.1.2),(t5.1.2.1.1,t5.1.2.1.2),(t5.1.2.2.1,t5.1.2.2.2)),((t5.2.1.1,t5.2.1.2),(t5.2.2.1.1,t5.2.2.1.2),(t5.2.2.2.1,t5.2.2.2.2))))
 let t9:=K12.mul (((t7.1.1.1,t7.1.1.2),(t7.1.2.1.1,t7.1.2.1.2),(t7.1.2.2.1,t7.1.2.2.2)),((t7.2.1.1,t7.2.1.2),(t7.2.2.1.1,t7.2.2.1.2),(t7.2.2.2.1,t7.2.2.2.2))) (((t8.1.1.1,t8.1.1.2),(t8.1.2.1.1,t8.1.2.1.2),(t8.1.2.2.1,t8.1.2.2.2)),((t8.2.1.1,t8.2.1.2),(t8.2.2.1.1,t8.2.2.1.2),(t8.2.2.2.1,t8.2.2.2.2)))
 let t10:=cb (((t5.1.1.1,t5.1.1.2),(t5.1.2.1.1,t5.1.2.1.2),(t5.1.2.2.1,t5.1.2.2.2)),((t5.2.1.1,t5.2.1.2),(t5.2.2.1.1,t5.2.2.1.2),(t5.2.2.2.1,t5.2.2.2.2)))
 let t11:=K12.mul (((t9.1.1.1,t9.1.1.2),(t9.1.2.1.1,t9.1.2.1.2),(t9.1.2.2.1,t9.1.2.2.2)),((t9.2.1.1,t9.2.1.2),(t9.2.2.1.1,t9.2.2.1.2),(t9.2.2.2.1,t9.2.2.2.2))) (((t10.1.1.1,t10.1.1.2),(t10.1.2.1.1,t10.1.2.1.2),(t10.1.2.2.1,t10.1.2.2.2)),((t10.2.1.1,t10.2.1.2),(t10.2.2.1.1,t10.2.2.1.2),(t10.2.2.2.1,t10.2.2.2.2)))
 let t12:=K12.mul x x
 let t13:=K12.mul (((t11.1.1.1,t11.1.1.2),(t11.1.2.1.1,t11.1.2.1.2),(t11.1.2.2.1,t11.1.2.2.2)),((t11.2.1.1,t11.2.1.2),(t11.2.2.1.1,t11.2.2.1.2),(t11.2.2.2.1,t11.2.2.2.2))) (((t12.1.1.1,t12.1.1.2),(t12.1.2.1.1,t12.1.2.1.2),(t12.1.2.2.1,t12.1.2.2.2)),((t12.2.1.1,t12.2.1.2),(t12.2.2.1.1,t12.2.2.1.2),(t12.2.2.2.1,t12.2.2.2.2)))
 let t14:=K12.mul (((t13.1.1.1,t13.1.1.2),(t13.1.2.1.1,t13.1.2.1.2),(t13.1.2.2.1,t13.1.2.2.2)),((t13.2.1.1,t13.2.1.2),(t13.2.2.1.1,t13.2.2.1.2),(t13.2.2.2.1,t13.2.2.2.2))) x
 t14
theorem Gk(f:W12→W12)(x:W12):gD f x=phd f x:=by
 unfold gD
 simp only[OQ]
 rfl
theorem Ug{f:W12→W12}(hf:HF f)(x:W12):PUR 211 [cm x] (cm (gD f x)):=(bN (l1 (V12 _)) (V12 _) (pE (Jr hf) func211 [.inl [x.1.1.1,x.1.1.2,x.1.2.1.1,x.1.2.1.2,x.1.2.2.1,x.1.2.2.2,x.2.1.1,x.2.1.2,x.2.2.1.1,x.2.2.1.2,x.2.2.2.1,x.2.2.2.2]] (.inl (.inl [(gD f x).1.1.1,(gD f x).1.1.2,(gD f x).1.2.1.1,(gD f x).1.2.1.2,(gD f x).1.2.2.1,(gD f x).1.2.2.2,(gD f x).2.1.1,(gD f x).2.1.2,(gD f x).2.2.1.1,(gD f x).2.2.1.2,(gD f x).2.2.2.1,(gD f x).2.2.2.2])) (let t0:=pva f x;let t1:=pva f (((t0.1.1.1,t0.1.1.2),(t0.1.2.1.1,t0.1.2.1.2),(t0.1.2.2.1,t0.1.2.2.2)),((t0.2.1.1,t0.2.1.2),(t0.2.2.1.1,t0.2.2.1.2),(t0.2.2.2.1,t0.2.2.2.2)));let t2:=bO (((t1.1.1.1,t1.1.1.2),(t1.1.2.1.1,t1.1.2.1.2),(t1.1.2.2.1,t1.1.2.2.2)),((t1.2.1.1,t1.2.1.2),(t1.2.2.1.1,t1.2.2.1.2),(t1.2.2.2.1,t1.2.2.2.2)));let t3:=f (((t1.1.1.1,t1.1.1.2),(t1.1.2.1.1,t1.1.2.1.2),(t1.1.2.2.1,t1.1.2.2.2)),((t1.2.1.1,t1.2.1.2),(t1.2.2.1.1,t1.2.2.1.2),(t1.2.2.2.1,t1.2.2.2.2)));let t4:=cb (((t3.1.1.1,t3.1.1.2),(t3.1.2.1.1,t3.1.2.1.2),(t3.1.2.2.1,t3.1.2.2.2)),((t3.2.1.1,t3.2.1.2),(t3.2.2.1.1,t3.2.2.1.2),(t3.2.2.2.1,t3.2.2.2.2)));let t5:=K12.mul (((t2.1.1.1,t2.1.1.2),(t2.1.2.1.1,t2.1.2.1.2),(t2.1.2.2.1,t2.1.2.2.2)),((t2.2.1.1,t2.2.1.2),(t2.2.2.1.1,t2.2.2.1.2),(t2.2.2.2.1,t2.2.2.2.2))) (((t4.1.1.1,t4.1.1.2),(t4.1.2.1.1,t4.1.2.1.2),(t4.1.2.2.1,t4.1.2.2.2)),((t4.2.1.1,t4.2.1.2),(t4.2.2.1.1,t4.2.2.1.2),(t4.2.2.2.1,t4.2.2.2.2)));let t6:=f (((t5.1.1.1,t5.1.1.2),(t5.1.2.1.1,t5.1.2.1.2),(t5.1.2.2.1,t5.1.2.2.2)),((t5.2.1.1,t5.2.1.2),(t5.2.2.1.1,t5.2.2.1.2),(t5.2.2.2.1,t5.2.2.2.2)));let t7:=f (((t6.1.1.1,t6.1.1.2),(t6.1.2.1.1,t6.1.2.1.2),(t6.1.2.2.1,t6.1.2.2.2)),((t6.2.1.1,t6.2.1.2),(t6.2.2.1.1,t6.2.2.1.2),(t6.2.2.2.1,t6.2.2.2.2)));let t8:=bO (bO (((t5.1.1.1,t5.1.1.2),(t5.1.2.1.1,t5.1.2.1.2),(t5.1.2.2.1,t5.1.2.2.2)),((t5.2.1.1,t5.2.1.2),(t5.2.2.1.1,t5.2.2.1.2),(t5.2.2.2.1,t5.2.2.2.2))));let t9:=K12.mul (((t7.1.1.1,t7.1.1.2),(t7.1.2.1.1,t7.1.2.1.2),(t7.1.2.2.1,t7.1.2.2.2)),((t7.2.1.1,t7.2.1.2),(t7.2.2.1.1,t7.2.2.1.2),(t7.2.2.2.1,t7.2.2.2.2))) (((t8.1.1.1,t8.1.1.2),(t8.1.2.1.1,t8.1.2.1.2),(t8.1.2.2.1,t8.1.2.2.2)),((t8.2.1.1,t8.2.1.2),(t8.2.2.1.1,t8.2.2.1.2),(t8.2.2.2.1,t8.2.2.2.2)));let t10:=cb (((t5.1.1.1,t5.1.1.2),(t5.1.2.1.1,t5.1.2.1.2),(t5.1.2.2.1,t5.1.2.2.2)),((t5.2.1.1,t5.2.1.2),(t5.2.2.1.1,t5.2.2.1.2),(t5.2.2.2.1,t5.2.2.2.2)));let t11:=K12.mul (((t9.1.1.1,t9.1.1.2),(t9.1.2.1.1,t9.1.2.1.2),(t9.1.2.2.1,t9.1.2.2.2)),((t9.2.1.1,t9.2.1.2),(t9.2.2.1.1,t9.2.2.1.2),(t9.2.2.2.1,t9.2.2.2.2))) (((t10.1.1.1,t10.1.1.2),(t10.1.2.1.1,t10.1.2.1.2),(t10.1.2.2.1,t10.1.2.2.2)),((t10.2.1.1,t10.2.1.2),(t10.2.2.1.1,t10.2.2.1.2),(t10.2.2.2.1,t10.2.2.2.2)));let t12:=K12.mul x x;let t13:=K12.mul (((t11.1.1.1,t11.1.1.2),(t11.1.2.1.1,t11.1.2.1.2),(t11.1.2.2.1,t11.1.2.2.2)),((t11.2.1.1,t11.2.1.2),(t11.2.2.1.1,t11.2.2.1.2),(t11.2.2.2.1,t11.2.2.2.2))) (((t12.1.1.1,t12.1.1.2),(t12.1.2.1.1,t12.1.2.1.2),(t12.1.2.2.1,t12.1.2.2.2)),((t12.2.1.1,t12.2.1.2),(t12.2.2.1.1,t12.2.2.1.2),(t12.2.2.2.1,t12.2.2.2.2)));let t14:=K12.mul (((t13.1.1.1,t13.1.1.2),(t13.1.2.1.1,t13.1.2.1.2),(t13.1.2.2.1,t13.1.2.2.2)),((t13.2.1.1,t13.2.1.2),(t13.2.2.1.1,t13.2.2.1.2),(t13.2.2.2.1,t13.2.2.2.2))) x;(.inl (.inl [t14.1.1.1,t14.1.1.2,t14.1.2.1.1,t14.1.2.1.2,t14.1.2.2.1,t14.1.2.2.2,t14.2.1.1,t14.2.1.2,t14.2.2.1.1,t14.2.2.1.2,t14.2.2.2.1,t14.2.2.2.2]),[])) [] kr aI kr))
theorem pphd{f:W12→W12}(hf:HF f)(x:W12):PUR 211 [cm x] (cm (phd f x)):=by rw[←Gk];exact Ug hf x
def R9{f:W12→W12}(hf:HF f):Tb prog Gt:=(Jr hf).add (cG (g:=phd f) ent211 (pphd hf))
theorem GX{f:W12→W12}(hf:HF f)(x:W12):PUR 177 [cm x] (cm (phd f (pez x))):=(bN (l1 (V12 _)) (V12 _) (pE (R9 hf) func177 [.inl [x.1.1.1,x.1.1.2,x.1.2.1.1,x.1.2.1.2,x.1.2.2.1,x.1.2.2.2,x.2.1.1,x.2.1.2,x.2.2.1.1,x.2.2.1.2,x.2.2.2.1,x.2.2.2.2]] (.inl (.inl [(phd f (pez x)).1.1.1,(phd f (pez x)).1.1.2,(phd f (pez x)).1.2.1.1,(phd f (pez x)).1.2.1.2,(phd f (pez x)).1.2.2.1,(phd f (pez x)).1.2.2.2,(phd f (pez x)).2.1.1,(phd f (pez x)).2.1.2,(phd f (pez x)).2.2.1.1,(phd f (pez x)).2.2.1.2,(phd f (pez x)).2.2.2.1,(phd f (pez x)).2.2.2.2])) (let t0:=pez x;let t1:=phd f (((t0.1.1.1,t0.1.1.2),(t0.1.2.1.1,t0.1.2.1.2),(t0.1.2.2.1,t0.1.2.2.2)),((t0.2.1.1,t0.2.1.2),(t0.2.2.1.1,t0.2.2.1.2),(t0.2.2.2.1,t0.2.2.2.2)));(.inl (.inl [t1.1.1.1,t1.1.1.2,t1.1.2.1.1,t1.1.2.1.2,t1.1.2.2.1,t1.1.2.2.2,t1.2.1.1,t1.2.1.2,t1.2.2.1.1,t1.2.2.1.2,t1.2.2.2.1,t1.2.2.2.2]),[])) [] kr aI kr))
theorem Og(x:W12):PUR 177 [cm x] (cm (rG UG x)):=by rw[Ov];exact GX UK x
end Q6
end
section
open Go.RowKit
attribute [local simp] aV ba aT aO aD bd aK aJ aA PLl cv cw N1l cu cr cq a7 bc aP aZ a9 J1.bi J2.bi Q6.ep Q6.fw
namespace Q6
theorem P4{f:Nat→J1.GP×J2.GP}{n:Nat}(hf: ∀i,i<n→E2w.times (f i).2.P ORD=none):rG UG (LPv f n)=FN FE (PRD f n):=by
 rw[ED]
 exact (Qv hf).fn IA
def PRN(f:Nat→J1.GP×J2.GP):Nat→W12
 |0=>K12.one
 |i+1=>K12.mul (PRN f i) (PR L63 FE (f i).1.P (f i).2.P)
theorem CT(f:Nat→J1.GP×J2.GP): ∀n,FN FE (PRD f n)=PRN f n
 |0=>kY
 |n+1=>by rw[PRD,qf,CT f n,PRN,PR]
theorem Ih(l c:Nat)(x:Option Addr)(a:W12)(w:World)(hw:Gt w)(hL: ∀w',Gt w'→Grow w w'→CLS 178 [.slice x l c].toArray w' (fun y w''=>y=.returned (cm a)∧Grow w' w'')):CLS 118 [.slice x l c].toArray w (fun r w'=>r=.returned (.bool (decide (rG UG a=K12.one)))∧Grow w w'):=by
 refine Hf func118 rfl hw<|fun hGF=>Xp<|Asg rfl<|aa<|Xp<|Mv rfl<|Cc rfl ent178 (fun w' hC hG=>hL w' hG (ae hC))<|Ca rfl (Og a)<|Ca rfl (pH)<|Ca rfl (pS _ _)<|Asg rfl<|aa<|am<|Rr<|?_
 exact aH rfl rfl (fun w hw=>⟨rfl,ae hw⟩)
theorem gJ{w w':World}{b:Nat}{cs:List Value}(h:w.rangeAt b 0 cs)(hg:Grow w w'):w'.rangeAt b 0 cs:=fun j v hv=>(hg.cell (block_lt_of_cell (h j v hv))).trans (h j v hv)
theorem Pn(n:Nat)(f:Nat→J1.GP×J2.GP)(b cap:Nat)(hn:n≤1000)(hf: ∀i,i<n→E2w.times (f i).2.P ORD=none)(w:World)(hw:Gt w)(h:w.rangeAt b 0 ((RW 54 (fun i=>PRv (f i)) n).map U64)):CLS 118 [.slice (spt b) n cap].toArray w (fun r w'=>r=.returned (.bool (decide (PRN f n=K12.one)))∧Grow w w'):=by
 have k:=Ih n cap (spt b) (LPv f n) w hw fun w' hG hg=>Pe n f b cap hn hf w' hG (gJ h hg)
 rw[P4 hf,CT]at k
 exact k
end Q6
end
section
open Go.RowKit
attribute [local simp] iq aT aO aD aK aJ uK MLl Ry IVRl IQ a7
abbrev RV(x:Zr):Value:=aR (nr x)
theorem zv27(w:World):(zeroValue 27).run prog w=.ok (aR (List.replicate 6 (0#64))) w:=(zeroValue27 w).trans rr
theorem zv112(w:World):(zeroValue 112).run prog w=.ok (.agg ((List.replicate 32 (0#8)).map U8).toArray) w:=(zeroValue112 w).trans rr
theorem O4{x y:BitVec 64}(h:(x==y)=true):x=y:=beq_iff_eq.1 h
theorem O3{x y:BitVec 64}(h:(x==y)=false): ¬x=y:=beq_eq_false_iff_ne.1 h
theorem ent93:ai prog 93:=fun _ _=>kr
theorem o5(n:BitVec 64):PUR 28 [U64 n] (RV (zr n.toNat)):=by
 intro w hw
 refine Hf func28 rfl hw<|fun hGF=>Xp<|Al 2 hGF zv27<|fun b2=>aa<|Xp<|Mv rfl<|mT n rfl underlying25 sizeOf24 zv25 rfl rfl<|dN rfl sm underlying27 rfl sizeOf25 zv27 rfl rfl<|Sa 2 hGF rfl rfl rfl mS<|aa<|am<|Rr<|?_
 exact az 2 rfl rfl rfl isAgg27 sizeOf27 sm (fun w hw=>⟨congrArg (fun l=>Ending.returned (NV l)) (BR n),ae hw⟩)
theorem zZ(x y:Zr):PUR 36 [RV x,RV y] (RV (x+y)):=by
 intro w hw
 refine Hf func36 rfl hw<|fun hGF=>Xp<|Bx 2 hGF rfl<|fun b2=>Bx 3 hGF rfl<|fun b3=>Al 4 hGF zv27<|fun b4=>aa<|Xp<|Fa 0 rfl underlying27 rfl sizeOf25<|La 2 rfl rfl bL<|Fa 0 rfl underlying27 rfl sizeOf25<|La 3 rfl rfl bL<|Ca rfl (lv _ _ sm sm)<|Mv rfl<|Ext rfl rfl<|Ext rfl rfl<|Al 5 hGF zv25<|fun b5=>Sa 5 hGF rfl rfl rfl bL<|Asg rfl<|aa<|Xp<|La 5 rfl rfl bL<|ju hGF isAgg25 sizeOf25 sm (fun _ h=>h.g1) rfl rfl<|Ca rfl (iS _ _ sm sm)<|Mv rfl<|Ext rfl rfl<|Ext rfl rfl<|Al 7 hGF zv25<|fun b7=>Sa 7 hGF rfl rfl rfl bL<|Asg rfl<|aa<|ah<|Xp<|Mv rfl<|Bnr rfl rfl (fun _=>bU _ _ _)<|aa<|?_
 refine bX rfl (fun hc=> ?_) (fun hc=> ?_)
 ·refine Xp<|La 5 rfl rfl bL<|dN rfl sm underlying27 rfl sizeOf25 zv27 rfl rfl<|Sa 4 hGF rfl rfl rfl mS<|aa<|am<|Rr<|?_
  exact az 4 rfl rfl rfl isAgg27 sizeOf27 sm (fun w hw=>⟨by rw[BP (O4 hc)],ae hw⟩)
 ·refine ap<|Xp<|La 7 rfl rfl bL<|dN rfl sm underlying27 rfl sizeOf25 zv27 rfl rfl<|Sa 4 hGF rfl rfl rfl mS<|aa<|am<|Rr<|?_
  exact az 4 rfl rfl rfl isAgg27 sizeOf27 sm (fun w hw=>⟨by rw[z9 (vo (wB _ _ _) (O3 hc))],ae hw⟩)
end
section
open Go.RowKit
theorem ent143:ai prog 143:=fun _ _=>kr
theorem ent192:ai prog 192:=fun _ _=>kr
theorem wx(a:L6)(_ha:a.length=6)(w:World)(hw:Gt w):CLS 143 [aR (a)].toArray w (fun e w'=> ∃b1,e=.returned (.func (.func 192) #[] #[pnt b1])∧Grow w w'∧w.heap.size≤b1∧OwnB w' b1 (a.map U64) 25):=by
 refine Hf func143 rfl hw<|fun hGF=>Xp<|Bx 1 hGF rfl<|fun b1=>Asg rfl<|aa<|Xp<|eK rfl rfl rfl rfl<|Asg rfl<|aa<|am<|Rr<|?_
 exact aH rfl rfl (fun w hw=>⟨b1,rfl,ae hw,(hw.own 1 b1 _ _ rfl).2.elim id False.elim,(hw.own 1 b1 _ _ rfl).1⟩)
theorem u6(bb:Nat)(a:L6)(ha:a.length=6):el prog Gt 192 [pnt bb] (BT a) (fun W=>W.rangeAt bb 0 (a.map U64)):=by
 intro l J Jx hJ hJx hRd hGx hY w hj
 have okJ: ∀k,BOk Gt (Bi w (fun Y=>J Y k)):=fun k=>⟨fun _ _ _ h=>(hRd _ _ _ h.rid).1,hJ k⟩
 have okX: ∀k,BOk Gt (Bi w (fun Y=>Jx Y k)):=fun k=>⟨fun _ _ _ h=>hGx _ _ _ h.rid,hJx k⟩
 refine bV (G:=Gt) func192 rfl rfl (Hp (Bi w (fun Y=>J Y 0)) []) (bK (Bi w _) hj (hJ 0)) (ao (okJ 0))<|ac (E:=EE [133])<|fJ 2 (okJ _) rfl rfl rfl<|fun b2=>aa<|ac (E:=EE [133])<|ce (l:=0) (h':=6) rfl underlying25 sizeOf24 rfl rfl om om rfl rfl<|?_
 refine cT rfl rfl ent133 rfl rfl (fun w' hw'=>(lH _ rfl w' ((okJ _).g _ _ _ hw')).mono fun e w'' h=> ?_)
 obtain ⟨c2,rfl,hgr,h2,hc2⟩:=h
 refine ⟨_,_,rfl,ao (okJ _),hw'.news (hJ _) hgr [(33,c2,[.slice (spt bb) 6 6],67)] ?_ bI, ?_⟩
 ·intro n' b' c' t' hl
  rcases aB hl with ⟨_,e⟩|⟨_,hl⟩
  ·cases e;exact ⟨h2,hc2⟩
  ·cases hl
 clear hw' hgr h2 hc2
 refine aa<|aj<|?_
 refine dS (fun k=>(Bi w (fun Y=>J Y (fB a k).length))) (fun _ k=>Bi w (fun Y=>Jx Y (fB a k).length)) (fun _=>okJ _) (fun _ _=>okX _) (fun _=>rfl) (fun _ _=>rfl) rfl rfl ent188 (oq c2 bb a 6 dc ha) (fun x hx=>by obtain ⟨k,hk,rfl⟩:=List.mem_map.1 hx;rfl) rfl (fun _=>[(2,b2,[.func (.yield l) #[] #[]],82),(33,c2,[.slice (spt bb) 6 6],67)]) (fun c _ _=>c=.ret) trv (fun k Y w' h=>⟨cp (n:=33) rfl rfl w' h,(hRd _ _ _ h.rid).2⟩) ?_ ?_ ?_
 ·intro k x hx R hR
  obtain ⟨hk,rfl⟩:=K2 a 6 k x hx
  rw[show 64*6-1-k=383-k from rfl]
  refine ac (E:=EE [133])<|Asg rfl<|aa<|bx (E:=EE [133])<|Asg rfl<|aa<|?_
  refine ⟨rfl,_,rfl, ?_⟩
  rcases Decidable.em (dig a (383-k)=1)with h1|h1
  ·refine aj<|ac (E:=EE [133])<|Mv rfl<|Bnr (v:=.bool true) rfl rfl (fun w=>(bU _ _ _).trans (congrArg (fun b=>Result.ok (Value.bool b) w) (beq_iff_eq.2 h1)))<|Mv rfl<|ck 2 rfl rfl rfl isAgg82 rfl rfl<|Mv rfl<|?_
   refine cU ((hY.b (k:=(fB a k).length) (VH a k om h1) w).br R.l R.D R.rb R.Y R.W) (hR (Bi w (fun Y=>J Y ((fB a k).length+1))) rfl (okJ _)).2.1 (hR (Bi w (fun Y=>Jx Y ((fB a k).length+1))) rfl (okX _)).2.1 rfl rfl rfl rfl rfl ?_ ?_
   ·refine a5 rfl (fun _=>aL _) rfl rfl<|Pk rfl rfl rfl<|aa<|au rfl<|ap<|?_
    show∃L',_=Hp (R.b (Bi w (fun Y=>J Y (fB a (k+1)).length))) L'∧jb L' [(2,b2,[.func (.yield l) #[] #[]],82),(33,c2,[.slice (spt bb) 6 6],67)]
    rw[uQ a k h1]
    exact ⟨_,rfl,trv⟩
   ·refine a5 rfl (fun _=>aL _) rfl rfl<|Pk rfl rfl rfl<|aa<|aQ rfl<|am<|Rr<|?_
    show∃L',_=Hp (R.b (Bi w (fun Y=>Jx Y (fB a (k+1)).length))) L'∧Code.ret=Code.ret
    rw[uQ a k h1]
    exact ⟨_,rfl,rfl⟩
  ·refine aj<|ac (E:=EE [133,3000000])<|Mv rfl<|Bnr (v:=.bool false) rfl rfl (fun w=>(bU _ _ _).trans (congrArg (fun b=>Result.ok (Value.bool b) w) (beq_eq_false_iff_ne.2 h1)))<|Mv rfl<|Sk<|Sk<|Sk<|Sk<|Pk rfl rfl rfl<|aa<|au rfl<|ap<|?_
   show∃L',_=Hp (R.b (Bi w (fun Y=>J Y (fB a (k+1)).length))) L'∧jb L' [(2,b2,[.func (.yield l) #[] #[]],82),(33,c2,[.slice (spt bb) 6 6],67)]
   rw[Ij a k h1]
   exact ⟨_,rfl,trv⟩
 ·intro D _
  refine cQ (.inr rfl) (hJ _) (cP rfl (fun w hw=>⟨⟨_,rfl⟩,.inl ?_⟩))
  have:=bz (hJ _) hw.rid
  rw[eD]at this
  rw[OK]
  exact this
 ·intro D c j L' _ hc
  subst hc
  exact cQ (.inl rfl) (hJx _) (cP rfl (fun w hw=>⟨⟨_,rfl⟩,.inr ⟨_,bz (hJx _) hw.rid⟩⟩))
end
section
open Go.RowKit
attribute [local simp] aV ba aT aO aD bd aK aJ aA PLl cv cw N1l cu cr cq a7 bc aP aZ a9 J1.bi J2.bi Q6.ep Q6.fw
attribute [local simp] iq uK
theorem mZ(k:Zr)(w:World)(hw:Gt w):CLS 93 [RV k].toArray w (fun e w'=> ∃b1,e=.returned (.func (.func 192) #[] #[pnt b1])∧Grow w w'∧w.heap.size≤b1∧OwnB w' b1 ((nr k).map U64) 25):=by
 refine Hf func93 rfl hw<|fun hGF=>ac (E:=EE [143])<|Bx 1 hGF rfl<|fun b1=>Asg rfl<|aa<|ac (E:=EE [143])<|Fa 0 rfl underlying27 rfl sizeOf25<|La 1 rfl rfl bL<|?_
 refine cT rfl rfl ent143 rfl rfl (fun w' hw'=>(wx (nr k) sm w' (hGF.g _ _ _ hw')).mono fun e' w'' h=> ?_)
 obtain ⟨c1,rfl,hg,h1,ho⟩:=h
 refine ⟨_,_,rfl,ao hGF,hw'.news ak hg [(33,c1,(nr k).map U64,25)] ?_ bI, ?_⟩
 ·intro n' b' c' t' hl
  rcases aB hl with ⟨_,e⟩|⟨_,hl⟩
  ·cases e;exact ⟨h1,ho⟩
  ·cases hl
 clear hw' hg h1 ho
 refine Asg rfl<|aa<|am<|Rr<|?_
 exact aH rfl rfl (fun w hw=>⟨c1,rfl,ae hw,(hw.own 33 c1 _ _ rfl).2.elim id False.elim,(hw.own 33 c1 _ _ rfl).1⟩)
def dg(a:L6)(m:Nat):Bool:=decide (dig a (383-m)=1)
theorem yi(a:L6): ∀m,fB a m=oL (dg a) 384 m
 |0=>rfl
 |m+1=>by
  rw[fB,oL,yi a m]
  by_cases h:dig a (383-m)=1
  ·rw[if_pos h,if_pos (show dg a m=true from decide_eq_true h)]
  ·rw[if_neg h,if_neg (show¬dg a m=true from fun e=>h (of_decide_eq_true e))]
theorem Nc(a:L6)(m:Nat)(hm:m<384):dg a m=true↔V a 6 / 2^(384-1-m) % 2=1:=by
 have e:=rH a 6 (383-m) om
 rw[show 384-1-m=383-m from by omega,←e]
 constructor
 ·intro h
  have h2:dig a (383-m)=1:=of_decide_eq_true h
  rw[h2];rfl
 ·intro h
  refine decide_eq_true (BitVec.eq_of_toNat_eq ?_)
  rw[h];rfl
theorem EH{a:L6}{N:Nat}(hN:N=384)(h:V a 6<2^N):SOg (oL (dg a) N N)=V a 6:=by
 rw[wU]
 exact Nm h (fun m hm=>by subst hN;exact Nc a m hm)
def onK(k:Zr):List Nat:=fB (nr k) 384
theorem CH(k:Zr){N:Nat}(hN:N=384):onK k=oL (dg (nr k)) N N:=by
 subst hN
 exact yi (nr k) 384
theorem Nz(k:Zr){N:Nat}(hN:N=384):V (nr k) 6<2^N:=by
 have h:=uo (nr k) 6
 rw[show 64*6=N from hN.symm]at h
 exact h
theorem zd(k:Zr){N:Nat}(hN:N=384):SOg (onK k)=k.val:=by rw[CH k hN,EH hN (Nz k hN),IC]
theorem EY(k:Zr){N:Nat}(hN:N=384):(onK k).Pairwise (fun a b=>b≤a):=by rw[CH k hN];exact uL _ _ _ (Nat.le_refl _)
theorem CR(k:Zr){N:Nat}(hN:N=384){b:Nat}(h:b∈onK k):b<100000000:=by
 rw[CH k hN]at h
 have:=Co h (Nat.le_refl _)
 omega
theorem tP{b:Nat}{c:List Value}{w w':World}(h:w.rangeAt b 0 c)(hg:Grow w w'):w'.rangeAt b 0 c:=fun j v hv=>(hg.cell (block_lt_of_cell (h j v hv))).trans (h j v hv)
namespace J1
theorem sO(c1:Nat)(k:Zr){L:List Nat}(hL:onK k=L):el prog Gt 192 [pnt c1] (NLs L) (fun W=>W.rangeAt c1 0 ((nr k).map U64)):=by
 subst hL
 exact u6 c1 (nr k) (iq k)
theorem wi(p:GP)(k:Zr){L:List Nat}(hL:onK k=L)(hb: ∀b∈L,b<100000000):PUR 43 [PtV p,RV k] (JV (tmF p.J L)):=by
 intro w hw
 refine Hf func43 rfl hw<|fun hGF=>ac (E:=EE [93,2000093])<|Bx 2 hGF rfl<|fun b2=>Bx 3 hGF rfl<|fun b3=>Al 4 hGF zv54<|fun b4=>aa<|Xd [93,2000093]<|La 2 rfl rfl bM<|La 3 rfl rfl mS<|?_
 refine bG rfl rfl ent93 rfl rfl (fun w' hw'=>(mZ k w' (hGF.g _ _ _ hw')).mono fun e' w'' h=> ?_)
 obtain ⟨c1,rfl,hg,h1,ho⟩:=h
 refine ⟨_,_,rfl,ao hGF,hw'.news ak hg [(33,c1,(nr k).map U64,25)] ?_ bI,bF ak rfl, ?_⟩
 ·intro n' b' c' t' hl
  rcases aB hl with ⟨_,e⟩|⟨_,hl⟩
  ·cases e;exact ⟨h1,ho⟩
  ·cases hl
 clear hw' hg h1 ho
 refine Cc rfl ent92 (fun w' hC hG=>fq p.J 192 [pnt c1] L (fun W=>W.rangeAt c1 0 ((nr k).map U64)) ent192 (sO c1 k hL) hb w' hG (fun w'' hg=>tP (aM (n:=33) rfl w' hC) hg))<|Sa 4 hGF rfl rfl rfl bM<|aa<|am<|Rr<|?_
 exact az 4 rfl rfl rfl isAgg54 sizeOf54 sm (fun w hw=>⟨rfl,ae hw⟩)
theorem wc{x:Zp×Zp×Zp}{P:Pt Zp}(hP:E1.onP P)(hx:E1.jr x P)(k:Zr):E1.jr (tmF x (onK k)) (E1.times P k.val):=by
 rw[←zd k rfl]
 exact tmF_jr hP hx (EY k rfl)
def re(p:GP)(k:Zr):GP:=⟨tmF p.J (onK k),E1.times p.P k.val,E1.times_on p.on _,wc p.on p.jr k⟩
theorem td(p:GP)(k:Zr):PUR 43 [PtV p,RV k] (PtV (re p k)):=wi p k rfl (fun _ h=>CR k rfl h)
end J1
namespace J2
theorem sO(c1:Nat)(k:Zr){L:List Nat}(hL:onK k=L):el prog Gt 192 [pnt c1] (NLs L) (fun W=>W.rangeAt c1 0 ((nr k).map U64)):=by
 subst hL
 exact u6 c1 (nr k) (iq k)
theorem wi(p:GP)(k:Zr){L:List Nat}(hL:onK k=L)(hb: ∀b∈L,b<100000000):PUR 46 [PtV p,RV k] (EV6 (E2w.tmF p.J L)):=by
 intro w hw
 refine Hf func46 rfl hw<|fun hGF=>ac (E:=EE [93,2000093])<|Bx 2 hGF rfl<|fun b2=>Bx 3 hGF rfl<|fun b3=>Al 4 hGF zv94<|fun b4=>aa<|Xd [93,2000093]<|La 2 rfl rfl bE<|La 3 rfl rfl mS<|?_
 refine bG rfl rfl ent93 rfl rfl (fun w' hw'=>(mZ k w' (hGF.g _ _ _ hw')).mono fun e' w'' h=> ?_)
 obtain ⟨c1,rfl,hg,h1,ho⟩:=h
 refine ⟨_,_,rfl,ao hGF,hw'.news ak hg [(33,c1,(nr k).map U64,25)] ?_ bI,bF ak rfl, ?_⟩
 ·intro n' b' c' t' hl
  rcases aB hl with ⟨_,e⟩|⟨_,hl⟩
  ·cases e;exact ⟨h1,ho⟩
  ·cases hl
 clear hw' hg h1 ho
 refine Cc rfl ent98 (fun w' hC hG=>fq p.J 192 [pnt c1] L (fun W=>W.rangeAt c1 0 ((nr k).map U64)) ent192 (sO c1 k hL) hb w' hG (fun w'' hg=>tP (aM (n:=33) rfl w' hC) hg))<|Sa 4 hGF rfl rfl rfl bE<|aa<|am<|Rr<|?_
 exact az 4 rfl rfl rfl isAgg94 sizeOf94 sm (fun w hw=>⟨rfl,ae hw⟩)
theorem wc{x:W6}{P:Pt W2}(hP:E2w.onP P)(hx:E2w.jr x P)(k:Zr):E2w.jr (E2w.tmF x (onK k)) (E2w.times P k.val):=by
 rw[←zd k rfl]
 exact E2w.tmF_jr hP hx (EY k rfl)
def re(p:GP)(k:Zr):GP:=⟨E2w.tmF p.J (onK k),E2w.times p.P k.val,E2w.times_on p.on _,wc p.on p.jr k⟩
theorem td(p:GP)(k:Zr):PUR 46 [PtV p,RV k] (PtV (re p k)):=wi p k rfl (fun _ h=>CR k rfl h)
end J2
end
section
open Go.RowKit
theorem ent282:ai prog 282:=fun _ _=>kr
theorem ent283:ai prog 283:=fun _ _=>kr
theorem ent296:ai prog 296:=fun _ _=>kr
theorem ent293:ai prog 293:=fun _ _=>kr
theorem ent297:ai prog 297:=fun _ _=>kr
theorem ent303:ai prog 303:=fun _ _=>kr
namespace Sh
theorem zv106(w:World):(zeroValue 106).run prog w=.ok (.agg ((List.replicate 64 (0#32)).map U32).toArray) w:=(zeroValue106 w).trans rr
theorem zv105(w:World):(zeroValue 105).run prog w=.ok (.agg ((List.replicate 8 (0#32)).map U32).toArray) w:=(zeroValue105 w).trans rr
theorem zv313(w:World):(zeroValue 313).run prog w=.ok (.agg ((List.replicate 64 (0#8)).map U8).toArray) w:=(zeroValue313 w).trans rr
theorem zv112(w:World):(zeroValue 112).run prog w=.ok (.agg ((List.replicate 32 (0#8)).map U8).toArray) w:=(zeroValue112 w).trans rr
def me(x:BitVec 32)(k:Int):BitVec 32:=(x<<<(BitVec.ofInt 64 k &&& 31#64).toNat)|||(x>>>(32#64-(BitVec.ofInt 64 k &&& 31#64)).toNat)
theorem dO(x:BitVec 32)(k:Int):PUR 306 [U32 x,I k] (U32 (me x k)):=by
 intro w hw
 refine Hf func306 rfl hw<|fun hGF=>Xp<|Asg rfl<|aa<|Xp<|Mv rfl<|cN rfl rfl (fun _=>pQ underlying3 underlying216 _) rfl rfl<|Bnr rfl rfl (fun _=>eT _ _ _)<|Asg rfl<|aa<|Xp<|Mv rfl<|Mv rfl<|Bnr rfl rfl (fun _=>ia _ _ _)<|Mv rfl<|Mv rfl<|Bnr rfl rfl (fun _=>nk _ _ _)<|Bnr rfl rfl (fun _=>eZ _ _ _)<|Bnr rfl rfl (fun _=>iV _ _ _)<|Asg rfl<|aa<|am<|Rr<|?_
 exact aH rfl rfl (fun w hw=>⟨rfl,ae hw⟩)
def turn(x:BitVec 32)(n:Nat):BitVec 32:=(x>>>n)|||(x<<<(32-n))
def un(x:BitVec 32):BitVec 32:=me x (-6)^^^me x (-11)^^^me x (-25)
theorem AT(x:BitVec 32):PUR 301 [U32 x] (U32 (un x)):=by
 intro w hw
 refine Hf func301 rfl hw<|fun hGF=>Xp<|Asg rfl<|aa<|Xp<|Mv rfl<|Ca rfl (dO _ _)<|Mv rfl<|Ca rfl (dO _ _)<|Bnr rfl rfl (fun _=>cK _ _ _)<|Mv rfl<|Ca rfl (dO _ _)<|Bnr rfl rfl (fun _=>cK _ _ _)<|Asg rfl<|aa<|am<|Rr<|?_
 exact aH rfl rfl (fun w hw=>⟨rfl,ae hw⟩)
def Eo(x:BitVec 32):BitVec 32:=me x (-2)^^^me x (-13)^^^me x (-22)
theorem At(x:BitVec 32):PUR 302 [U32 x] (U32 (Eo x)):=by
 intro w hw
 refine Hf func302 rfl hw<|fun hGF=>Xp<|Asg rfl<|aa<|Xp<|Mv rfl<|Ca rfl (dO _ _)<|Mv rfl<|Ca rfl (dO _ _)<|Bnr rfl rfl (fun _=>cK _ _ _)<|Mv rfl<|Ca rfl (dO _ _)<|Bnr rfl rfl (fun _=>cK _ _ _)<|Asg rfl<|aa<|am<|Rr<|?_
 exact aH rfl rfl (fun w hw=>⟨rfl,ae hw⟩)
def Jc(x:BitVec 32):BitVec 32:=me x (-7)^^^me x (-18)^^^(x>>>3)
theorem zS(x:BitVec 32):PUR 305 [U32 x] (U32 (Jc x)):=by
 intro w hw
 refine Hf func305 rfl hw<|fun hGF=>Xp<|Asg rfl<|aa<|Xp<|Mv rfl<|Ca rfl (dO _ _)<|Mv rfl<|Ca rfl (dO _ _)<|Bnr rfl rfl (fun _=>cK _ _ _)<|Mv rfl<|Bnr rfl rfl (fun _=>eZ _ _ _)<|Bnr rfl rfl (fun _=>cK _ _ _)<|Asg rfl<|aa<|am<|Rr<|?_
 exact aH rfl rfl (fun w hw=>⟨rfl,ae hw⟩)
def H9(x:BitVec 32):BitVec 32:=me x (-17)^^^me x (-19)^^^(x>>>10)
theorem Ah(x:BitVec 32):PUR 304 [U32 x] (U32 (H9 x)):=by
 intro w hw
 refine Hf func304 rfl hw<|fun hGF=>Xp<|Asg rfl<|aa<|Xp<|Mv rfl<|Ca rfl (dO _ _)<|Mv rfl<|Ca rfl (dO _ _)<|Bnr rfl rfl (fun _=>cK _ _ _)<|Mv rfl<|Bnr rfl rfl (fun _=>eZ _ _ _)<|Bnr rfl rfl (fun _=>cK _ _ _)<|Asg rfl<|aa<|am<|Rr<|?_
 exact aH rfl rfl (fun w hw=>⟨rfl,ae hw⟩)
end Sh
end
section
open Go.RowKit
namespace Sh
def w4(bl:L8)(i:Nat):BitVec 32:=((bl.getD (4*i) 0).setWidth 32<<<24)|||((bl.getD (4*i+1) 0).setWidth 32<<<16)|||((bl.getD (4*i+2) 0).setWidth 32<<<8)|||(bl.getD (4*i+3) 0).setWidth 32
def W1(bl:L8):Nat→L3
 |0=>List.replicate 64 0#32
 |k+1=>(W1 bl k).set k (w4 bl k)
theorem vS(bl:L8): ∀k,(W1 bl k).length=64
 |0=>by simp[W1]
 |k+1=>by simp[W1,vS bl k]
def w5(ws:L3)(i:Nat):BitVec 32:=H9 (ws.getD (i-2) 0)+ws.getD (i-7) 0+Jc (ws.getD (i-15) 0)+ws.getD (i-16) 0
def W2(bl:L8):Nat→L3
 |0=>W1 bl 16
 |k+1=>(W2 bl k).set (16+k) (w5 (W2 bl k) (16+k))
theorem gb(bl:L8): ∀k,(W2 bl k).length=64
 |0=>vS bl 16
 |k+1=>by simp[W2,gb bl k]
theorem w8(bl:L8)(hb:bl.length=64):PUR 300 [.agg (bl.map U8).toArray] (.agg ((W2 bl 48).map U32).toArray):=by
 intro w hw
 refine Hf func300 rfl hw<|fun hGF=>Xp<|Bx 1 hGF rfl<|fun b1=>Al 2 hGF zv106<|fun b2=>aa<|Xp<|Al 3 hGF zv106<|fun b3=>aa<|ah<|Xp<|Mv rfl<|aa<|aj<|cE (ι:={i:Nat // i≤16}) (fun x=>[(6,I (x.1:Int)),(1,pnt b1),(2,pnt b2),(3,pnt b3)]) (fun x=>[(3,b3,(W1 bl x.1).map U32,106),(2,b2,(List.replicate 64 (0#32)).map U32,106),(1,b1,bl.map U8,313)]) (fun x=>16-x.1) ⟨0,om⟩ hGF trv trv<|?_
 rintro ⟨i,hi⟩
 dsimp only
 refine Xp<|Bnr rfl rfl (fun _=>aC _ _ _)<|aa<|ah<|?_
 refine bX rfl (fun hc=> ?_) (fun hc=> ?_)
 ·simp only[decide_eq_true_eq]at hc
  refine ap<|ah<|aj<|Xp<|Mv rfl<|Asg rfl<|aa<|Xe []<|Mv rfl<|Mv rfl<|Bnr rfl rfl (fun _=>bQ _ _ _ oi)<|Ia ((4*i)) rfl rfl underlying313 sizeOf5<|Lm 1 U8 0 rfl rfl isAgg5 (by rw[hb];omega)<|cN rfl rfl (fun _=>ig underlying5 underlying104 _) rfl rfl<|Bnr rfl rfl (fun _=>ia _ _ _)<|Mv rfl<|Bnr rfl rfl (fun _=>bQ _ _ _ oi)<|Bnr rfl rfl (fun _=>ay _ _ _ oi)<|Ia (((4*i)+1)) rfl rfl underlying313 sizeOf5<|Lm 1 U8 0 rfl rfl isAgg5 (by rw[hb];omega)<|cN rfl rfl (fun _=>ig underlying5 underlying104 _) rfl rfl<|Bnr rfl rfl (fun _=>ia _ _ _)<|Bnr rfl rfl (fun _=>iV _ _ _)<|Mv rfl<|Bnr rfl rfl (fun _=>bQ _ _ _ oi)<|Bnr rfl rfl (fun _=>ay _ _ _ oi)<|Ia (((4*i)+2)) rfl rfl underlying313 sizeOf5<|Lm 1 U8 0 rfl rfl isAgg5 (by rw[hb];omega)<|cN rfl rfl (fun _=>ig underlying5 underlying104 _) rfl rfl<|Bnr rfl rfl (fun _=>ia _ _ _)<|Bnr rfl rfl (fun _=>iV _ _ _)<|Mv rfl<|Bnr rfl rfl (fun _=>bQ _ _ _ oi)<|Bnr rfl rfl (fun _=>ay _ _ _ oi)<|Ia (((4*i)+3)) rfl rfl underlying313 sizeOf5<|Lm 1 U8 0 rfl rfl isAgg5 (by rw[hb];omega)<|cN rfl rfl (fun _=>ig underlying5 underlying104 _) rfl rfl<|Bnr rfl rfl (fun _=>iV _ _ _)<|Ia (i) rfl rfl underlying106 sizeOf104<|bv 3 U32 hGF rfl rfl rfl sizeOf104 rfl (by rw[vS];omega) rfl<|?_
  exact aa<|Xq<|Bnr rfl rfl (fun _=>ay _ _ _ oi)<|Mv rfl<|aa<|aU<|⟨rfl,⟨i+1,om⟩,_,by show 16-(i+1)<16-i;omega,rfl,trv,trv⟩
 ·obtain rfl:i=16:=by simp at hc;omega
  refine a8<|ah<|Xp<|Asg rfl<|aa<|aj<|cE (ι:={i:Nat // i≤48}) (fun x=>[(5,I ((16+x.1:Nat):Int)),(2,pnt b2),(3,pnt b3)]) (fun x=>[(3,b3,(W2 bl x.1).map U32,106),(2,b2,(List.replicate 64 (0#32)).map U32,106)]) (fun x=>48-x.1) ⟨0,om⟩ hGF trv trv<|?_
  rintro ⟨j,hj⟩
  dsimp only
  refine ah<|Xp<|Mv rfl<|Bnr rfl rfl (fun _=>aC _ _ _)<|aa<|?_
  refine bX rfl (fun hc=> ?_) (fun hc=> ?_)
  ·simp only[decide_eq_true_eq]at hc
   exact ap<|ah<|aj<|Xe []<|Mv rfl<|Mv rfl<|Bnr rfl rfl (fun _=>bq _ _ _ oi)<|Ia (((16+j)-2)) rfl rfl underlying106 sizeOf104<|Lm 3 U32 0 rfl rfl isAgg104 (by rw[gb];omega)<|Ca rfl (Ah _)<|Mv rfl<|Bnr rfl rfl (fun _=>bq _ _ _ oi)<|Ia (((16+j)-7)) rfl rfl underlying106 sizeOf104<|Lm 3 U32 0 rfl rfl isAgg104 (by rw[gb];omega)<|Bnr rfl rfl (fun _=>bH _ _ _)<|Mv rfl<|Bnr rfl rfl (fun _=>bq _ _ _ oi)<|Ia (((16+j)-15)) rfl rfl underlying106 sizeOf104<|Lm 3 U32 0 rfl rfl isAgg104 (by rw[gb];omega)<|Ca rfl (zS _)<|Bnr rfl rfl (fun _=>bH _ _ _)<|Mv rfl<|Bnr rfl rfl (fun _=>bq _ _ _ oi)<|Ia (((16+j)-16)) rfl rfl underlying106 sizeOf104<|Lm 3 U32 0 rfl rfl isAgg104 (by rw[gb];omega)<|Bnr rfl rfl (fun _=>bH _ _ _)<|Ia ((16+j)) rfl rfl underlying106 sizeOf104<|bv 3 U32 hGF rfl rfl rfl sizeOf104 rfl (by rw[gb];omega) rfl<|aa<|Xq<|Mv rfl<|Bnr rfl rfl (fun _=>ay _ _ _ oi)<|Asg rfl<|aa<|aU<|⟨rfl,⟨j+1,om⟩,_,by show 48-(j+1)<48-j;omega,rfl,trv,trv⟩
  ·obtain rfl:j=48:=by simp at hc;omega
   refine a8<|Xp<|Lw 3 rfl rfl zw (gb _ _)<|Sx 2 hGF rfl rfl rfl zw (gb _ _) (h9 _)<|aa<|am<|Rr<|?_
   exact az 2 rfl rfl rfl isAgg106 sizeOf106 (by rw[List.length_map,gb]) (fun w hw=>⟨rfl,ae hw⟩)
theorem gk{B:Bs}{L:Hl}{Y:Nat→Prop}(hw:Gt B.w0)(hM: ¬B.M 7)(k:Nat)(hk:k<64): ∀w,Hq B L Y w→w.cell? ⟨7,k,none⟩=some (U32 (KW.getD k 0)):=by
 have:=hw.g7 k _ (gm U32 KW 0 k hk)
 rw[Nat.zero_add]at this
 exact mK this hM
structure V8 where
 (a b c d e f g h:BitVec 32)
def rnd(v:V8)(k w:BitVec 32):V8:=
 ⟨(v.h+un v.e+(v.e &&& v.f^^^ ~~~v.e &&& v.g)+k+w)+(Eo v.a+(v.a &&& v.b^^^v.a &&& v.c^^^v.b &&& v.c)),v.a,v.b,v.c,v.d+(v.h+un v.e+(v.e &&& v.f^^^ ~~~v.e &&& v.g)+k+w),v.e,v.f,v.g⟩
def nC(v:V8)(ws:L3):Nat→V8
 |0=>v
 |k+1=>rnd (nC v ws k) (KW.getD k 0) (ws.getD k 0)
def v8(st:L3):V8:=⟨st.getD 0 0,st.getD 1 0,st.getD 2 0,st.getD 3 0,st.getD 4 0,st.getD 5 0,st.getD 6 0,st.getD 7 0⟩
def Ue(st:L3)(v:V8):L3:=[st.getD 0 0+v.a,st.getD 1 0+v.b,st.getD 2 0+v.c,st.getD 3 0+v.d,st.getD 4 0+v.e,st.getD 5 0+v.f,st.getD 6 0+v.g,st.getD 7 0+v.h]
def tT(st:L3)(bl:L8):L3:=Ue st (nC (v8 st) (W2 bl 48) 64)
theorem q7(st:L3)(bl:L8)(hs:st.length=8)(hb:bl.length=64):PUR 294 [.agg (st.map U32).toArray,.agg (bl.map U8).toArray] (.agg ((tT st bl).map U32).toArray):=by
 intro w hw
 refine Hf func294 rfl hw<|fun hGF=>Xp<|Bx 2 hGF rfl<|fun b2=>Bx 3 hGF rfl<|fun b3=>Al 4 hGF zv105<|fun b4=>aa<|Xp<|Lw 3 rfl rfl xW hb<|Ca rfl (w8 _ hb)<|Al 5 hGF zv106<|fun b5=>Sx 5 hGF rfl rfl rfl zw (gb _ _) (h9 _)<|aa<|Xd []<|Ia (0) rfl rfl underlying105 sizeOf104<|Lm 2 U32 0 rfl rfl isAgg104 (by rw[hs];omega)<|Ia (1) rfl rfl underlying105 sizeOf104<|Lm 2 U32 0 rfl rfl isAgg104 (by rw[hs];omega)<|Ia (2) rfl rfl underlying105 sizeOf104<|Lm 2 U32 0 rfl rfl isAgg104 (by rw[hs];omega)<|Ia (3) rfl rfl underlying105 sizeOf104<|Lm 2 U32 0 rfl rfl isAgg104 (by rw[hs];omega)<|Asg rfl<|Asg rfl<|Asg rfl<|Asg rfl<|aa<|Xd []<|Ia (4) rfl rfl underlying105 sizeOf104<|Lm 2 U32 0 rfl rfl isAgg104 (by rw[hs];omega)<|Ia (5) rfl rfl underlying105 sizeOf104<|Lm 2 U32 0 rfl rfl isAgg104 (by rw[hs];omega)<|Ia (6) rfl rfl underlying105 sizeOf104<|Lm 2 U32 0 rfl rfl isAgg104 (by rw[hs];omega)<|Ia (7) rfl rfl underlying105 sizeOf104<|Lm 2 U32 0 rfl rfl isAgg104 (by rw[hs];omega)<|Asg rfl<|Asg rfl<|Asg rfl<|Asg rfl<|aa<|?_
 refine ah<|Xp<|Lw 5 rfl rfl zw (gb _ _)<|Mv rfl<|aa<|aj<|cE (ι:={i:Nat // i≤64}) (fun x=>[(39,I (x.1:Int)),(2,pnt b2),(4,pnt b4),(6,U32 (nC (v8 st) (W2 bl 48) x.1).a),(7,U32 (nC (v8 st) (W2 bl 48) x.1).b),(8,U32 (nC (v8 st) (W2 bl 48) x.1).c),(9,U32 (nC (v8 st) (W2 bl 48) x.1).d),(10,U32 (nC (v8 st) (W2 bl 48) x.1).e),(11,U32 (nC (v8 st) (W2 bl 48) x.1).f),(12,U32 (nC (v8 st) (W2 bl 48) x.1).g),(13,U32 (nC (v8 st) (W2 bl 48) x.1).h),(38,.agg ((W2 bl 48).map U32).toArray)]) (fun x=>[(2,b2,st.map U32,105),(4,b4,(List.replicate 8 (0#32)).map U32,105)]) (fun x=>64-x.1) ⟨0,om⟩ hGF trv trv<|?_
 rintro ⟨i,hi⟩
 dsimp only
 refine Xp<|Bnr rfl rfl (fun _=>aC _ _ _)<|aa<|ah<|?_
 refine bX rfl (fun hc=> ?_) (fun hc=> ?_)
 ·simp only[decide_eq_true_eq]at hc
  refine ap<|ah<|aj<|Xp<|Mv rfl<|iX U32 0 (i) rfl rfl underlying106 sizeOf104 isAgg104 om om (gb _ _) rfl rfl<|Asg rfl<|Asg rfl<|aa<|Xp<|Mv rfl<|Mv rfl<|Bnr rfl rfl (fun _=>f8 _ _ _)<|Mv rfl<|a5 rfl (fun _=>xg _) rfl rfl<|Mv rfl<|Bnr rfl rfl (fun _=>f8 _ _ _)<|Bnr rfl rfl (fun _=>cK _ _ _)<|Asg rfl<|aa<|Xd []<|Mv rfl<|Mv rfl<|Ca rfl (AT _)<|Bnr rfl rfl (fun _=>bH _ _ _)<|Mv rfl<|Bnr rfl rfl (fun _=>bH _ _ _)<|Mv rfl<|Ia (i) rfl rfl underlying106 sizeOf104<|bu rfl isAgg104 (gk (B:=pl w) hw (fun h=>h) (i) om) rfl rfl<|Bnr rfl rfl (fun _=>bH _ _ _)<|Mv rfl<|Bnr rfl rfl (fun _=>bH _ _ _)<|Asg rfl<|aa<|Xp<|Mv rfl<|Mv rfl<|Bnr rfl rfl (fun _=>f8 _ _ _)<|Mv rfl<|?_
  refine Mv rfl<|Bnr rfl rfl (fun _=>f8 _ _ _)<|Bnr rfl rfl (fun _=>cK _ _ _)<|Mv rfl<|Mv rfl<|Bnr rfl rfl (fun _=>f8 _ _ _)<|Bnr rfl rfl (fun _=>cK _ _ _)<|Asg rfl<|aa<|Xp<|Mv rfl<|Ca rfl (At _)<|Mv rfl<|Bnr rfl rfl (fun _=>bH _ _ _)<|Asg rfl<|aa<|Xp<|Mv rfl<|Mv rfl<|Mv rfl<|Mv rfl<|Mv rfl<|Bnr rfl rfl (fun _=>bH _ _ _)<|Asg rfl<|Asg rfl<|Asg rfl<|Asg rfl<|aa<|Xq<|Mv rfl<|Mv rfl<|Mv rfl<|Mv rfl<|Mv rfl<|Bnr rfl rfl (fun _=>bH _ _ _)<|Asg rfl<|Asg rfl<|Asg rfl<|Asg rfl<|aa<|?_
  exact Xq<|Bnr rfl rfl (fun _=>ay _ _ _ oi)<|Mv rfl<|aa<|aU<|⟨rfl,⟨i+1,om⟩,_,by show 64-(i+1)<64-i;omega,rfl,trv,trv⟩
 ·obtain rfl:i=64:=by simp at hc;omega
  refine a8<|Xp<|Ia (0) rfl rfl underlying105 sizeOf104<|Lm 2 U32 0 rfl rfl isAgg104 (by rw[hs];omega)<|Mv rfl<|Bnr rfl rfl (fun _=>bH _ _ _)<|Ia (1) rfl rfl underlying105 sizeOf104<|Lm 2 U32 0 rfl rfl isAgg104 (by rw[hs];omega)<|Mv rfl<|Bnr rfl rfl (fun _=>bH _ _ _)<|Ia (2) rfl rfl underlying105 sizeOf104<|Lm 2 U32 0 rfl rfl isAgg104 (by rw[hs];omega)<|Mv rfl<|Bnr rfl rfl (fun _=>bH _ _ _)<|Ia (3) rfl rfl underlying105 sizeOf104<|Lm 2 U32 0 rfl rfl isAgg104 (by rw[hs];omega)<|Mv rfl<|Bnr rfl rfl (fun _=>bH _ _ _)<|Ia (4) rfl rfl underlying105 sizeOf104<|Lm 2 U32 0 rfl rfl isAgg104 (by rw[hs];omega)<|Mv rfl<|Bnr rfl rfl (fun _=>bH _ _ _)<|Ia (5) rfl rfl underlying105 sizeOf104<|Lm 2 U32 0 rfl rfl isAgg104 (by rw[hs];omega)<|Mv rfl<|Bnr rfl rfl (fun _=>bH _ _ _)<|Ia (6) rfl rfl underlying105 sizeOf104<|Lm 2 U32 0 rfl rfl isAgg104 (by rw[hs];omega)<|Mv rfl<|Bnr rfl rfl (fun _=>bH _ _ _)<|Ia (7) rfl rfl underlying105 sizeOf104<|Lm 2 U32 0 rfl rfl isAgg104 (by rw[hs];omega)<|Mv rfl<|Bnr rfl rfl (fun _=>bH _ _ _)<|qQ (n:=8) rfl rfl underlying105 sizeOf104 zeroValue105 rfl rfl rfl rfl<|aw 4 hGF rfl rfl rfl sizeOf105 rfl (by rw[List.length_map,List.length_replicate]) rfl rfl<|aa<|am<|Rr<|?_
  exact az 4 rfl rfl rfl isAgg105 sizeOf105 rfl (fun w hw=>⟨rfl,ae hw⟩)
def IV:L3:=[0x6a09e667#32,0xbb67ae85#32,0x3c6ef372#32,0xa54ff53a#32,0x510e527f#32,0x9b05688c#32,0x1f83d9ab#32,0x5be0cd19#32]
theorem we  :PUR 299 [] (.agg (IV.map U32).toArray):=by
 intro w hw
 refine Hf func299 rfl hw<|fun hGF=>Xp<|Al 0 hGF zv105<|fun b0=>aa<|Xp<|qQ (n:=8) rfl rfl underlying105 sizeOf104 zeroValue105 rfl rfl rfl rfl<|aw 0 hGF rfl rfl rfl sizeOf105 rfl (by rw[List.length_map,List.length_replicate]) rfl rfl<|aa<|am<|Rr<|?_
 exact az 0 rfl rfl rfl isAgg105 sizeOf105 rfl (fun w hw=>⟨rfl,ae hw⟩)
def DG(st:L3):Nat→L8
 |0=>List.replicate 32 0#8
 |k+1=>((((DG st k).set (4*k) ((st.getD k 0>>>24).setWidth 8)).set (4*k+1) ((st.getD k 0>>>16).setWidth 8)).set (4*k+2) ((st.getD k 0>>>8).setWidth 8)).set (4*k+3) ((st.getD k 0).setWidth 8)
theorem eD(st:L3): ∀k,(DG st k).length=32
 |0=>by simp[DG]
 |k+1=>by simp[DG,eD st k]
theorem uh(st:L3)(hs:st.length=8):PUR 295 [.agg (st.map U32).toArray] (.agg ((DG st 8).map U8).toArray):=by
 intro w hw
 refine Hf func295 rfl hw<|fun hGF=>Xp<|Bx 1 hGF rfl<|fun b1=>Al 2 hGF zv112<|fun b2=>aa<|Xp<|Al 3 hGF zv112<|fun b3=>aa<|ah<|Xp<|Lw 1 rfl rfl nv hs<|Mv rfl<|aa<|aj<|cE (ι:={i:Nat // i≤8}) (fun x=>[(7,I (x.1:Int)),(2,pnt b2),(3,pnt b3),(6,.agg (st.map U32).toArray)]) (fun x=>[(3,b3,(DG st x.1).map U8,112),(2,b2,(List.replicate 32 (0#8)).map U8,112)]) (fun x=>8-x.1) ⟨0,om⟩ hGF trv trv<|?_
 rintro ⟨i,hi⟩
 dsimp only
 refine Xp<|Bnr rfl rfl (fun _=>aC _ _ _)<|aa<|ah<|?_
 refine bX rfl (fun hc=> ?_) (fun hc=> ?_)
 ·simp only[decide_eq_true_eq]at hc
  refine ap<|ah<|aj<|Xp<|Mv rfl<|iX U32 0 (i) rfl rfl underlying105 sizeOf104 isAgg104 om om (hs) rfl rfl<|Asg rfl<|Asg rfl<|aa<|Xp<|Mv rfl<|Bnr rfl rfl (fun _=>bQ _ _ _ oi)<|Mv rfl<|Bnr rfl rfl (fun _=>eZ _ _ _)<|cN rfl rfl (fun _=>ii underlying104 underlying5 _) rfl rfl<|Ia ((4*i)) rfl rfl underlying112 sizeOf5<|bv 3 U8 hGF rfl rfl rfl sizeOf5 rfl (by simp[eD];omega) rfl<|aa<|Xp<|Mv rfl<|Bnr rfl rfl (fun _=>bQ _ _ _ oi)<|Bnr rfl rfl (fun _=>ay _ _ _ oi)<|Mv rfl<|Bnr rfl rfl (fun _=>eZ _ _ _)<|cN rfl rfl (fun _=>ii underlying104 underlying5 _) rfl rfl<|Ia (((4*i)+1)) rfl rfl underlying112 sizeOf5<|bv 3 U8 hGF rfl rfl rfl sizeOf5 rfl (by simp[eD];omega) rfl<|aa<|Xp<|Mv rfl<|Bnr rfl rfl (fun _=>bQ _ _ _ oi)<|Bnr rfl rfl (fun _=>ay _ _ _ oi)<|Mv rfl<|Bnr rfl rfl (fun _=>eZ _ _ _)<|cN rfl rfl (fun _=>ii underlying104 underlying5 _) rfl rfl<|Ia (((4*i)+2)) rfl rfl underlying112 sizeOf5<|bv 3 U8 hGF rfl rfl rfl sizeOf5 rfl (by simp[eD];omega) rfl<|aa<|Xq<|Mv rfl<|?_
  exact Bnr rfl rfl (fun _=>bQ _ _ _ oi)<|Bnr rfl rfl (fun _=>ay _ _ _ oi)<|Mv rfl<|cN rfl rfl (fun _=>ii underlying104 underlying5 _) rfl rfl<|Ia (((4*i)+3)) rfl rfl underlying112 sizeOf5<|bv 3 U8 hGF rfl rfl rfl sizeOf5 rfl (by simp[eD];omega) rfl<|aa<|Xq<|Bnr rfl rfl (fun _=>ay _ _ _ oi)<|Mv rfl<|aa<|aU<|⟨rfl,⟨i+1,om⟩,_,by show 8-(i+1)<8-i;omega,rfl,trv,trv⟩
 ·obtain rfl:i=8:=by simp at hc;omega
  refine a8<|Xp<|Lw 3 rfl rfl uy (eD _ _)<|Sx 2 hGF rfl rfl rfl uy (eD _ _) (bC _)<|aa<|am<|Rr<|?_
  exact az 2 rfl rfl rfl isAgg112 sizeOf112 (by rw[List.length_map,eD]) (fun w hw=>⟨rfl,ae hw⟩)
end Sh
end
section
open Go.RowKit
namespace Sh
theorem DL:(prog.info? 5).map (·.size)=some 1:=kr
def e1(rs:L8):L8:=(rs++List.replicate (64-rs.length) 0#8).set rs.length 128#8
theorem Ct(rs:L8)(h:rs.length≤64):(e1 rs).length=64:=by simp[e1];omega
def LB(bl:L8)(n:BitVec 64):Nat→L8
 |0=>bl
 |k+1=>(LB bl n k).set (56+k) (((8#64*n)>>>(56-8*(k:Int)).toNat).setWidth 8)
theorem vY(bl:L8)(n:BitVec 64): ∀k,(LB bl n k).length=bl.length
 |0=>rfl
 |k+1=>by simp[LB,vY bl n k]
theorem sW(rs:L8)(n:BitVec 64)(h:rs.length≤64)(k:Nat):(LB (e1 rs) n k).length=64:=by rw[vY,Ct rs h]
theorem tp(n:BitVec 64)(k:Nat):(LB (List.replicate 64 0#8) n k).length=64:=by rw[vY];simp
def sj(br bn:Nat)(a:Option Addr)(cap:Nat)(rs:L8)(n:BitVec 64):Cls:=fun W=>W.cell? ⟨br,0,none⟩=some (.slice a rs.length cap)∧W.cell? ⟨bn,0,none⟩=some (U64 n)∧BytesAt W a rs
def enc(bl:L8):List Value:=[.agg (bl.map U8).toArray]
theorem bz{J:(Nat→Prop)→World→Prop}(h:Rides J){L:Hl}{w:World}(hj:J (fun b=>Yof L b∨False) w):J (fun _=>False) w:=h.less _ _ _ (fun _ h=>h.elim) hj
theorem AU(br bn:Nat)(a:Option Addr)(cap:Nat)(rs:L8)(n:BitVec 64)(h:rs.length<56):el prog Gt 303 [pnt br,pnt bn] [enc (LB (e1 rs) n 8)] (sj br bn a cap rs n):=by
 intro l J Jx hJ hJx hRd hGx hY w hj
 have okJ: ∀k,BOk Gt (Bi w (fun Y=>J Y k)):=fun k=>⟨fun _ _ _ h=>(hRd _ _ _ h.rid).1,hJ k⟩
 have okX: ∀k,BOk Gt (Bi w (fun Y=>Jx Y k)):=fun k=>⟨fun _ _ _ h=>hGx _ _ _ h.rid,hJx k⟩
 have c1: ∀k L w',Hp (Bi w (fun Y=>J Y k)) L w'→sj br bn a cap rs n w':=fun k L w' h=>(hRd _ _ _ h.rid).2
 refine ca (G:=Gt) func303 rfl rfl (Hp (Bi w (fun Y=>J Y 0)) []) (bK (Bi w _) hj (hJ 0)) (ao (okJ 0))<|Xp<|Al 4 (okJ _) zv313<|fun b4=>aa<|Xd []<|ce (l:=0) (h':=64) rfl underlying313 sizeOf5 rfl rfl om om rfl rfl<|bu rfl isAgg22 (fun w h=>(c1 _ _ w h).1) rfl rfl<|fc 4 (okJ _) rfl rfl rfl underlying22 DL (by show rs.length=Nat.min rs.length 64;exact (Nat.min_eq_left om).symm) (fun w h=>(c1 _ _ w h).2.2) (by simp;omega) rfl rfl<|?_
 rw[rD rs 64 om]
 refine aa<|Xp<|bu rfl isAgg22 (fun w h=>(c1 _ _ w h).1) rfl rfl<|bk rfl (fun _=>aE underlying22 _ _ _ _) rfl rfl<|Ia (rs.length) rfl rfl underlying313 sizeOf5<|bv 4 U8 (okJ _) rfl rfl rfl sizeOf5 rfl (by simp;omega) rfl<|aa<|ah<|Xp<|bu rfl isAgg22 (fun w h=>(c1 _ _ w h).1) rfl rfl<|bk rfl (fun _=>aE underlying22 _ _ _ _) rfl rfl<|Bnr rfl rfl (fun _=>dM _ _ _)<|aa<|au (by show some (Value.bool (decide ((rs.length:Int)≥56)))=_;rw[decide_eq_false om])<|ap<|Xp<|bu rfl isAgg24 (fun w h=>(c1 _ _ w h).2.1) rfl rfl<|Bnr rfl rfl (fun _=>cJ _ _ _)<|Asg rfl<|aa<|ah<|Xp<|Mv rfl<|aa<|aj<|cE (ι:={i:Nat // i≤8}) (fun x=>[(23,I (x.1:Int)),(0,.func (.yield l) #[] #[]),(4,pnt b4),(5,U64 (8#64*n))]) (fun x=>[(4,b4,(LB (e1 rs) n x.1).map U8,313)]) (fun x=>8-x.1) ⟨0,om⟩ (okJ _) trv trv<|?_
 rintro ⟨i,hi⟩
 dsimp only
 refine Xp<|Bnr rfl rfl (fun _=>aC _ _ _)<|aa<|ah<|?_
 refine bX rfl (fun hc=> ?_) (fun hc=> ?_)
 ·simp only[decide_eq_true_eq]at hc
  exact ap<|ah<|aj<|Xp<|Mv rfl<|Asg rfl<|aa<|Xq<|Mv rfl<|Bnr rfl rfl (fun _=>ay _ _ _ oi)<|Mv rfl<|Mv rfl<|Bnr rfl rfl (fun _=>bQ _ _ _ oi)<|Bnr rfl rfl (fun _=>bq _ _ _ oi)<|Bnr rfl rfl (fun _=>eH _ _ _ om)<|cN rfl rfl (fun _=>ij underlying24 underlying5 _) rfl rfl<|Ia ((56+i)) rfl rfl underlying313 sizeOf5<|bv 4 U8 (okJ _) rfl rfl rfl sizeOf5 rfl (by rw[sW rs n om];omega) rfl<|aa<|Xq<|Bnr rfl rfl (fun _=>ay _ _ _ oi)<|Mv rfl<|aa<|aU<|⟨rfl,⟨i+1,om⟩,_,by show 8-(i+1)<8-i;omega,rfl,trv,trv⟩
 ·obtain rfl:i=8:=by simp at hc;omega
  refine a8<|Xq<|Mv rfl<|Lw 4 rfl rfl xW (by rw[sW rs n om])<|?_
  refine cU (hY.b (k:=0) rfl w) (okJ _) (okX _) rfl rfl rfl rfl rfl ?_ ?_
  ·exact aa<|cn rfl (fun w hw=>⟨⟨_,rfl⟩,.inl (bz (hJ _) hw.rid)⟩)
  ·exact aa<|cn rfl (fun w hw=>⟨⟨_,rfl⟩,.inr ⟨_,bz (hJx _) hw.rid⟩⟩)
theorem DR(br bn:Nat)(a:Option Addr)(cap:Nat)(rs:L8)(n:BitVec 64)(h:56≤rs.length)(h2:rs.length<64):el prog Gt 303 [pnt br,pnt bn] [enc (e1 rs),enc (LB (List.replicate 64 0#8) n 8)] (sj br bn a cap rs n):=by
 intro l J Jx hJ hJx hRd hGx hY w hj
 have okJ: ∀k,BOk Gt (Bi w (fun Y=>J Y k)):=fun k=>⟨fun _ _ _ h=>(hRd _ _ _ h.rid).1,hJ k⟩
 have okX: ∀k,BOk Gt (Bi w (fun Y=>Jx Y k)):=fun k=>⟨fun _ _ _ h=>hGx _ _ _ h.rid,hJx k⟩
 have c1: ∀k L w',Hp (Bi w (fun Y=>J Y k)) L w'→sj br bn a cap rs n w':=fun k L w' h=>(hRd _ _ _ h.rid).2
 refine ca (G:=Gt) func303 rfl rfl (Hp (Bi w (fun Y=>J Y 0)) []) (bK (Bi w _) hj (hJ 0)) (ao (okJ 0))<|Xp<|Al 4 (okJ _) zv313<|fun b4=>aa<|Xd []<|ce (l:=0) (h':=64) rfl underlying313 sizeOf5 rfl rfl om om rfl rfl<|bu rfl isAgg22 (fun w h=>(c1 _ _ w h).1) rfl rfl<|fc 4 (okJ _) rfl rfl rfl underlying22 DL (by show rs.length=Nat.min rs.length 64;exact (Nat.min_eq_left om).symm) (fun w h=>(c1 _ _ w h).2.2) (by simp;omega) rfl rfl<|?_
 rw[rD rs 64 om]
 refine aa<|Xp<|bu rfl isAgg22 (fun w h=>(c1 _ _ w h).1) rfl rfl<|bk rfl (fun _=>aE underlying22 _ _ _ _) rfl rfl<|Ia (rs.length) rfl rfl underlying313 sizeOf5<|bv 4 U8 (okJ _) rfl rfl rfl sizeOf5 rfl (by simp;omega) rfl<|aa<|ah<|Xp<|bu rfl isAgg22 (fun w h=>(c1 _ _ w h).1) rfl rfl<|bk rfl (fun _=>aE underlying22 _ _ _ _) rfl rfl<|Bnr rfl rfl (fun _=>dM _ _ _)<|aa<|aQ (by show some (Value.bool (decide ((rs.length:Int)≥56)))=_;rw[decide_eq_true om])<|ah<|Xp<|Mv rfl<|cf 4 rfl rfl isAgg313 sizeOf313 (by simp;omega) rfl rfl<|?_
 refine cU (hY.b (k:=0) rfl w) (okJ _) (okX _) rfl rfl rfl rfl rfl ?_ ?_
 ·refine a5 rfl (fun _=>aL _) rfl rfl<|aa<|au rfl<|ap<|Xq<|e9 zv313 underlying313 sizeOf5 rfl rfl<|aw 4 (okJ _) rfl rfl rfl sizeOf313 (by rw[List.length_map,List.length_replicate]) (by simp;omega) (bC _) rfl<|aa<|Xp<|bu rfl isAgg24 (fun w h=>(c1 _ _ w h).2.1) rfl rfl<|Bnr rfl rfl (fun _=>cJ _ _ _)<|Asg rfl<|aa<|ah<|Xp<|Mv rfl<|aa<|aj<|cE (ι:={i:Nat // i≤8}) (fun x=>[(23,I (x.1:Int)),(0,.func (.yield l) #[] #[]),(4,pnt b4),(5,U64 (8#64*n))]) (fun x=>[(4,b4,(LB (List.replicate 64 0#8) n x.1).map U8,313)]) (fun x=>8-x.1) ⟨0,om⟩ (okJ _) trv trv<|?_
  rintro ⟨i,hi⟩
  dsimp only
  refine Xp<|Bnr rfl rfl (fun _=>aC _ _ _)<|aa<|ah<|?_
  refine bX rfl (fun hc=> ?_) (fun hc=> ?_)
  ·simp only[decide_eq_true_eq]at hc
   exact ap<|ah<|aj<|Xp<|Mv rfl<|Asg rfl<|aa<|Xq<|Mv rfl<|Bnr rfl rfl (fun _=>ay _ _ _ oi)<|Mv rfl<|Mv rfl<|Bnr rfl rfl (fun _=>bQ _ _ _ oi)<|Bnr rfl rfl (fun _=>bq _ _ _ oi)<|Bnr rfl rfl (fun _=>eH _ _ _ om)<|cN rfl rfl (fun _=>ij underlying24 underlying5 _) rfl rfl<|Ia ((56+i)) rfl rfl underlying313 sizeOf5<|bv 4 U8 (okJ _) rfl rfl rfl sizeOf5 rfl (by rw[tp];omega) rfl<|aa<|Xq<|Bnr rfl rfl (fun _=>ay _ _ _ oi)<|Mv rfl<|aa<|aU<|⟨rfl,⟨i+1,om⟩,_,by show 8-(i+1)<8-i;omega,rfl,trv,trv⟩
  ·obtain rfl:i=8:=by simp at hc;omega
   refine a8<|Xq<|Mv rfl<|Lw 4 rfl rfl xW (tp _ _)<|?_
   refine cU (hY.b (k:=1) rfl w) (okJ _) (okX _) rfl rfl rfl rfl rfl ?_ ?_
   ·exact aa<|cn rfl (fun w hw=>⟨⟨_,rfl⟩,.inl (bz (hJ _) hw.rid)⟩)
   ·exact aa<|cn rfl (fun w hw=>⟨⟨_,rfl⟩,.inr ⟨_,bz (hJx _) hw.rid⟩⟩)
 ·refine a5 rfl (fun _=>aL _) rfl rfl<|aa<|aQ rfl<|am<|Rr<|?_
  exact cP rfl (fun w hw=>⟨⟨_,rfl⟩,.inr ⟨_,bz (hJx _) hw.rid⟩⟩)
end Sh
end
section
open Go.RowKit
namespace Sh
def fv(rs:L8)(n:BitVec 64):List L8:=if rs.length<56 then [LB (e1 rs) n 8]else [e1 rs,LB (List.replicate 64 0#8) n 8]
theorem uF(rs:L8)(n:BitVec 64)(h:rs.length<64): ∀bl∈fv rs n,bl.length=64:=by
 unfold fv
 split
 ·intro bl hbl
  rcases List.mem_singleton.1 hbl with rfl
  exact sW rs n om 8
 ·intro bl hbl
  rcases List.mem_cons.1 hbl with rfl|hbl
  ·exact Ct rs om
  ·rcases List.mem_singleton.1 hbl with rfl
   exact tp n 8
theorem H4(br bn:Nat)(a:Option Addr)(cap:Nat)(rs:L8)(n:BitVec 64)(h:rs.length<64):el prog Gt 303 [pnt br,pnt bn] ((fv rs n).map enc) (sj br bn a cap rs n):=by
 unfold fv
 split
 ·exact AU br bn a cap rs n (by assumption)
 ·exact DR br bn a cap rs n om h
def g9(bs:L8):List L8:=(List.range (bs.length / 64)).map fun k=>(bs.drop (64*k)).take 64
def A3(bs:L8):List L8:=g9 bs++fv (bs.drop (64*(bs.length / 64))) (BitVec.ofInt 64 bs.length)
theorem A1(bs:L8):(g9 bs).length=bs.length / 64:=by simp[g9]
theorem rT(sv:Value)(n:BitVec 64)(hs:sv.cells= #[sv])(w:World)(hw:Gt w):CLS 297 [sv,U64 n].toArray w (fun e w'=> ∃b2 b3,e=.returned (.func (.func 303) #[] #[pnt b2,pnt b3])∧Grow w w'∧w.heap.size≤b2∧w.heap.size≤b3∧b2≠b3∧OwnB w' b2 [sv] 22∧OwnB w' b3 [U64 n] 24):=by
 refine Hf func297 rfl hw<|fun hGF=>Xp<|fJ 2 hGF rfl rfl rfl<|fun b2=>fJ 3 hGF rfl rfl rfl<|fun b3=>Asg rfl<|aa<|Xp<|eK rfl rfl rfl rfl<|Asg rfl<|aa<|am<|Rr<|?_
 exact aH rfl rfl (fun w hw=>⟨b2,b3,rfl,ae hw,(hw.own 2 b2 _ _ rfl).2.elim id False.elim,(hw.own 3 b3 _ _ rfl).2.elim id False.elim,(fun e=>by subst e;exact absurd (hw.inj 2 3 _ _ _ _ _ rfl rfl) dc),(by have:=(hw.own 2 b2 _ _ rfl).1;rw[hs]at this;exact this),(hw.own 3 b3 _ _ rfl).1⟩)
theorem nR{n m:Nat}{b1 b2:Nat}{c1 c2:List Value}{t1 t2:TypeId}(hne:b1≠b2): ∀i j b c t c' t',lkB [(n,b1,c1,t1),(m,b2,c2,t2)] i=some (b,c,t)→lkB [(n,b1,c1,t1),(m,b2,c2,t2)] j=some (b,c',t')→i=j:=by
 intro i j b c t c' t' h1 h2
 rcases aB h1 with ⟨e1,x1⟩|⟨_,h1⟩<;>rcases aB h2 with ⟨e2,x2⟩|⟨_,h2⟩
 ·exact e1.trans e2.symm
 ·rcases aB h2 with ⟨_,x2⟩|⟨_,h2⟩
  ·cases x1;cases x2;exact (hne rfl).elim
  ·cases h2
 ·rcases aB h1 with ⟨_,x1⟩|⟨_,h1⟩
  ·cases x1;cases x2;exact (hne rfl).elim
  ·cases h1
 ·rcases aB h1 with ⟨e1,x1⟩|⟨_,h1⟩
  ·rcases aB h2 with ⟨e2,x2⟩|⟨_,h2⟩
   ·exact e1.trans e2.symm
   ·cases h2
  ·cases h1
end Sh
end
section
open Go.RowKit
namespace Sh
def go(st:L3)(bls:List L8):Nat→L3
 |0=>st
 |k+1=>tT (go st bls k) (bls.getD k [])
theorem gE(st:L3)(bl:L8):(tT st bl).length=8:=rfl
theorem gI(st:L3)(bls:List L8)(h:st.length=8): ∀k,(go st bls k).length=8
 |0=>h
 |_+1=>gE _ _
theorem Aq(st:L3)(hs:st.length=8)(gf:Nat)(caps:List Value)(bls:List L8)(hb: ∀bl∈bls,bl.length=64)(Rd:Cls)(he:ai prog gf)(hseq:el prog Gt gf caps (bls.map enc) Rd)(w:World)(hw:Gt w)(hRs: ∀w',Grow w w'→Rd w'):
 CLS 296 [.agg (st.map U32).toArray,.func (.func gf) #[] caps.toArray].toArray w (fun e w'=>e=.returned (.agg ((go st bls bls.length).map U32).toArray)∧Grow w w'):=by
 have hGF:BOk Gt (pl w):=gt_low.plain hw
 refine bV (G:=Gt) func296 rfl rfl (Hp (pl w) []) (bK (pl w) trivial ak) (ao hGF)<|Xp<|Bx 2 hGF rfl<|fun b2=>Al 4 hGF zv105<|fun b4=>aa<|ah<|Xp<|Mv rfl<|aa<|aj<|?_
 refine dS (fun _=>pl w) (fun _ _=>pl w) (fun _=>hGF) (fun _ _=>hGF) (fun _=>rfl) (fun _ _=>rfl) rfl rfl he hseq (by simp[enc]) rfl (fun k=>[(2,b2,(go st bls k).map U32,105),(4,b4,(List.replicate 8 0#32).map U32,105)]) (fun _ _ _=>False) trv (fun _ _ w' h=>hRs w' (h.below (fun _ h=>h))) ?_ ?_ (fun _ _ _ _ _ h=>h.elim)
 ·intro k x hx R hR
  obtain ⟨hk,rfl⟩:k<bls.length∧enc (bls.getD k [])=x:=by
   rw[List.getElem?_map]at hx
   rcases Nat.lt_or_ge k bls.length with h|h
   ·simp[h]at hx;exact ⟨h,by simpa [h]using hx⟩
   ·simp[h]at hx
  have hb64:(bls.getD k []).length=64:=hb _ (by rw[show bls.getD k []=bls[k]from by simp[hk]];exact List.getElem_mem hk)
  refine Xq<|cO 5 (hR (pl w) rfl hGF).1 zv313 rfl rfl<|fun b5=>aw 5 (hR (pl w) rfl hGF).1 rfl rfl rfl sizeOf313 (by rw[List.length_map,hb64]) (by rw[List.length_map,List.length_replicate]) (bC _) rfl<|aa<|?_
  refine ⟨rfl,_,rfl, ?_⟩
  exact aj<|Xq<|Lw 2 rfl rfl nv (by rw[gI st bls hs])<|Lw 5 rfl rfl xW hb64<|Ca rfl (q7 _ _ (gI _ _ hs _) hb64)<|aw 2 (hR (pl w) rfl hGF).2.1 rfl rfl rfl sizeOf105 (by rw[List.length_map,gE]) (by rw[List.length_map,gI st bls hs]) (h9 _) rfl<|aa<|⟨_,rfl,trv⟩
 ·intro D hD
  refine Xp<|Lw 2 rfl rfl nv (by rw[gI st bls hs])<|Sx 4 hD rfl rfl rfl nv (by rw[gI st bls hs]) (h9 _)<|aa<|am<|Rr<|?_
  refine cQ (.inl rfl) ak (az 4 rfl rfl rfl isAgg105 sizeOf105 (by rw[List.length_map,gI st bls hs]) (fun w hw=>⟨?_,ae hw⟩))
  rw[List.length_map]
def SHA(bs:L8):L8:=DG (go IV (A3 bs) (A3 bs).length) 8
theorem gu(bs:L8):(SHA bs).length=32:=eD _ 8
theorem bI{n:Nat}{b1:Nat}{c1:List Value}{t1:TypeId}: ∀i j b c t c' t',lkB [(n,b1,c1,t1)] i=some (b,c,t)→lkB [(n,b1,c1,t1)] j=some (b,c',t')→i=j:=by
 intro i j b c t c' t' h1 h2
 rcases aB h1 with ⟨e1,x1⟩|⟨_,h1⟩
 ·rcases aB h2 with ⟨e2,x2⟩|⟨_,h2⟩
  ·exact e1.trans e2.symm
  ·cases h2
 ·cases h1
end Sh
end
section
open Go.RowKit
namespace Sh
def hc(st:L3)(rs:L8)(n:BitVec 64):List Value:=st.map U32++(rs.map U8++[U64 n])
section
variable {st st':L3} {rs rs':L8} {n m:BitVec 64}
theorem ru(h1:st.length=8)(h2:rs.length=64):(hc st rs n).length=73:=by simp[hc,h1,h2]
theorem qX(h1:st.length=8)(h2:rs.length=64):(hc st rs n)[72]? =some (U64 n):=by
 unfold hc
 rw[List.getElem?_append_right (by simp[h1]),List.getElem?_append_right (by simp[h1,h2])]
 simp[h1,h2]
theorem VM: ∀j v,(st.map U32)[j]? =some v→(hc st rs n)[0+j]? =some v:=fun j v hv=>by
 have:j<(st.map U32).length:=by
  rcases Nat.lt_or_ge j (st.map U32).length with h|h
  ·exact h
  ·rw[List.getElem?_eq_none h]at hv;cases hv
 unfold hc
 rw[Nat.zero_add,List.getElem?_append_left this]
 exact hv
theorem J3(h1:st.length=8): ∀j v,(rs.map U8)[j]? =some v→(hc st rs n)[8+j]? =some v:=fun j v hv=>by
 have:j<(rs.map U8).length:=by
  rcases Nat.lt_or_ge j (rs.map U8).length with h|h
  ·exact h
  ·rw[List.getElem?_eq_none h]at hv;cases hv
 unfold hc
 rw[List.getElem?_append_right (by simp[h1]),List.getElem?_append_left (by simpa [h1]using this)]
 simpa [h1]using hv
theorem Mc(h1:st.length=8)(h1':st'.length=8):lay 0 (st'.map U32) (hc st rs n)=hc st' rs n:=by
 rw[ir _ _ _ (by simp[hc,h1,h1'])]
 simp[hc,h1',h1]
theorem uM(h1:st.length=8)(o:Nat)(xs:L8)(h:o+xs.length≤rs.length):lay (8+o) (xs.map U8) (hc st rs n)=hc st (rs.take o++xs++rs.drop (o+xs.length)) n:=by
 rw[ir _ _ _ (by simp[hc,h1];omega)]
 simp only[hc,List.take_append,List.drop_append,List.length_map,h1,List.map_append,List.map_take,List.map_drop]
 rw[List.take_of_length_le (by simp[h1]),List.drop_eq_nil_of_le (by simp[h1];omega)]
 rw[show 8+o-8=o from by omega,show o-rs.length=0 from by omega,show 8+o+xs.length-8=o+xs.length from by omega,show o+xs.length-rs.length=0 from by omega]
 simp
theorem LU(h1:st.length=8)(h2:rs.length=64)(h2':rs'.length=64):lay 8 (rs'.map U8) (hc st rs n)=hc st rs' n:=by
 have:=uM (rs:=rs) (n:=n) h1 0 rs' om
 rw[Nat.add_zero]at this
 rw[this,Nat.zero_add,List.drop_eq_nil_of_le om]
 simp
theorem ND(h1:st.length=8)(h2:rs.length=64):(hc st rs n).set 72 (U64 m)=hc st rs m:=by
 unfold hc
 rw[List.set_append_right _ _ (by simp[h1]),List.set_append_right _ _ (by simp[h1,h2])]
 simp[h1,h2]
end
def tl(T:L8):L8:=T.drop (64*(T.length / 64))
theorem kU(T:L8):(tl T).length=T.length % 64:=by simp[tl];omega
def nj(rs:L8):L8:=rs++List.replicate (64-rs.length) 0#8
theorem zY(rs:L8)(h:rs.length≤64):(nj rs).length=64:=by simp[nj];omega
def full(T:L8):L3:=go IV (g9 T) (T.length / 64)
structure HInv(T:L8)(st:L3)(rs:L8)(n:BitVec 64):Prop where
 len:T.length<9223372036854775808
 st8:st.length=8
 rest:rs=nj (tl T)
 num:n=BitVec.ofNat 64 T.length
 state:64≤T.length→st=full T
theorem HInv.zero:HInv [] (List.replicate 8 0#32) (List.replicate 64 0#8) 0:=⟨sm,sm,by simp[nj,tl],rfl,fun h=>by simp at h⟩
theorem HInv.rs64{T:L8}{st:L3}{rs:L8}{n:BitVec 64}(h:HInv T st rs n):rs.length=64:=by rw[h.rest];exact zY _ (by rw[kU];omega)
theorem HInv.toNat{T:L8}{st:L3}{rs:L8}{n:BitVec 64}(h:HInv T st rs n):n.toNat=T.length:=by
 have:=h.len
 rw[h.num,BitVec.toNat_ofNat];omega
def rch(st:L3)(n:BitVec 64):L3:=if n<64#64 then IV else st
theorem HInv.rch{T:L8}{st:L3}{rs:L8}{n:BitVec 64}(h:HInv T st rs n):rch st n=full T:=by
 unfold Sh.rch
 by_cases hlt:n<64#64
 ·have:T.length<64:=by have h1:=BitVec.lt_def.1 hlt;rw[h.toNat]at h1;simpa using h1
  rw[if_pos hlt,full,Nat.div_eq_of_lt this];rfl
 ·have: ¬T.length<64:=fun h'=>hlt (BitVec.lt_def.2 (by rw[h.toNat];simpa using h'))
  rw[if_neg hlt];exact h.state om
theorem l9{st:L3}{n:BitVec 64}(h:st.length=8):(rch st n).length=8:=by unfold rch;split;rfl;exact h
theorem i8(st:L3)(a b:List L8): ∀k,(∀i,i<k→a.getD i []=b.getD i [])→go st a k=go st b k
 |0,_=>rfl
 |k+1,h=>by rw[go,go,i8 st a b k (fun i hi=>h i om),h k om]
theorem m8(st:L3)(a b:List L8): ∀k,go st (a++b) (a.length+k)=go (go st a a.length) b k
 |0=>by
  show go st (a++b) a.length=go st a a.length
  exact i8 st _ _ _ (fun i hi=>by simp[List.getElem?_append_left hi])
 |k+1=>by
  rw[←Nat.add_assoc,go,m8 st a b k,go]
  congr 1
  simp only[List.getD_eq_getElem?_getD]
  rw[List.getElem?_append_right om,Nat.add_sub_cancel_left]
theorem Gj(T:L8):SHA T=DG (go (full T) (fv (tl T) (BitVec.ofInt 64 T.length)) (fv (tl T) (BitVec.ofInt 64 T.length)).length) 8:=by
 have:=m8 IV (g9 T) (fv (tl T) (BitVec.ofInt 64 T.length)) (fv (tl T) (BitVec.ofInt 64 T.length)).length
 unfold SHA
 rw[show A3 T=g9 T++fv (tl T) (BitVec.ofInt 64 T.length)from rfl,List.length_append,this,A1]
 rfl
theorem HInv.part{T:L8}{st:L3}{rs:L8}{n:BitVec 64}(h:HInv T st rs n)(xs:L8)(hx:T.length % 64+xs.length<64)(hl:(T++xs).length<9223372036854775808):
 HInv (T++xs) st (rs.take (T.length % 64)++xs++rs.drop (T.length % 64+xs.length)) (n+BitVec.ofInt 64 xs.length):=by
 have hd:(T++xs).length / 64=T.length / 64:=by simp;omega
 have ht:tl (T++xs)=tl T++xs:=by
  unfold tl
  rw[hd,List.drop_append_of_le_length om]
 refine ⟨hl,h.st8, ?_, ?_,fun h64=> ?_⟩
 ·have e:=kU T
  rw[h.rest,ht,nj,nj]
  rw[List.take_append_of_le_length om,List.take_of_length_le om,List.drop_append,List.drop_eq_nil_of_le om]
  simp only[List.nil_append,List.append_assoc,List.drop_replicate,List.length_append]
  congr 3
  omega
 ·apply BitVec.eq_of_toNat_eq
  rw[BitVec.toNat_add,h.toNat,BitVec.ofInt_natCast,BitVec.toNat_ofNat,BitVec.toNat_ofNat]
  simp
 ·have h64':64≤T.length:=by simp at h64;omega
  rw[h.state h64',full,full,hd]
  refine i8 _ _ _ _ (fun i hi=> ?_)
  have h1:i<T.length / 64:=hi
  have h2:i<(T++xs).length / 64:=om
  have e1:(g9 T).getD i []=(T.drop (64*i)).take 64:=by simp[g9,h1]
  have e2:(g9 (T++xs)).getD i []=((T++xs).drop (64*i)).take 64:=by
   unfold g9
   simp[-List.length_append,h2]
  rw[e1,e2,List.drop_append_of_le_length om,List.take_append_of_le_length (by simp;omega)]
theorem HInv.fill{T:L8}{st:L3}{rs:L8}{n:BitVec 64}(h:HInv T st rs n)(xs:L8)(hx:T.length % 64+xs.length=64)(hl:(T++xs).length<9223372036854775808):
 HInv (T++xs) (tT (full T) (rs.take (T.length % 64)++xs++rs.drop (T.length % 64+xs.length))) (List.replicate 64 0#8) (n+BitVec.ofInt 64 xs.length):=by
 have hd:(T++xs).length / 64=T.length / 64+1:=by simp;omega
 have ht:tl (T++xs)=[]:=by
  unfold tl
  rw[hd]
  apply List.drop_eq_nil_of_le
  simp;omega
 refine ⟨hl,gE _ _,by rw[ht];rfl, ?_,fun _=> ?_⟩
 ·apply BitVec.eq_of_toNat_eq
  rw[BitVec.toNat_add,h.toNat,BitVec.ofInt_natCast,BitVec.toNat_ofNat,BitVec.toNat_ofNat]
  simp
 ·rw[full,full,hd,go]
  have e2: ∀i,i<(T++xs).length / 64→(g9 (T++xs)).getD i []=((T++xs).drop (64*i)).take 64:=fun i hi=>by
   unfold g9
   simp[-List.length_append,hi]
  congr 1
  ·refine i8 _ _ _ _ (fun i hi=> ?_)
   have e1:(g9 T).getD i []=(T.drop (64*i)).take 64:=by simp[g9,hi]
   rw[e1,e2 i om,List.drop_append_of_le_length om,List.take_append_of_le_length (by simp;omega)]
  ·have e:=kU T
   rw[e2 _ om,h.rest,nj,List.take_append_of_le_length om,List.take_of_length_le om,List.drop_append,List.drop_eq_nil_of_le om]
   rw[List.drop_append_of_le_length om,show T.drop (64*(T.length / 64))=tl T from rfl,List.take_of_length_le (by simp;omega)]
   simp
   omega
end Sh
end
section
open Go.RowKit
namespace Sh
theorem AE{w:World}{b:Nat}{c:List Value}{t:TypeId}(h:OwnB w b c t){o:Nat}{cs:List Value}(hc: ∀j v,cs[j]? =some v→c[o+j]? =some v):w.rangeAt b o cs:=fun j v hv=>(h.cell (o+j)).trans (hc j v hv)
theorem kP(bh:Nat)(st:L3)(rs:L8)(n:BitVec 64)(h1:st.length=8)(h2:rs.length=64)(w:World)(hw:Gt w)(ho:OwnB w bh (hc st rs n) 315):
 CLS 293 [pnt bh].toArray w (fun e w'=>e=.returned (.agg ((rch st n).map U32).toArray)∧Grow w w'):=by
 refine Hf func293 rfl hw<|fun hGF=>Xp<|Al 2 hGF zv105<|fun b2=>aa<|ah<|Xp<|Mv rfl<|dW rfl rfl rfl<|Fa 72 rfl underlying315 rfl sizeOf24<|bu rfl isAgg24 (mK (B:=pl w) ((ho.cell 72).trans (qX h1 h2)) (fun h=>h)) rfl rfl<|Bnr rfl rfl (fun _=>m6 _ _ _)<|aa<|?_
 refine bX rfl (fun hc=> ?_) (fun hc=> ?_)
 ·simp only[decide_eq_true_eq]at hc
  refine Xp<|Ca rfl (we)<|Sx 2 hGF rfl rfl rfl nv (by rw[(show IV.length=8 from rfl)]) (h9 _)<|aa<|am<|Rr<|?_
  exact az 2 rfl rfl rfl isAgg105 sizeOf105 rfl (fun w hw=>⟨by rw[rch,if_pos hc],ae hw⟩)
 ·simp only[decide_eq_false_iff_not]at hc
  refine ap<|Xp<|Mv rfl<|dW rfl rfl rfl<|Fa 0 rfl underlying315 rfl sizeOf105<|dk rfl isAgg105 sizeOf105 (by rw[List.length_map,h1]) (eX (B:=pl w) (AE ho VM) (fun h=>h)) rfl rfl<|Sx 2 hGF rfl rfl rfl nv h1 (h9 _)<|aa<|am<|Rr<|?_
  exact az 2 rfl rfl rfl isAgg105 sizeOf105 (by rw[List.length_map,h1]) (fun w hw=>⟨by rw[rch,if_neg hc],ae hw⟩)
theorem vt(T:L8)(bh:Nat)(st:L3)(rs:L8)(n:BitVec 64)(hi:HInv T st rs n)(w:World)(hw:Gt w)(ho:OwnB w bh (hc st rs n) 315):
 CLS 283 [pnt bh].toArray w (fun e w'=>e=.returned (.agg ((SHA T).map U8).toArray)∧Grow w w'):=by
 have hGF:BOk Gt (pl w):=gt_low.plain hw
 have hmt:(n % 64#64).toNat=(tl T).length:=by rw[BitVec.toNat_umod,hi.toNat,kU];rfl
 have hm64:(n % 64#64).toNat<64:=by rw[hmt,kU];omega
 have hn:BitVec.ofInt 64 T.length=n:=by rw[hi.num,BitVec.ofInt_natCast]
 refine Hd func283 rfl hGF<|ac (E:=EE [297])<|Al 2 hGF zv112<|fun b2=>aa<|Xd [297]<|Mv rfl<|Cc rfl ent293 (fun w' hw' hG=>kP bh st rs n hi.st8 hi.rs64 w' hG (ho.of_same ((ae hw').block bh ho.lt)))<|Mv rfl<|dW rfl rfl rfl<|Fa 8 rfl underlying315 rfl sizeOf313<|Mv rfl<|dW rfl rfl rfl<|Fa 72 rfl underlying315 rfl sizeOf24<|bu rfl isAgg24 (mK (B:=pl w) ((ho.cell 72).trans (qX hi.st8 hi.rs64)) (fun h=>h)) rfl rfl<|Bnr rfl rfl (fun _=>d9 _ _ _ dc)<|HC rfl underlying313 sizeOf5 rfl hm64 rfl rfl<|Mv rfl<|dW rfl rfl rfl<|Fa 72 rfl underlying315 rfl sizeOf24<|bu rfl isAgg24 (mK (B:=pl w) ((ho.cell 72).trans (qX hi.st8 hi.rs64)) (fun h=>h)) rfl rfl<|?_
 refine cT rfl rfl ent297 rfl rfl (fun w' hw'=>(rT _ _ rfl w' (hGF.g _ _ _ hw')).mono fun e w'' h=> ?_)
 obtain ⟨c2,c3,rfl,hgr,h2,h3,hne,hc2,hc3⟩:=h
 refine ⟨_,_,rfl,ao hGF,hw'.news ak hgr [(31,c2,[.slice (some ⟨bh,8,none⟩) (n % 64#64).toNat 64],22),(32,c3,[U64 n],24)] ?_ ?_, ?_⟩
 ·intro n' b c t hl
  rcases aB hl with ⟨_,e⟩|⟨_,hl⟩
  ·cases e;exact ⟨h2,hc2⟩
  ·rcases aB hl with ⟨_,e⟩|⟨_,hl⟩
   ·cases e;exact ⟨h3,hc3⟩
   ·cases hl
 ·exact nR hne
 refine Cc rfl ent296 (fun w' hw' hG=>Aq (rch st n) (l9 hi.st8) 303 [pnt c2,pnt c3] (fv (tl T) n) (uF _ _ (by rw[kU];omega)) (sj c2 c3 (some ⟨bh,8,none⟩) 64 (tl T) n) ent303 (H4 c2 c3 (some ⟨bh,8,none⟩) 64 (tl T) n (by rw[kU];omega)) w' hG (fun w3 hg3=> ?_)) ?_
 ·have hx:=hw'.grow ak hg3
  refine ⟨by rw[←hmt];exact cp (n:=31) rfl rfl w3 hx,cp (n:=32) rfl rfl w3 hx,BytesAt.range ?_⟩
  intro j v hv
  refine mK (B:=pl w) ((ho.cell (8+j)).trans ?_) (fun h=>h) w3 hx
  refine J3 hi.st8 j v ?_
  rw[hi.rest,nj,List.map_append]
  have hlt:j<((tl T).map U8).length:=by
   rcases Nat.lt_or_ge j ((tl T).map U8).length with h|h
   ·exact h
   ·rw[List.getElem?_eq_none h]at hv;cases hv
  rw[List.getElem?_append_left hlt];exact hv
 refine Ca rfl (uh _ (gI _ _ (l9 hi.st8) _))<|Sx 2 hGF rfl rfl rfl uy (eD _ _) (bC _)<|aa<|am<|Rr<|?_
 exact az 2 rfl rfl rfl isAgg112 sizeOf112 (by rw[List.length_map,eD]) (fun w hw=>⟨by rw[Gj T,hi.rch,hn],ae hw⟩)
end Sh
end
end Go.Proofs.YtfgacclgjklgnaaGreatDoor
