/- L10 -/
import Derived.Test.YtfgacclgjklgnaaGreatDoorL9
import Derived.Test.YtfgacclgjklgnaaGreatDoorX3
import Derived.Test.YtfgacclgjklgnaaGreatDoorXW
import Derived.Test.YtfgacclgjklgnaaGreatDoorL5
import Derived.Test.YtfgacclgjklgnaaGreatDoorX2
set_option maxRecDepth 100000
set_option maxHeartbeats 1000000
namespace Go.Proofs.YtfgacclgjklgnaaGreatDoor
open Go.Proofs.Tryz
section
open Go.RowKit
attribute [local simp] aT a9 aR aM aC bd aJ aI aA PLl cq cn N1l ck cp cm a5 bc aP aX a8 J1.bf J2.bf
namespace Q6
theorem DO(a:W6)(b c:W2):SHT a b c=K6.mul a (b,c,ze2):=Prod.ext (zq R2 [a.1,a.2.1,a.2.2,b,c,XI] (ta (tm j0 j3) (txi 5 (tm j2 j4) rfl)) (ta (tm j0 j3) (tm j5 (ta (tm j1 tz0) (tm j2 j4))))) (Prod.ext (zq R2 [a.1,a.2.1,a.2.2,b,c,XI] (ta (ta (tm (ta j0 j1) (ta j3 j4)) (tn (tm j0 j3))) (tn (tm j1 j4))) (ta (ta (tm j0 j4) (tm j1 j3)) (tm j5 (tm j2 tz0)))) (zq R2 [a.1,a.2.1,a.2.2,b,c,XI] (ta (tm j1 j4) (tm j2 j3)) (ta (ta (tm j0 tz0) (tm j1 j4)) (tm j2 j3))))
def TMS(t:W6)(f:W12):W12:=(K6.add (SHT f.1 t.1 t.2.1) (v6 (v6 (sc6 f.2 t.2.2))),sb6 (sb6 (SHT (K6.add f.1 f.2) t.1 (ad2 t.2.1 t.2.2)) (SHT f.1 t.1 t.2.1)) (v6 (sc6 f.2 t.2.2)))
theorem K8(t:W6):lel t=((t.1,t.2.1,ze2),K6.mul (t.2.2,ze2,ze2) VV):=Prod.ext rfl (by rw[yT];exact Prod.ext (show ze2=xi2 ze2 by rw[Bz];exact (R2.zero_mul _).symm) rfl)
theorem NT(t:W6):(t.1,ad2 t.2.1 t.2.2,ze2)=K6.add (t.1,t.2.1,ze2) (K6.mul (t.2.2,ze2,ze2) VV):=by
 rw[←show ((lel t).2:W6)=K6.mul (t.2.2,ze2,ze2) VV from congrArg Prod.snd (K8 t)]
 exact Prod.ext (R2.add_zero _).symm (Prod.ext rfl (R2.add_zero _).symm)
theorem Mr(t:W6)(f:W12):TMS t f=K12.mul (lel t) f:=by
 rw[TMS,K8,DO,DO,wG,wG,NT,←Gf,←yT,←yT]
 exact Prod.ext (zq K6 [f.1,f.2,(t.1,t.2.1,ze2),(t.2.2,ze2,ze2),VV] (ta (tm j0 j2) (tm (tm (tm j1 j3) j4) j4)) (ta (tm j2 j0) (tm j4 (tm (tm j3 j4) j1)))) (zq K6 [f.1,f.2,(t.1,t.2.1,ze2),(t.2.2,ze2,ze2),VV] (ta (ta (tm (ta j0 j1) (ta j2 (tm j3 j4))) (tn (tm j0 j2))) (tn (tm (tm j1 j3) j4))) (ta (tm j2 j1) (tm (tm j3 j4) j0)))
theorem zA(t:W6)(f:W12):PUR 217 [EV6 t,ch f] (ch (TMS t f)):=(bL (l2 (V6 _) (V12 _)) (V12 _) (pE TO222 func217 [.inl [t.1.1,t.1.2,t.2.1.1,t.2.1.2,t.2.2.1,t.2.2.2],.inl [f.1.1.1,f.1.1.2,f.1.2.1.1,f.1.2.1.2,f.1.2.2.1,f.1.2.2.2,f.2.1.1,f.2.1.2,f.2.2.1.1,f.2.2.1.2,f.2.2.2.1,f.2.2.2.2]] (.inl (.inl [(TMS t f).1.1.1,(TMS t f).1.1.2,(TMS t f).1.2.1.1,(TMS t f).1.2.1.2,(TMS t f).1.2.2.1,(TMS t f).1.2.2.2,(TMS t f).2.1.1,(TMS t f).2.1.2,(TMS t f).2.2.1.1,(TMS t f).2.2.1.2,(TMS t f).2.2.2.1,(TMS t f).2.2.2.2])) (let t0:=SHT ((f.1.1.1,f.1.1.2),(f.1.2.1.1,f.1.2.1.2),(f.1.2.2.1,f.1.2.2.2)) (t.1.1,t.1.2) (t.2.1.1,t.2.1.2);let t1:=sc6 ((f.2.1.1,f.2.1.2),(f.2.2.1.1,f.2.2.1.2),(f.2.2.2.1,f.2.2.2.2)) (t.2.2.1,t.2.2.2);let t2:=v6 ((t1.1.1,t1.1.2),(t1.2.1.1,t1.2.1.2),(t1.2.2.1,t1.2.2.2));let t3:=K6.add ((f.1.1.1,f.1.1.2),(f.1.2.1.1,f.1.2.1.2),(f.1.2.2.1,f.1.2.2.2)) ((f.2.1.1,f.2.1.2),(f.2.2.1.1,f.2.2.1.2),(f.2.2.2.1,f.2.2.2.2));let t4:=ad2 (t.2.1.1,t.2.1.2) (t.2.2.1,t.2.2.2);let t5:=SHT ((t3.1.1,t3.1.2),(t3.2.1.1,t3.2.1.2),(t3.2.2.1,t3.2.2.2)) (t.1.1,t.1.2) (t4.1,t4.2);let t6:=v6 ((t2.1.1,t2.1.2),(t2.2.1.1,t2.2.1.2),(t2.2.2.1,t2.2.2.2));let t7:=K6.add ((t0.1.1,t0.1.2),(t0.2.1.1,t0.2.1.2),(t0.2.2.1,t0.2.2.2)) ((t6.1.1,t6.1.2),(t6.2.1.1,t6.2.1.2),(t6.2.2.1,t6.2.2.2));let t8:=sb6 ((t5.1.1,t5.1.2),(t5.2.1.1,t5.2.1.2),(t5.2.2.1,t5.2.2.2)) ((t0.1.1,t0.1.2),(t0.2.1.1,t0.2.1.2),(t0.2.2.1,t0.2.2.2));let t9:=sb6 ((t8.1.1,t8.1.2),(t8.2.1.1,t8.2.1.2),(t8.2.2.1,t8.2.2.2)) ((t2.1.1,t2.1.2),(t2.2.1.1,t2.2.1.2),(t2.2.2.1,t2.2.2.2));(.inl (.inl [t7.1.1,t7.1.2,t7.2.1.1,t7.2.1.2,t7.2.2.1,t7.2.2.2,t9.1.1,t9.1.2,t9.2.1.1,t9.2.1.2,t9.2.2.1,t9.2.2.2]),[])) [] kr aG rfl))
theorem gR{f:Nat}{g:W6→W12→W12}(en:ai prog f)(h: ∀a b,PUR f [EV6 a,ch b] (ch (g a b))):Snd prog Gt f (c2 q6.ag q12.ag q12.rd g):=fS q6.ag q12.ag q12.rd en (fun a b=>bL (l2 (V6 _).symm (V12 _).symm) (V12 _).symm (h a b))
def TO223:Tb prog Gt:=TO222.add (gR (g:=TMS) ent217 zA)
theorem vF(t:W6)(f:W12):PUR 217 [EV6 t,ch f] (ch (K12.mul (lel t) f)):=by rw[←Mr];exact zA t f
def TO224:Tb prog Gt:=TO223.add (gR (g:=fun t f=>K12.mul (lel t) f) ent217 vF)
def jo(w:WK):List Zp:=[w.1.1,w.1.2,w.2.1.1.1,w.2.1.1.2,w.2.1.2.1,w.2.1.2.2,w.2.2.1.1,w.2.2.1.2,w.2.2.2.1.1,w.2.2.2.1.2,w.2.2.2.2.1,w.2.2.2.2.2]
theorem pM{f:FuncId}{fn:Func}{c:Code}(T:Tb prog Gt)(hf:prog.funcs[f]? =some fn)(a:List S0)(l l':List Zp)(t:TypeId)(u:S0)(vc:S1×CB)(p:Pa)(h:xM T fn c a l t p=some vc)(hc:Ok vc.2)(e:vc.1=.inr [u,.inl l']){b:Nat}{pre post:List Value}{w:World}(hw:Gt w)(hb:8≤b)(ho:OwnB w b (pre++(clv l++post)) t)
 (hbd:fn.body=some c:=by rfl) (hn:Nat.ble (a.length+1) fn.ntmps=true:=by rfl) (hN:Nat.ble fn.ntmps 1000000=true:=by rfl) (ha:a.all npS=true:=by rfl):
 CLS f (.pointer (some ⟨b,pre.length,none⟩)::a.map (dn rid)).toArray w (fun e w'=>e=.returned (dn rid u)∧Mod b w w'∧OwnB w' b (pre++(clv l'++post)) t):=
 HD T dR hf hbd (cs:=vc.2) (by rw[←e];exact h) hc hn hN ha ((gt_low.from (M:=fun k=>k=b) hw (fun m hm=>by subst hm;exact hb)).ok (B:=plM w (fun k=>k=b)) ak) ho
theorem Ti{P:Program}{f:FuncId}{xs ys:List Value}{w:World}{b:Nat}{v v':Value}{c c':List Value}{t:TypeId}(h:Calls P f xs.toArray w (fun e w'=>e=.returned v∧Mod b w w'∧OwnB w' b c t))(ha:ys=xs)(hv:v'=v)(hc:c'=c):Calls P f ys.toArray w (fun e w'=>e=.returned v'∧Mod b w w'∧OwnB w' b c' t):=by subst ha;subst hv;subst hc;exact h
theorem mdbl(w:WK){b:Nat}{pre post:List Value}{W:World}(hw:Gt W)(hb:8≤b)(ho:OwnB W b (pre++(clv (jo w)++post)) 264):
 CLS 216 [.pointer (some ⟨b,pre.length,none⟩)].toArray W (fun e W'=>e=.returned (EV6 (rDb w))∧Mod b W W'∧OwnB W' b (pre++(clv (jo (wDb w))++post)) 264):=
 Ti (pM TO224 func216 [] ([w.1.1,w.1.2,w.2.1.1.1,w.2.1.1.2,w.2.1.2.1,w.2.1.2.2,w.2.2.1.1,w.2.2.1.2,w.2.2.2.1.1,w.2.2.2.1.2,w.2.2.2.2.1,w.2.2.2.2.2]) (jo (wDb w)) 264 (.inl [(rDb w).1.1,(rDb w).1.2,(rDb w).2.1.1,(rDb w).2.1.2,(rDb w).2.2.1,(rDb w).2.2.2]) (let t0:=(TG2 (w.2.2.1.1,w.2.2.1.2) (w.2.2.2.1.1,w.2.2.2.1.2)).1;let t1:=(TG2 (w.2.2.1.1,w.2.2.1.2) (w.2.2.2.1.1,w.2.2.2.1.2)).2;let t2:=ml2 (w.2.2.2.2.1,w.2.2.2.2.2) (t1.1,t1.2);let t3:=ml2 (t1.1,t1.2) (w.2.2.2.1.1,w.2.2.2.1.2);let t4:=ml2 (w.2.2.2.2.1,w.2.2.2.2.2) (w.2.2.2.2.1,w.2.2.2.2.2);let t5:=ml2 (t0.1,t0.2) (w.2.2.1.1,w.2.2.1.2);let t6:=E2w.sub (t5.1,t5.2) (t3.1,t3.2);let t7:=ml2 (t0.1,t0.2) (t4.1,t4.2);let t8:=ml2 (t2.1,t2.2) (t4.1,t4.2);let t9:=LR5 w.1.1 w.1.2 (t6.1,t6.2) (t7.1,t7.2) (t8.1,t8.2);let t10:=ad2 (t3.1,t3.2) (t3.1,t3.2);let t11:=ml2 (t10.1,t10.2) (w.2.2.1.1,w.2.2.1.2);let t12:=ml2 (t0.1,t0.2) (t0.1,t0.2);let t13:=E2w.sub (t12.1,t12.2) (t11.1,t11.2);let t14:=E2w.sub (t13.1,t13.2) (t11.1,t11.2);let t15:=E2w.sub (t11.1,t11.2) (t14.1,t14.2);let t16:=ml2 (t0.1,t0.2) (t15.1,t15.2);let t17:=ml2 (t10.1,t10.2) (t3.1,t3.2);let t18:=E2w.sub (t16.1,t16.2) (t17.1,t17.2);(.inr [.inl [t9.1.1,t9.1.2,t9.2.1.1,t9.2.1.2,t9.2.2.1,t9.2.2.2],.inl [w.1.1,w.1.2,w.2.1.1.1,w.2.1.1.2,w.2.1.2.1,w.2.1.2.2,t14.1,t14.2,t18.1,t18.2,t2.1,t2.2]],[])) [] kr aG rfl hw hb ho) rfl (V6 _) rfl
theorem mjn(w:WK){b:Nat}{pre post:List Value}{W:World}(h: ¬w.2.2.2.2=ze2)(hw:Gt W)(hb:8≤b)(ho:OwnB W b (pre++(clv (jo w)++post)) 264):
 CLS 218 [.pointer (some ⟨b,pre.length,none⟩)].toArray W (fun e W'=>e=.returned (EV6 (rJn w))∧Mod b W W'∧OwnB W' b (pre++(clv (jo (wJn w))++post)) 264):=by
 rw[show rJn w=LNR (E2w.wjL w.2.2 w.2.1) w.1 from if_neg h,show wJn w=(w.1,w.2.1,E2w.wjJ w.2.2 w.2.1)from if_neg h]
 exact Ti (pM TO224 func218 [] ([w.1.1,w.1.2,w.2.1.1.1,w.2.1.1.2,w.2.1.2.1,w.2.1.2.2,w.2.2.1.1,w.2.2.1.2,w.2.2.2.1.1,w.2.2.2.1.2,w.2.2.2.2.1,w.2.2.2.2.2]) (jo ((w.1,w.2.1,E2w.wjJ w.2.2 w.2.1))) 264 (.inl [(LNR (E2w.wjL w.2.2 w.2.1) w.1).1.1,(LNR (E2w.wjL w.2.2 w.2.1) w.1).1.2,(LNR (E2w.wjL w.2.2 w.2.1) w.1).2.1.1,(LNR (E2w.wjL w.2.2 w.2.1) w.1).2.1.2,(LNR (E2w.wjL w.2.2 w.2.1) w.1).2.2.1,(LNR (E2w.wjL w.2.2 w.2.1) w.1).2.2.2]) (let t0:=ml2 (w.2.2.2.2.1,w.2.2.2.2.2) (w.2.2.2.2.1,w.2.2.2.2.2);let t1:=ml2 (w.2.1.2.1,w.2.1.2.2) (t0.1,t0.2);let t2:=ml2 (t1.1,t1.2) (w.2.2.2.2.1,w.2.2.2.2.2);let t3:=E2w.sub (t2.1,t2.2) (w.2.2.2.1.1,w.2.2.2.1.2);let t4:=ml2 (w.2.1.1.1,w.2.1.1.2) (t0.1,t0.2);let t5:=E2w.sub (t4.1,t4.2) (w.2.2.1.1,w.2.2.1.2);let t6:=ml2 (w.2.2.2.2.1,w.2.2.2.2.2) (t5.1,t5.2);let t7:=ml2 (t3.1,t3.2) (w.2.1.1.1,w.2.1.1.2);let t8:=ml2 (t6.1,t6.2) (w.2.1.2.1,w.2.1.2.2);let t9:=E2w.sub (t7.1,t7.2) (t8.1,t8.2);let t10:=LR5 w.1.1 w.1.2 (t9.1,t9.2) (t3.1,t3.2) (t6.1,t6.2);let t11:=ml2 (t5.1,t5.2) (t5.1,t5.2);let t12:=ml2 (t11.1,t11.2) (t5.1,t5.2);let t13:=ml2 (t11.1,t11.2) (w.2.2.1.1,w.2.2.1.2);let t14:=ml2 (t3.1,t3.2) (t3.1,t3.2);let t15:=E2w.sub (t14.1,t14.2) (t12.1,t12.2);let t16:=E2w.sub (t15.1,t15.2) (t13.1,t13.2);let t17:=E2w.sub (t16.1,t16.2) (t13.1,t13.2);let t18:=E2w.sub (t13.1,t13.2) (t17.1,t17.2);let t19:=ml2 (t3.1,t3.2) (t18.1,t18.2);let t20:=ml2 (t12.1,t12.2) (w.2.2.2.1.1,w.2.2.2.1.2);let t21:=E2w.sub (t19.1,t19.2) (t20.1,t20.2);(.inr [.inl [t10.1.1,t10.1.2,t10.2.1.1,t10.2.1.2,t10.2.2.1,t10.2.2.2],.inl [w.1.1,w.1.2,w.2.1.1.1,w.2.1.1.2,w.2.1.2.1,w.2.1.2.2,t17.1,t17.2,t21.1,t21.2,t6.1,t6.2]],[(decide ((w.2.2.2.2.1,w.2.2.2.2.2)=ze2),false)])) [some false] kr (au (decide_eq_false h) aG) rfl hw hb ho) rfl (V6 _) rfl
end Q6
end
section
open Go.RowKit
attribute [local simp] aT a9 aR aM aC bd aJ aI aA PLl cq cn N1l ck cp cm a5 bc aP aX a8
theorem NO:PUR 241 [U64 15132376222941642752#64] (I 64):=by
 intro w hw
 refine Hf func241 rfl hw<|fun hGF=>Xp<|Asg rfl<|aa<|ah<|Xp<|Mv rfl<|Bnb true rfl rfl (fun _=>jJ _ _ _) dc<|aa<|aU rfl<|Xp<|Mv rfl<|Bnr (v:=U64 3523280896#64) rfl rfl (fun _=>(du _ _ 32#64).trans rr)<|Asg rfl<|aa<|Xq<|Asg rfl<|aa<|ah<|Xp<|Mv rfl<|Bnb true rfl rfl (fun _=>jJ _ _ _) dc<|aa<|aU rfl<|Xp<|Mv rfl<|Bnr (v:=U64 53761#64) rfl rfl (fun _=>(du _ _ 16#64).trans rr)<|Asg rfl<|aa<|Xq<|Mv rfl<|Bnr (v:=I 48) rfl rfl (fun _=>(az _ _ _ (by unfold inI;decide)).trans rr)<|Asg rfl<|aa<|ah<|Xp<|Mv rfl<|Bnb true rfl rfl (fun _=>jJ _ _ _) dc<|aa<|aU rfl<|?_
 refine Xp<|Mv rfl<|Bnr (v:=U64 210#64) rfl rfl (fun _=>(du _ _ 8#64).trans rr)<|Asg rfl<|aa<|Xq<|Mv rfl<|Bnr (v:=I 56) rfl rfl (fun _=>(az _ _ _ (by unfold inI;decide)).trans rr)<|Asg rfl<|aa<|Xp<|Mv rfl<|Mv rfl<|cJ rfl rfl (fun _=>g8 underlying24 underlying5 _) rfl rfl<|GF (n:=8#8) rfl rfl underlying9 dc kr rfl rfl<|cJ rfl rfl (fun _=>z6 underlying5 underlying3 _) rfl rfl<|Bnr (v:=I 64) rfl rfl (fun _=>(az _ _ _ (by unfold inI;decide)).trans rr)<|Asg rfl<|aa<|am<|Rr<|?_
 exact aH rfl rfl (fun w hw=>⟨rfl,ac hw⟩)
theorem va:PUR 214 [] (.func (.func 240) #[] #[]):=by
 intro w hw
 refine Hf func214 rfl hw<|fun hGF=>Xp<|Asg rfl<|aa<|Xp<|Asg rfl<|aa<|am<|Rr<|?_
 exact aH rfl rfl (fun w hw=>⟨rfl,ac hw⟩)
def DGb(k:Nat):Bool:=15132376222941642752#64>>>(62-k) &&& 1#64==1#64
def D63:List Bool:=(List.range 63).map DGb
theorem lM:D63.length=63:=by rw[D63,List.length_map,List.length_range]
theorem zj{k:Nat}(h:k<63):D63[k]? =some (DGb k):=by rw[D63,List.getElem?_map,List.getElem?_range h];rfl
def DGs:List (List Value):=D63.map fun d=>[.bool d]
theorem mg:DGs.length=63:=by rw[DGs,List.length_map,lM]
theorem ye{k:Nat}(h:k<63):DGs[k]? =some [.bool (DGb k)]:=by rw[DGs,List.getElem?_map,zj h];rfl
theorem wt{k:Nat}{v:List Value}(h:DGs[k]? =some v):k<63∧v=[.bool (DGb k)]:=by
 have hk:k<63:=by
  rcases Nat.lt_or_ge k 63 with hk|hk
  ·exact hk
  ·rw[List.getElem?_eq_none (by rw[mg];exact hk)]at h;cases h
 exact ⟨hk,(Option.some.inj ((ye hk).symm.trans h)).symm⟩
theorem po:ek prog Gt 240 [] DGs (fun _=>True):=by
 intro l J Jx hJ hJx hRd hGx hY w hj
 have okJ: ∀k,BOk Gt (Bi w (fun Y=>J Y k)):=fun k=>⟨fun _ _ _ h=>(hRd _ _ _ h.rid).1,hJ k⟩
 have okX: ∀k,BOk Gt (Bi w (fun Y=>Jx Y k)):=fun k=>⟨fun _ _ _ h=>hGx _ _ _ h.rid,hJx k⟩
 refine bY (G:=Gt) func240 rfl rfl (Hp (Bi w (fun Y=>J Y 0)) []) (bN (Bi w _) hj (hJ 0)) (aq (okJ 0))<|Xp<|Ca rfl (NO)<|Bnr (v:=I 62) rfl rfl (fun _=>(bi _ _ _ (by unfold inI;decide)).trans rr)<|Asg rfl<|aa<|aj<|fk (ι:={k:Nat // k≤63}) (fun x=>[(0,.func (.yield l) #[] #[]),(2,I (62-(x.1:Int)))]) (fun x=>Bi w (fun Y=>J Y x.1)) (fun x=>[]) (fun x=>63-x.1) ⟨0,Nat.zero_le _⟩ (fun _=>okJ _) rfl trv trivial<|?_
 rintro ⟨k,hk⟩
 dsimp only
 refine ah<|Xp<|Mv rfl<|Bnr (v:=.bool (decide (k<63))) rfl rfl (fun _=>(dK _ _ _).trans (by rw[show decide ((62-(k:Int))≥0)=decide (k<63)from decide_eq_decide.2 om]))<|aa<|?_
 refine bV rfl (fun hc=> ?_) (fun hc=> ?_)
 ·have hk2:k<63:=by simpa using hc
  refine ap<|ah<|aj<|Xp<|Mv rfl<|Mv rfl<|Bnr (v:=U64 (15132376222941642752#64>>>(62-k))) rfl rfl (fun _=>(eD _ _ _ om).trans (by rw[show (62-(k:Int)).toNat=62-k by omega]))<|Bnr (v:=U64 (15132376222941642752#64>>>(62-k) &&& 1#64)) rfl rfl (fun _=>eV _ _ 1#64)<|Bnr (v:=.bool (DGb k)) rfl rfl (fun _=>bR _ _ 1#64)<|?_
  refine cN (hY.b (k:=k) (ye hk2) w) (okJ _) (okX _) rfl rfl rfl rfl rfl ?_ ?_
  ·refine aY rfl (fun _=>aK _) rfl rfl<|aa<|av rfl<|ap<|Xq<|Mv rfl<|Bnr (v:=I (62-((k+1:Nat):Int))) rfl rfl (fun _=>(bi _ _ _ oi).trans (by rw[show 62-(k:Int)-1=62-((k+1:Nat):Int) by omega]))<|Asg rfl<|aa<|?_
   repeat (refine a7 ?_)
   exact aV<|⟨rfl,⟨k+1,om⟩,_,by show 63-(k+1)<63-k;omega,rfl,trv,trivial⟩
  ·refine aY rfl (fun _=>aK _) rfl rfl<|aa<|aU rfl<|am<|Rr<|?_
   repeat (first|refine cO ?_|refine bU ?_|refine cQ rfl ?_|refine bk ?_|refine bj ?_)
   exact cM rfl (fun w hw=>⟨⟨_,rfl⟩,.inr ⟨_,bx (hJx _) hw.rid⟩⟩)
 ·obtain rfl:k=63:=by simp at hc;omega
  refine ba ?_
  repeat (first|refine cO ?_|refine bU ?_|refine cQ rfl ?_|refine bk ?_|refine bj ?_)
  refine ci rfl (fun w hw=>⟨⟨_,rfl⟩,.inl ?_⟩)
  have:=bx (hJ _) hw.rid
  rw[mg]
  exact this
end
section
open Go.RowKit
attribute [local simp] aT a9 aR aM aC bd aJ aI aA PLl cq cn N1l ck cp cm a5 bc aP aX a8 J1.bf J2.bf Q6.ez
def pwD(x:W12)(k:Nat):W12:=K12.pw x (bQ (D63.take k) 1)
theorem pC{k:Nat}(h:k<63):D63.take (k+1)=D63.take k++[DGb k]:=by rw[List.take_add_one,zj h];rfl
theorem Kw(x:W12){k:Nat}(h:k<63)(hd:DGb k=true):K12.mul (K12.mul (pwD x k) (pwD x k)) x=pwD x (k+1):=by
 rw[pwD,pwD,pC h,iD,hd,←K12.pw_add,←Nat.two_mul];rfl
theorem JM(x:W12){k:Nat}(h:k<63)(hd:DGb k=false):K12.mul (pwD x k) (pwD x k)=pwD x (k+1):=by
 rw[pwD,pwD,pC h,iD,hd,←K12.pw_add,←Nat.two_mul];rfl
theorem JN:D63=L63:=by decide+kernel
theorem O2(x:W12):pwD x 63=K12.pw x UG:=by rw[pwD,List.take_of_length_le (by rw[lM];exact Nat.le_refl _),JN,u0]
namespace Q6
theorem sW(k:Nat)(hk:k≤63):0<bQ (D63.take k) 1∧bQ (D63.take k) 1<2^(k+1):=by
 refine ⟨mr _ _ Nat.one_pos, ?_⟩
 have h:=ph (D63.take k) 1
 rw[List.length_take,lM,Nat.min_eq_left hk]at h
 rw[Nat.pow_succ]
 omega
theorem Mm{k:Nat}(hk:k<63):2*bQ (D63.take k) 1+1<ORD:=by
 have h:=(sW k om).2
 have h2:2^(k+1)≤2^63:=Nat.pow_le_pow_right om om
 have h3:2*2^63+1<ORD:=by decide+kernel
 omega
end Q6
end
section
open Go.RowKit
attribute [local simp] aT a9 aR aM aC bd aJ aI aA PLl cq cn N1l ck cp cm a5 bc aP aX a8 J1.bf J2.bf Q6.ez
namespace Q6
def PRv(a:J1.GP×J2.GP):L6:=J1.GL a.1++J2.GL a.2
theorem fv(a:J1.GP×J2.GP):(PRv a).length=54:=by simp[PRv]
attribute [local simp] fv
theorem zv182(w:World):(zeroValue 182).run prog w=.ok (aQ (List.replicate 54 (0#64))) w:=(zeroValue182 w).trans rr
def WSf(f:Nat→J1.GP×J2.GP):Nat→List WK
 |0=>[]
 |i+1=>if (f i).1.P=none then WSf f i else if (f i).2.P=none then WSf f i else WSf f i++[wkB (J1.PX (f i).1.P,J1.PY (f i).1.P) (J2.PX (f i).2.P,J2.PY (f i).2.P)]
theorem tT{f:Nat→J1.GP×J2.GP}{i:Nat}(h:(f i).1.P=none):WSf f (i+1)=WSf f i:=if_pos h
theorem tF{f:Nat→J1.GP×J2.GP}{i:Nat}(h: ¬(f i).1.P=none)(k:(f i).2.P=none):WSf f (i+1)=WSf f i:=(if_neg h).trans (if_pos k)
theorem BC{f:Nat→J1.GP×J2.GP}{i:Nat}(h: ¬(f i).1.P=none)(k: ¬(f i).2.P=none):WSf f (i+1)=WSf f i++[wkB (J1.PX (f i).1.P,J1.PY (f i).1.P) (J2.PX (f i).2.P,J2.PY (f i).2.P)]:=(if_neg h).trans (if_neg k)
theorem sJ(f:Nat→J1.GP×J2.GP): ∀i,(WSf f i).length≤i
 |0=>Nat.le_refl _
 |i+1=>by
  have h:=sJ f i
  rw[WSf]
  split
  ·omega
  ·split
   ·omega
   ·rw[List.length_append];simp;omega
def wcl(l:List WK):List Value:=clv (l.flatMap jo)
theorem oG(w:WK):(jo w).length=12:=rfl
theorem nP(l m:List WK):wcl (l++m)=wcl l++wcl m:=by rw[wcl,List.flatMap_append,gX];rfl
theorem ol(w:WK)(l:List WK):wcl (w::l)=clv (jo w)++wcl l:=by rw[wcl,List.flatMap_cons,gX];rfl
theorem xI(w:WK):wcl [w]=clv (jo w):=by rw[ol];exact List.append_nil _
theorem r4: ∀l:List WK,(wcl l).length=72*l.length
 |[]=>rfl
 |w::l=>by rw[ol,List.length_append,r4 l,cz,oG,List.length_cons];omega
theorem OwnW.of{L L':Hl}{n:Nat}{e:TypeId}{s:Nat}{a0:Option Addr}{cap nx:Nat}{xs:List Value}(h:OwnW L n e s a0 cap nx xs)(he:lkB L' n=lkB L n):OwnW L' n e s a0 cap nx xs:=by
 rcases h with h|⟨b,c,h1,h2,h3⟩
 ·exact .inl h
 ·exact .inr ⟨b,c,h1,he.trans h2,h3⟩
theorem OE(a b:Zp)(c d e f g:W2)(w:World):(Instr.build 264 (([0,1,2,3,4,5,6]).zip [EV a,EV b,EV2 c,EV2 d,EV2 e,EV2 f,EV2 g]).toArray).run prog w=.ok (.agg (clv [a,b,c.1,c.2,d.1,d.2,e.1,e.2,f.1,f.2,g.1,g.2]).toArray) w:=by
 obtain ⟨fields,hf,hm,_⟩:=TB.hfs 264 [(0,1),(1,1),(2,2),(4,2),(6,2),(8,2),(10,2)] kr
 exact fJ (TB.hsz 264 12 kr).2.2 hf hm _ (pt (ps:=[(0,[a]),(1,[b]),(2,[c.1,c.2]),(3,[d.1,d.2]),(4,[e.1,e.2]),(5,[f.1,f.2]),(6,[g.1,g.2])]) (c:=List.replicate 12 0) rr) w
theorem tiW:TI prog 264 (.agg (clv (List.replicate 12 0)).toArray) 72 576:=yO (by rw[clv,ox];kernel_rfl)
theorem EJ{own L:Hl}(ho:own=[]∨∃x,own=[(50,x)])(h:lkB L 50=lkB own 50):jl L own:=by
 rcases ho with rfl|⟨x,rfl⟩
 ·exact trivial
 ·exact ⟨h,trivial⟩
structure BgV(f:Nat→J1.GP×J2.GP)(n:Nat) where
 (k:Nat) (a0:Option Addr) (cap:Nat) (own:Hl)
 hk:k≤n
 hs:OwnW own 50 264 72 a0 cap (WSf f k).length (wcl (WSf f k))
 ho:own=[]∨∃x,own=[(50,x)]
 hz:WSf f k=[]→a0=none
theorem Jo{w:World}(h:Gt w):8≤w.heap.size:=block_lt_of_cell (h.g7 0 _ rr)
theorem GS(n:Nat)(f:Nat→J1.GP×J2.GP)(b cap:Nat)(hn:n≤1000)(w:World)(hw:Gt w)(h:w.rangeAt b 0 ((RW 54 (fun i=>PRv (f i)) n).map U64)):
 CLS 213 [.slice (spt b) n cap].toArray w (fun e w'=>(∃bW cW capW,e=.returned (.slice (spt bW) (WSf f n).length capW)∧Grow w w'∧w.heap.size≤bW∧OwnB w' bW cW 264∧cW.take (wcl (WSf f n)).length=wcl (WSf f n)∧WSf f n≠[])∨(WSf f n=[]∧e=.returned (.slice none 0 0)∧Grow w w')):=by
 have hGF:BOk Gt (pl w):=gt_low.plain hw
 have fin: ∀{L:Hl} {a0:Option Addr} {cap:Nat} {w':World},OwnW L 50 264 72 a0 cap (WSf f n).length (wcl (WSf f n))→(WSf f n=[]→a0=none)→Hp (pl w) L w'→(∃bW cW capW,Ending.returned (.slice a0 (WSf f n).length cap)=.returned (.slice (spt bW) (WSf f n).length capW)∧Grow w w'∧w.heap.size≤bW∧OwnB w' bW cW 264∧cW.take (wcl (WSf f n)).length=wcl (WSf f n)∧WSf f n≠[])∨(WSf f n=[]∧Ending.returned (.slice a0 (WSf f n).length cap)=.returned (.slice none 0 0)∧Grow w w'):=fun {L a0 cap w'} h hz hp=>by
  rcases h with ⟨rfl,_,h3,rfl⟩|⟨b,c,rfl,hl,hc,hle,hx,ht⟩
  ·exact .inr ⟨List.length_eq_zero_iff.1 h3,by rw[h3],ac hp⟩
  ·exact .inl ⟨b,c,cap,rfl,ac hp,(hp.own _ _ _ _ hl).2.elim id False.elim,(hp.own _ _ _ _ hl).1,ht,fun e=>by cases hz e⟩
 refine Hd func213 rfl hGF<|Xp<|Asg rfl<|aa<|iR<|Xp<|Asg rfl<|aa<|ah<|kf<|ah<|Xp<|Mv rfl<|bv rfl (fun _=>aL underlying183 _ _ _ _) rfl rfl<|Mv rfl<|aa<|aj<|cH (ι:=BgV f n) (fun x=>[(11,.slice (spt b) n cap),(12,I (n:Int)),(13,I (x.k:Int)),(3,.slice x.a0 (WSf f x.k).length x.cap)]) (fun x=>x.own) (fun x=>n-x.k) ⟨0,none,0,[],om,Ef _ _ _ _,.inl rfl,fun _=>rfl⟩ hGF trv trivial<|?_
 rintro ⟨i,a0,cap0,own,hi,hs,ho,hz⟩
 dsimp only at hs ho hz⊢
 have hwl:=sJ f i
 by_cases hP:(f i).1.P=none
 ·refine Xp<|Bnr rfl rfl (fun _=>aD _ _ _)<|aa<|ah<|?_
  refine bV rfl (fun hc=> ?_) (fun hc=> ?_)
  ·have hi2:i<n:=by simp at hc;omega
   refine ap<|ah<|aj<|Xp<|iX (s:=54) i rfl rfl underlying183 sizeOf182 om om rfl rfl<|df (cs:=(PRv (f i)).map U64) rfl isAgg182 sizeOf182 sm (fun w' h'=>iL (eX h (fun h=>h) w' h') om (fv _)) rfl rfl<|Al 5 hGF zv182<|fun b5=>Sa 5 hGF rfl rfl rfl Gv<|aa<|Xp<|Fa 0 rfl underlying182 rfl sizeOf54<|ao 5 ((J1.GL (f i).1).map U64) rfl rfl isAgg54 sizeOf54 sm dB rfl rfl<|Ca rfl (J1.FR _ hP)<|Mv rfl<|Ext rfl rfl<|Ext rfl rfl<|Ext rfl rfl<|Al 6 hGF zv52<|fun b6=>Al 7 hGF zv52<|fun b7=>Sa 6 hGF rfl rfl rfl bg<|Sa 7 hGF rfl rfl rfl bg<|Asg rfl<|aa<|ah<|Xp<|Mv rfl<|aY rfl (fun _=>aK _) rfl rfl<|aa<|aU rfl<|ba<|Xq<|Bnr rfl rfl (fun _=>az _ _ _ oi)<|Mv rfl<|aa<|?_
   repeat (first|refine a7 ?_|refine bU ?_)
   exact aV<|⟨rfl,⟨i+1,a0,cap0,own,om,by rw[tT hP];exact hs,ho,by rw[tT hP];exact hz⟩,_,by show n-(i+1)<n-i;omega,rfl,⟨rfl,rfl,rfl,by dsimp only;rw[tT hP];rfl,trivial⟩,EJ ho rfl⟩
  ·obtain rfl:i=n:=by simp at hc;omega
   refine ba<|Xp<|Mv rfl<|Asg rfl<|aa<|am<|?_
   repeat (first|refine bk ?_|refine bj ?_|refine eM ?_)
   exact aH rfl rfl (fun w' hw'=>fin hs hz hw')
 ·by_cases hQ:(f i).2.P=none
  ·refine Xp<|Bnr rfl rfl (fun _=>aD _ _ _)<|aa<|ah<|?_
   refine bV rfl (fun hc=> ?_) (fun hc=> ?_)
   ·have hi2:i<n:=by simp at hc;omega
    refine ap<|ah<|aj<|Xp<|iX (s:=54) i rfl rfl underlying183 sizeOf182 om om rfl rfl<|df (cs:=(PRv (f i)).map U64) rfl isAgg182 sizeOf182 sm (fun w' h'=>iL (eX h (fun h=>h) w' h') om (fv _)) rfl rfl<|Al 5 hGF zv182<|fun b5=>Sa 5 hGF rfl rfl rfl Gv<|aa<|Xp<|Fa 0 rfl underlying182 rfl sizeOf54<|ao 5 ((J1.GL (f i).1).map U64) rfl rfl isAgg54 sizeOf54 sm dB rfl rfl<|Ca rfl (J1.tu _ hP)<|Mv rfl<|Ext rfl rfl<|Ext rfl rfl<|Ext rfl rfl<|Al 6 hGF zv52<|fun b6=>Al 7 hGF zv52<|fun b7=>Sa 6 hGF rfl rfl rfl bg<|Sa 7 hGF rfl rfl rfl bg<|Asg rfl<|aa<|ah<|Xp<|Mv rfl<|aY rfl (fun _=>aK _) rfl rfl<|aa<|av rfl<|ap<|Xp<|Fa 18 rfl underlying182 rfl sizeOf94<|ao 5 ((J2.GL (f i).2).map U64) rfl rfl isAgg94 sizeOf94 sm (ii sm) rfl rfl<|Ca rfl (J2.FR _ hQ)<|Mv rfl<|Ext rfl rfl<|Ext rfl rfl<|Ext rfl rfl<|Al 9 hGF zv92<|fun b9=>Al 10 hGF zv92<|?_
    intro b10
    refine Sa 9 hGF rfl rfl rfl aF<|Sa 10 hGF rfl rfl rfl aF<|Asg rfl<|aa<|ah<|Xp<|Mv rfl<|aY rfl (fun _=>aK _) rfl rfl<|aa<|aU rfl<|ba<|Xq<|Bnr rfl rfl (fun _=>az _ _ _ oi)<|Mv rfl<|aa<|?_
    repeat (first|refine a7 ?_|refine bU ?_)
    exact aV<|⟨rfl,⟨i+1,a0,cap0,own,om,by rw[tF hP hQ];exact hs,ho,by rw[tF hP hQ];exact hz⟩,_,by show n-(i+1)<n-i;omega,rfl,⟨rfl,rfl,rfl,by dsimp only;rw[tF hP hQ];rfl,trivial⟩,EJ ho rfl⟩
   ·obtain rfl:i=n:=by simp at hc;omega
    refine ba<|Xp<|Mv rfl<|Asg rfl<|aa<|am<|?_
    repeat (first|refine bk ?_|refine bj ?_|refine eM ?_)
    exact aH rfl rfl (fun w' hw'=>fin hs hz hw')
  ·refine Xp<|Bnr rfl rfl (fun _=>aD _ _ _)<|aa<|ah<|?_
   refine bV rfl (fun hc=> ?_) (fun hc=> ?_)
   ·have hi2:i<n:=by simp at hc;omega
    refine ap<|ah<|aj<|Xp<|iX (s:=54) i rfl rfl underlying183 sizeOf182 om om rfl rfl<|df (cs:=(PRv (f i)).map U64) rfl isAgg182 sizeOf182 sm (fun w' h'=>iL (eX h (fun h=>h) w' h') om (fv _)) rfl rfl<|Al 5 hGF zv182<|fun b5=>Sa 5 hGF rfl rfl rfl Gv<|aa<|Xp<|Fa 0 rfl underlying182 rfl sizeOf54<|ao 5 ((J1.GL (f i).1).map U64) rfl rfl isAgg54 sizeOf54 sm dB rfl rfl<|Ca rfl (J1.tu _ hP)<|Mv rfl<|Ext rfl rfl<|Ext rfl rfl<|Ext rfl rfl<|Al 6 hGF zv52<|fun b6=>Al 7 hGF zv52<|fun b7=>Sa 6 hGF rfl rfl rfl bg<|Sa 7 hGF rfl rfl rfl bg<|Asg rfl<|aa<|ah<|Xp<|Mv rfl<|aY rfl (fun _=>aK _) rfl rfl<|aa<|av rfl<|ap<|Xp<|Fa 18 rfl underlying182 rfl sizeOf94<|ao 5 ((J2.GL (f i).2).map U64) rfl rfl isAgg94 sizeOf94 sm (ii sm) rfl rfl<|Ca rfl (J2.tu _ hQ)<|Mv rfl<|Ext rfl rfl<|Ext rfl rfl<|Ext rfl rfl<|Al 9 hGF zv92<|fun b9=>Al 10 hGF zv92<|?_
    intro b10
    refine Sa 9 hGF rfl rfl rfl aF<|Sa 10 hGF rfl rfl rfl aF<|Asg rfl<|aa<|ah<|Xp<|Mv rfl<|aY rfl (fun _=>aK _) rfl rfl<|aa<|av rfl<|ap<|Xe []<|Mv rfl<|La 6 rfl rfl bg<|La 7 rfl rfl bg<|La 9 rfl rfl aF<|La 10 rfl rfl aF<|La 9 rfl rfl aF<|La 10 rfl rfl aF<|Ca rfl (qY)<|dq (ps:=[(0,.tmp 36),(1,.tmp 37),(2,.tmp 38),(3,.tmp 39),(4,.tmp 40),(5,.tmp 41),(6,.tmp 42)]) (vs:=[EV (J1.PX (f i).1.P),EV (J1.PY (f i).1.P),EV2 (J2.PX (f i).2.P),EV2 (J2.PY (f i).2.P),EV2 (J2.PX (f i).2.P),EV2 (J2.PY (f i).2.P),EV2 on2]) rfl (v:=.agg (clv (jo (wkB (J1.PX (f i).1.P,J1.PY (f i).1.P) (J2.PX (f i).2.P,J2.PY (f i).2.P)))).toArray) (fun w=>OE _ _ _ _ _ _ _ w) rfl rfl<|FP 44 (clv (jo (wkB (J1.PX (f i).1.P,J1.PY (f i).1.P) (J2.PX (f i).2.P,J2.PY (f i).2.P)))) hGF rfl (by rw[cz,oG]) dc dc underlying256 sizeOf264 (TB.hsz 264 12 kr).2.2 rfl rfl<|?_
    intro b44
    refine vM (s:=72) (nx:=(WSf f i).length) (ny:=1) (xs:=wcl (WSf f i)) (ys:=clv (jo (wkB (J1.PX (f i).1.P,J1.PY (f i).1.P) (J2.PX (f i).2.P,J2.PY (f i).2.P)))) 50 hGF rfl rfl underlying256 underlying256 tiW rfl (OwnW.of hs rfl) (by rw[cz,oG]) (fun w' h=>aO (n:=44) rfl w' h) (yA _) dc om om rfl rfl (fun bA cA capA eA lA tA=> ?_)
    refine Asg rfl<|aa<|Xq<|Bnr rfl rfl (fun _=>az _ _ _ oi)<|Mv rfl<|aa<|?_
    repeat (first|refine a7 ?_|refine bU ?_)
    refine aV ?_
    have eW:=BC hP hQ
    have eL:(WSf f (i+1)).length=(WSf f i).length+1:=by rw[eW,List.length_append];rfl
    have eC:wcl (WSf f (i+1))=wcl (WSf f i)++clv (jo (wkB (J1.PX (f i).1.P,J1.PY (f i).1.P) (J2.PX (f i).2.P,J2.PY (f i).2.P))):=by rw[eW,nP,xI]
    exact ⟨rfl,⟨i+1,some ⟨bA,0,none⟩,capA,[(50,bA,cA,264)],om,.inr ⟨bA,cA,rfl,rfl,eA,om,by rw[r4,Nat.mul_comm],by rw[eC];exact tA⟩,.inr ⟨_,rfl⟩,fun e=>by rw[e]at eL;cases eL⟩,_,by show n-(i+1)<n-i;omega,rfl,⟨rfl,rfl,rfl,by dsimp only;rw[eL];rfl,trivial⟩,trv⟩
   ·obtain rfl:i=n:=by simp at hc;omega
    refine ba<|Xp<|Mv rfl<|Asg rfl<|aa<|am<|?_
    repeat (first|refine bk ?_|refine bj ?_|refine eM ?_)
    exact aH rfl rfl (fun w' hw'=>fin hs hz hw')
end Q6
end
section
open Go.RowKit
attribute [local simp] aT a9 aR aM aC bd aJ aI aA PLl cq cn N1l ck cp cm a5 bc aP aX a8 J1.bf J2.bf Q6.ez
namespace Q6
abbrev mA(x:W12):List Value:=(((fe ((x).1.1).1++fe ((x).1.1).2)++((fe ((x).1.2.1).1++fe ((x).1.2.1).2)++(fe ((x).1.2.2).1++fe ((x).1.2.2).2)))++((fe ((x).2.1).1++fe ((x).2.1).2)++((fe ((x).2.2.1).1++fe ((x).2.2.1).2)++(fe ((x).2.2.2).1++fe ((x).2.2.2).2)))).map U64
theorem lw(x:W12):(mA x).length=72:=sm
def mkC(fs:List Nat)(o:Oper):Bool:=match o.op with
 | .call {callee:=.value (.func f), .. }=>fs.any (Nat.beq f)
 |_=>false
def SK(W:List WK)(k:Nat):List WK×W12:=rdK (D63.take k) (W,K12.one)
theorem T4(W:List WK){k:Nat}(h:k<63):SK W (k+1)=rdF (DGb k) (SK W k):=by rw[SK,pC h,xo];rfl
theorem wv(W:List WK){k:Nat}(h:k<63)(hd:DGb k=false):SK W (k+1)=((SK W k).1.map wDb,eN rDb (SK W k).1 (K12.mul (SK W k).2 (SK W k).2)):=by rw[T4 W h,hd];rfl
theorem wL(W:List WK){k:Nat}(h:k<63)(hd:DGb k=true):SK W (k+1)=(((SK W k).1.map wDb).map wJn,eN rJn ((SK W k).1.map wDb) (eN rDb (SK W k).1 (K12.mul (SK W k).2 (SK W k).2))):=by rw[T4 W h,hd];rfl
theorem jV(W:List WK): ∀k,k≤63→(SK W k).1.length=W.length
 |0,_=>rfl
 |k+1,h=>by
  have ih:=jV W k om
  cases d:DGb k with
  |false=>rw[wv W om d,List.length_map];exact ih
  |true=>rw[wL W om d,List.length_map,List.length_map];exact ih
theorem mp(g:WK→W6): ∀(l:List WK) (w:WK) (f:W12),eN g (l++[w]) f=K12.mul (lel (g w)) (eN g l f)
 |[],_,_=>rfl
 |v::l,w,f=>mp g l w (K12.mul (lel (g v)) f)
theorem vG{l:List WK}{j:Nat}{w:WK}(h:l[j]? =some w):l.take (j+1)=l.take j++[w]:=by rw[List.take_add_one,h];rfl
theorem QP{l:List WK}{j:Nat}{w:WK}(h:l[j]? =some w):l.drop j=w::l.drop (j+1):=by
 have hj:=(List.getElem?_eq_some_iff.1 h).1
 rw[List.drop_eq_getElem_cons hj]
 exact congrArg (·::_) (List.getElem?_eq_some_iff.1 h).2
def upW(g:WK→WK)(l:List WK)(j:Nat):List WK:=(l.take j).map g++l.drop j
theorem Tz{g:WK→WK}{l:List WK}{j:Nat}{w:WK}(h:l[j]? =some w)(post:List Value):wcl (upW g l j)++post=wcl ((l.take j).map g)++(clv (jo w)++(wcl (l.drop (j+1))++post)):=by
 rw[upW,QP h,nP,ol]
 simp only[List.append_assoc]
theorem VG{g:WK→WK}{l:List WK}{j:Nat}{w:WK}(h:l[j]? =some w)(post:List Value):wcl (upW g l (j+1))++post=wcl ((l.take j).map g)++(clv (jo (g w))++(wcl (l.drop (j+1))++post)):=by
 rw[upW,vG h,List.map_append,nP,nP,show [w].map g=[g w]from rfl,xI]
 simp only[List.append_assoc]
theorem Us{g:WK→WK}{l:List WK}{j:Nat}{w:WK}(h:l[j]? =some w):(wcl ((l.take j).map g)).length=0+72*j:=by
 have hj:=(List.getElem?_eq_some_iff.1 h).1
 rw[r4,List.length_map,List.length_take,Nat.min_eq_left om,Nat.zero_add]
theorem Uh(g:WK→WK)(l:List WK):upW g l 0=l:=rfl
theorem KI(g:WK→WK){l:List WK}{j:Nat}(h:l.length=j):upW g l j=l.map g:=by
 rw[upW,List.take_of_length_le om,List.drop_eq_nil_of_le om,List.append_nil]
theorem VM{f:FuncId}{g:WK→WK}{u:WK→W6}{l:List WK}{j:Nat}{w:WK}(h:l[j]? =some w){b:Nat}{post:List Value}{W:World}(ho:OwnB W b (wcl (upW g l j)++post) 264)
 (hc: ∀{pre post:List Value},OwnB W b (pre++(clv (jo w)++post)) 264→CLS f [.pointer (some ⟨b,pre.length,none⟩)].toArray W (fun e W'=>e=.returned (EV6 (u w))∧Mod b W W'∧OwnB W' b (pre++(clv (jo (g w))++post)) 264)):
 CLS f [.pointer (some ⟨b,0+72*j,none⟩)].toArray W (fun e W'=>e=.returned (EV6 (u w))∧Mod b W W'∧OwnB W' b (wcl (upW g l (j+1))++post) 264):=by
 rw[Tz h]at ho
 have k:=hc ho
 rw[Us h]at k
 rw[VG h]
 exact k
theorem MW{l:List WK}{j:Nat}{w:WK}(h:l[j]? =some w){b:Nat}{post:List Value}{W:World}(hw:Gt W)(hb:8≤b)(ho:OwnB W b (wcl (upW wDb l j)++post) 264):CLS 216 [.pointer (some ⟨b,0+72*j,none⟩)].toArray W (fun e W'=>e=.returned (EV6 (rDb w))∧Mod b W W'∧OwnB W' b (wcl (upW wDb l (j+1))++post) 264):=VM h ho (fun {_ _} k=>mdbl w hw hb k)
theorem VO{l:List WK}{j:Nat}{w:WK}(h:l[j]? =some w){b:Nat}{post:List Value}{W:World}(hz: ¬w.2.2.2.2=ze2)(hw:Gt W)(hb:8≤b)(ho:OwnB W b (wcl (upW wJn l j)++post) 264):CLS 218 [.pointer (some ⟨b,0+72*j,none⟩)].toArray W (fun e W'=>e=.returned (EV6 (rJn w))∧Mod b W W'∧OwnB W' b (wcl (upW wJn l (j+1))++post) 264):=VM h ho (fun {_ _} k=>mjn w hz hw hb k)
theorem PM(W:List WK)(n b cap:Nat)(cs:List Value)(hWl:W.length≤1000)(hZ: ∀k,k<63→DGb k=true→∀w∈(SK W k).1.map wDb,¬w.2.2.2.2=ze2)(hB: ∀w',Gt w'→w'.rangeAt b 0 cs→CLS 213 [.slice (spt b) n cap].toArray w' (fun r w''=> ∃bW post capW,r=.returned (.slice (spt bW) W.length capW)∧Grow w' w''∧w'.heap.size≤bW∧OwnB w'' bW (wcl W++post) 264))(w:World)(hw:Gt w)(h:w.rangeAt b 0 cs):
 CLS 178 [.slice (spt b) n cap].toArray w (fun r w'=>r=.returned (ch (bZ (SK W 63).2))∧Grow w w'):=by
 have hGF:BOk Gt (pl w):=gt_low.plain hw
 refine ca (G:=Gt) func178 rfl rfl (Hp (pl w) []) (bN (pl w) trivial ak) (aq hGF)<|ae (E:=EE [213,216,218])<|Al 2 hGF zv233<|fun b2=>aa<|iR<|ae (E:=EE [213,216,218])<|Mv rfl<|?_
 refine cU rfl rfl ent213 rfl rfl (fun w' hw'=>(hB w' (hGF.g _ _ _ hw') (eX h (fun h=>h) w' hw')).mono fun e' w'' h'=> ?_)
 obtain ⟨bW,post,capW,rfl,hg,hbD,hoD⟩:=h'
 have hb3:8≤bW:=Nat.le_trans (Jo (hGF.g _ _ _ hw')) hbD
 refine ⟨_,_,rfl,aq hGF,hw'.news ak hg [(50,bW,wcl W++post,264)] ?_ bG, ?_⟩
 ·intro n' b' c' t' hl
  rcases aB hl with ⟨_,e⟩|⟨_,hl⟩
  ·cases e;exact ⟨hbD,hoD⟩
  ·cases hl
 clear hw' hg hbD hoD
 refine fb 3 hGF zeroValue256 rfl rfl<|fun b3=>cT 3 hGF rfl rfl rfl sizeOf256 rfl (by first|decide|simp) rfl<|aa<|ae (E:=EE [213,216,218])<|Ca rfl (qf)<|Al 4 hGF zv233<|fun b4=>Sa 4 hGF rfl rfl rfl eE<|aa<|ah<|kf<|ah<|ae (E:=EE [213,216,218])<|Ca rfl (va)<|aa<|aj<|?_
 refine dS (fun _=>pl w) (fun _ _=>pl w) (fun _=>hGF) (fun _ _=>hGF) (fun _=>rfl) (fun _ _=>rfl) rfl rfl ent240 po (fun x hx=>by obtain ⟨k,hk,rfl⟩:=List.mem_map.1 hx;rfl) rfl (fun k=>[(2,b2,(((fe 0++fe 0)++((fe 0++fe 0)++(fe 0++fe 0)))++((fe 0++fe 0)++((fe 0++fe 0)++(fe 0++fe 0)))).map U64,233),(3,b3,[.slice (spt bW) W.length capW],256),(4,b4,mA ((SK W k).2),233),(50,bW,wcl ((SK W k).1)++post,264)]) (fun _ _ _=>False) trv (fun _ _ _ _=>trivial) ?_ ?_ (fun _ _ _ _ _ h=>h.elim)
 ·intro k v hx R hR
  obtain ⟨hk,rfl⟩:=wt hx
  refine bz (E:=EE [213,216,218])<|Asg rfl<|aa<|?_
  refine ⟨rfl,_,rfl, ?_⟩
  refine aj<|ae (E:=EE [213,216,218])<|La 4 rfl rfl eE<|Ca rfl (iN _)<|aw 4 (hR (pl w) rfl hGF).2.1 rfl rfl rfl sizeOf233 sm sm (bq _) rfl<|aa<|ah<|ae (E:=EE [213,216,218])<|cu 3 rfl rfl rfl isAgg256 rfl rfl<|bv rfl (fun _=>aL underlying256 _ _ _ _) rfl rfl<|Mv rfl<|aa<|aj<|?_
  obtain ⟨F0,hF0⟩: ∃F0,F0=K12.mul (SK W k).2 (SK W k).2:=⟨_,rfl⟩
  refine cH (ι:={j:Nat // j≤W.length}) (fun y=>[(2,pnt b2),(3,pnt b3),(4,pnt b4),(5,.bool (DGb k)),(16,I ((W.length:Nat):Int)),(17,I (y.1:Int))]) (fun y=>[(2,b2,(((fe 0++fe 0)++((fe 0++fe 0)++(fe 0++fe 0)))++((fe 0++fe 0)++((fe 0++fe 0)++(fe 0++fe 0)))).map U64,233),(3,b3,[.slice (spt bW) W.length capW],256),(4,b4,mA (eN rDb ((SK W k).1.take y.1) F0),233),(50,bW,wcl (upW wDb (SK W k).1 y.1)++post,264)]) (fun y=>W.length-y.1) ⟨0,Nat.zero_le _⟩ (hR (pl w) rfl hGF).2.1 trv ⟨rfl,rfl,by rw[hF0];rfl,rfl,trivial⟩ ?_
  rintro ⟨j,hj⟩
  dsimp only
  refine ae (E:=EE [213,216,218])<|Bnr rfl rfl (fun _=>aD _ _ _)<|aa<|ah<|?_
  refine bV rfl (fun hc=> ?_) (fun hc=> ?_)
  ·have hj2:j<W.length:=by simp at hc;omega
   obtain ⟨wj,hwj⟩: ∃wj,(SK W k).1[j]? =some wj:=⟨_,List.getElem?_eq_getElem (by rw[jV W k om];exact hj2)⟩
   refine ap<|ah<|aj<|ae (E:=EE [213,216,218])<|Mv rfl<|Asg rfl<|aa<|nS (E:=EE [213,216,218]) (fun X=>X=Hp (R.b (pl w)) [(4,b4,mA (eN rDb ((SK W k).1.take j) F0),233)]) (mkC [216]) (rkB [24]) [0,1,2,4,3,5,6] dR rfl kr kr kr<|iw rfl rfl<|cu 3 rfl rfl rfl isAgg256 rfl rfl<|aa<|iw rfl rfl<|Mv rfl<|aa<|iw rfl rfl<|iX (s:=72) j rfl rfl underlying256 sizeOf264 om om rfl rfl<|aa<|pN (X:=Hp (R.b (pl w)) [(4,b4,mA (eN rDb ((SK W k).1.take j) F0),233)]) rfl (dO (hR (pl w) rfl hGF).2.1.r trv) (fun _=>rfl)<|bT 4 rfl rfl isAgg233 sizeOf233 (lw _) rfl rfl<|aa<|lC rfl<|?_
   refine cU rfl rfl ent216 rfl rfl (fun w' hw'=>(MW hwj ((hR (pl w) rfl hGF).2.1.g _ _ _ hw') hb3 (hw'.own 50 _ _ _ rfl).1).mono fun e' w'' h'=> ?_)
   obtain ⟨rfl,hm,ho⟩:=h'
   refine ⟨_,_,rfl,aq (hR (pl w) rfl hGF).2.1,hw'.mod (hR (pl w) rfl hGF).2.1.r (n:=50) rfl hm ho, ?_⟩
   clear hw' hm ho
   refine aa ?_
   refine ⟨fun _ X hX _=>by subst hX;exact dO (hR (pl w) rfl hGF).2.1.r trv, ?_⟩
   refine iw rfl rfl<|Ca rfl (vF (rDb wj) (eN rDb ((SK W k).1.take j) F0))<|aa<|lC rfl<|aw 4 (hR (pl w) rfl hGF).2.1 rfl rfl rfl sizeOf233 sm (lw _) (bq _) rfl<|aa<|?_
   refine ⟨fun h=>Bool.noConfusion h, ?_⟩
   refine kv<|bz (E:=EE [213,216,218])<|Bnr rfl rfl (fun _=>az _ _ _ oi)<|Mv rfl<|aa<|?_
   repeat (refine a7 ?_)
   refine aV ?_
   have eF:K12.mul (lel (rDb wj)) (eN rDb ((SK W k).1.take j) F0)=eN rDb ((SK W k).1.take (j+1)) F0:=by rw[vG hwj,mp]
   exact ⟨rfl,⟨j+1,om⟩,_,by show W.length-(j+1)<W.length-j;omega,rfl,trv,⟨rfl,rfl,by rw[←eF];rfl,rfl,trivial⟩⟩
  ·obtain rfl:j=W.length:=by simp at hc;omega
   refine ba ?_
   rw[KI wDb (by rw[jV W k om]),List.take_of_length_le (Nat.le_of_eq (by rw[jV W k om])),hF0]
   clear hF0
   refine ah<|ae (E:=EE [213,216,218])<|Mv rfl<|aY rfl (fun _=>aK _) rfl rfl<|aa<|?_
   refine bV rfl (fun hc=> ?_) (fun hc=> ?_)
   ·have hd:DGb k=false:=by simpa using hc
    refine ba ?_
    repeat (first|refine a7 ?_|refine bU ?_)
    exact ⟨_,rfl,⟨rfl,rfl,by first|(rw[wv W hk hd];rfl)|(rw[wL W hk hd];rfl),by first|(rw[wv W hk hd];rfl)|(rw[wL W hk hd];rfl),trivial⟩⟩
   ·have hd:DGb k=true:=by simpa using hc
    refine ap<|ae (E:=EE [213,216,218])<|cu 3 rfl rfl rfl isAgg256 rfl rfl<|bv rfl (fun _=>aL underlying256 _ _ _ _) rfl rfl<|Mv rfl<|aa<|aj<|?_
    obtain ⟨F0,hF0⟩: ∃F0,F0=eN rDb (SK W k).1 (K12.mul (SK W k).2 (SK W k).2):=⟨_,rfl⟩
    refine cH (ι:={j:Nat // j≤W.length}) (fun y=>[(2,pnt b2),(3,pnt b3),(4,pnt b4),(5,.bool (DGb k)),(30,I ((W.length:Nat):Int)),(31,I (y.1:Int))]) (fun y=>[(2,b2,(((fe 0++fe 0)++((fe 0++fe 0)++(fe 0++fe 0)))++((fe 0++fe 0)++((fe 0++fe 0)++(fe 0++fe 0)))).map U64,233),(3,b3,[.slice (spt bW) W.length capW],256),(4,b4,mA (eN rJn (((SK W k).1.map wDb).take y.1) F0),233),(50,bW,wcl (upW wJn ((SK W k).1.map wDb) y.1)++post,264)]) (fun y=>W.length-y.1) ⟨0,Nat.zero_le _⟩ (hR (pl w) rfl hGF).2.1 trv ⟨rfl,rfl,by rw[hF0];rfl,by rw[Uh];rfl,trivial⟩ ?_
    rintro ⟨j,hj⟩
    dsimp only
    refine ae (E:=EE [213,216,218])<|Bnr rfl rfl (fun _=>aD _ _ _)<|aa<|ah<|?_
    refine bV rfl (fun hc=> ?_) (fun hc=> ?_)
    ·have hj2:j<W.length:=by simp at hc;omega
     obtain ⟨wj,hwj⟩: ∃wj,((SK W k).1.map wDb)[j]? =some wj:=⟨_,List.getElem?_eq_getElem (by rw[List.length_map,jV W k om];exact hj2)⟩
     refine ap<|ah<|aj<|ae (E:=EE [213,216,218])<|Mv rfl<|Asg rfl<|aa<|nS (E:=EE [213,216,218]) (fun X=>X=Hp (R.b (pl w)) [(4,b4,mA (eN rJn (((SK W k).1.map wDb).take j) F0),233)]) (mkC [218]) (rkB [38]) [0,1,2,4,3,5,6] dR rfl kr kr kr<|iw rfl rfl<|cu 3 rfl rfl rfl isAgg256 rfl rfl<|aa<|iw rfl rfl<|Mv rfl<|aa<|iw rfl rfl<|iX (s:=72) j rfl rfl underlying256 sizeOf264 om om rfl rfl<|aa<|pN (X:=Hp (R.b (pl w)) [(4,b4,mA (eN rJn (((SK W k).1.map wDb).take j) F0),233)]) rfl (dO (hR (pl w) rfl hGF).2.1.r trv) (fun _=>rfl)<|bT 4 rfl rfl isAgg233 sizeOf233 (lw _) rfl rfl<|aa<|lC rfl<|?_
     refine cU rfl rfl ent218 rfl rfl (fun w' hw'=>(VO hwj (hZ k hk hd _ (List.mem_of_getElem? hwj)) ((hR (pl w) rfl hGF).2.1.g _ _ _ hw') hb3 (hw'.own 50 _ _ _ rfl).1).mono fun e' w'' h'=> ?_)
     obtain ⟨rfl,hm,ho⟩:=h'
     refine ⟨_,_,rfl,aq (hR (pl w) rfl hGF).2.1,hw'.mod (hR (pl w) rfl hGF).2.1.r (n:=50) rfl hm ho, ?_⟩
     clear hw' hm ho
     refine aa ?_
     refine ⟨fun _ X hX _=>by subst hX;exact dO (hR (pl w) rfl hGF).2.1.r trv, ?_⟩
     refine iw rfl rfl<|Ca rfl (vF (rJn wj) (eN rJn (((SK W k).1.map wDb).take j) F0))<|aa<|lC rfl<|aw 4 (hR (pl w) rfl hGF).2.1 rfl rfl rfl sizeOf233 sm (lw _) (bq _) rfl<|aa<|?_
     refine ⟨fun h=>Bool.noConfusion h, ?_⟩
     refine kv<|bz (E:=EE [213,216,218])<|Bnr rfl rfl (fun _=>az _ _ _ oi)<|Mv rfl<|aa<|?_
     repeat (refine a7 ?_)
     refine aV ?_
     have eF:K12.mul (lel (rJn wj)) (eN rJn (((SK W k).1.map wDb).take j) F0)=eN rJn (((SK W k).1.map wDb).take (j+1)) F0:=by rw[vG hwj,mp]
     exact ⟨rfl,⟨j+1,om⟩,_,by show W.length-(j+1)<W.length-j;omega,rfl,trv,⟨rfl,rfl,by rw[←eF];rfl,rfl,trivial⟩⟩
    ·obtain rfl:j=W.length:=by simp at hc;omega
     refine ba ?_
     rw[KI wJn (by rw[List.length_map,jV W k om]),List.take_of_length_le (Nat.le_of_eq (by rw[List.length_map,jV W k om])),hF0]
     clear hF0
     repeat (first|refine a7 ?_|refine bU ?_)
     exact ⟨_,rfl,⟨rfl,rfl,by first|(rw[wv W hk hd];rfl)|(rw[wL W hk hd];rfl),by first|(rw[wv W hk hd];rfl)|(rw[wL W hk hd];rfl),trivial⟩⟩
 ·intro D hD
  rw[mg]
  refine ae (E:=EE [213,216,218])<|La 4 rfl rfl eE<|Ca rfl (nW _)<|Sa 2 hD rfl rfl rfl eE<|aa<|am<|?_
  repeat (first|refine bk ?_|refine bj ?_|refine eM ?_)
  exact cX (.inl rfl) ak (ay 2 rfl rfl rfl isAgg233 sizeOf233 sm (fun w hw=>⟨rfl,ac hw⟩))
theorem OY(W:List WK)(n b cap:Nat)(cs:List Value)(hW0: ∀k,k≤63→(SK W k).1=[])(hB: ∀w',Gt w'→w'.rangeAt b 0 cs→CLS 213 [.slice (spt b) n cap].toArray w' (fun r w''=>r=.returned (.slice none 0 0)∧Grow w' w''))(w:World)(hw:Gt w)(h:w.rangeAt b 0 cs):
 CLS 178 [.slice (spt b) n cap].toArray w (fun r w'=>r=.returned (ch (bZ (SK W 63).2))∧Grow w w'):=by
 have hGF:BOk Gt (pl w):=gt_low.plain hw
 refine ca (G:=Gt) func178 rfl rfl (Hp (pl w) []) (bN (pl w) trivial ak) (aq hGF)<|ae (E:=EE [213,216,218])<|Al 2 hGF zv233<|fun b2=>aa<|iR<|ae (E:=EE [213,216,218])<|Mv rfl<|?_
 refine cU rfl rfl ent213 rfl rfl (fun w' hw'=>(hB w' (hGF.g _ _ _ hw') (eX h (fun h=>h) w' hw')).mono fun e' w'' h'=> ?_)
 obtain ⟨rfl,hg⟩:=h'
 refine ⟨_,_,rfl,aq hGF,hw'.grow ak hg, ?_⟩
 clear hw' hg
 refine fb 3 hGF zeroValue256 rfl rfl<|fun b3=>cT 3 hGF rfl rfl rfl sizeOf256 rfl (by first|decide|simp) rfl<|aa<|ae (E:=EE [213,216,218])<|Ca rfl (qf)<|Al 4 hGF zv233<|fun b4=>Sa 4 hGF rfl rfl rfl eE<|aa<|ah<|kf<|ah<|ae (E:=EE [213,216,218])<|Ca rfl (va)<|aa<|aj<|?_
 refine dS (fun _=>pl w) (fun _ _=>pl w) (fun _=>hGF) (fun _ _=>hGF) (fun _=>rfl) (fun _ _=>rfl) rfl rfl ent240 po (fun x hx=>by obtain ⟨k,hk,rfl⟩:=List.mem_map.1 hx;rfl) rfl (fun k=>[(2,b2,(((fe 0++fe 0)++((fe 0++fe 0)++(fe 0++fe 0)))++((fe 0++fe 0)++((fe 0++fe 0)++(fe 0++fe 0)))).map U64,233),(3,b3,[.slice none 0 0],256),(4,b4,mA ((SK W k).2),233)]) (fun _ _ _=>False) trv (fun _ _ _ _=>trivial) ?_ ?_ (fun _ _ _ _ _ h=>h.elim)
 ·intro k v hx R hR
  obtain ⟨hk,rfl⟩:=wt hx
  refine bz (E:=EE [213,216,218])<|Asg rfl<|aa<|?_
  refine ⟨rfl,_,rfl, ?_⟩
  refine aj<|ae (E:=EE [213,216,218])<|La 4 rfl rfl eE<|Ca rfl (iN _)<|aw 4 (hR (pl w) rfl hGF).2.1 rfl rfl rfl sizeOf233 sm sm (bq _) rfl<|aa<|ah<|ae (E:=EE [213,216,218])<|cu 3 rfl rfl rfl isAgg256 rfl rfl<|bv rfl (fun _=>aL underlying256 _ _ _ _) rfl rfl<|Mv rfl<|aa<|aj<|?_
  obtain ⟨F0,hF0⟩: ∃F0,F0=K12.mul (SK W k).2 (SK W k).2:=⟨_,rfl⟩
  refine cH (ι:={j:Nat // j≤0}) (fun y=>[(2,pnt b2),(3,pnt b3),(4,pnt b4),(5,.bool (DGb k)),(16,I ((0:Nat):Int)),(17,I (y.1:Int))]) (fun y=>[(2,b2,(((fe 0++fe 0)++((fe 0++fe 0)++(fe 0++fe 0)))++((fe 0++fe 0)++((fe 0++fe 0)++(fe 0++fe 0)))).map U64,233),(3,b3,[.slice none 0 0],256),(4,b4,mA (eN rDb ((SK W k).1.take y.1) F0),233)]) (fun y=>0-y.1) ⟨0,Nat.zero_le _⟩ (hR (pl w) rfl hGF).2.1 trv ⟨rfl,rfl,by rw[hF0];rfl,trivial⟩ ?_
  rintro ⟨j,hj⟩
  dsimp only
  obtain rfl:j=0:=om
  refine ae (E:=EE [213,216,218])<|Bnb false rfl rfl (fun _=>aD _ _ _) (rfl)<|aa<|ah<|av rfl<|ba<|?_
  rw[show (SK W k).1.take 0=(SK W k).1 from by rw[hW0 k om];rfl,hF0]
  clear hF0
  refine ah<|ae (E:=EE [213,216,218])<|Mv rfl<|aY rfl (fun _=>aK _) rfl rfl<|aa<|?_
  refine bV rfl (fun hc=> ?_) (fun hc=> ?_)
  ·have hd:DGb k=false:=by simpa using hc
   refine ba ?_
   repeat (first|refine a7 ?_|refine bU ?_)
   exact ⟨_,rfl,⟨rfl,rfl,by first|(rw[wv W hk hd];rfl)|(rw[wL W hk hd];rfl),trivial⟩⟩
  ·have hd:DGb k=true:=by simpa using hc
   refine ap<|ae (E:=EE [213,216,218])<|cu 3 rfl rfl rfl isAgg256 rfl rfl<|bv rfl (fun _=>aL underlying256 _ _ _ _) rfl rfl<|Mv rfl<|aa<|aj<|?_
   obtain ⟨F0,hF0⟩: ∃F0,F0=eN rDb (SK W k).1 (K12.mul (SK W k).2 (SK W k).2):=⟨_,rfl⟩
   refine cH (ι:={j:Nat // j≤0}) (fun y=>[(2,pnt b2),(3,pnt b3),(4,pnt b4),(5,.bool (DGb k)),(30,I ((0:Nat):Int)),(31,I (y.1:Int))]) (fun y=>[(2,b2,(((fe 0++fe 0)++((fe 0++fe 0)++(fe 0++fe 0)))++((fe 0++fe 0)++((fe 0++fe 0)++(fe 0++fe 0)))).map U64,233),(3,b3,[.slice none 0 0],256),(4,b4,mA (eN rJn (((SK W k).1.map wDb).take y.1) F0),233)]) (fun y=>0-y.1) ⟨0,Nat.zero_le _⟩ (hR (pl w) rfl hGF).2.1 trv ⟨rfl,rfl,by rw[hF0];rfl,trivial⟩ ?_
   rintro ⟨j,hj⟩
   dsimp only
   obtain rfl:j=0:=om
   refine ae (E:=EE [213,216,218])<|Bnb false rfl rfl (fun _=>aD _ _ _) (rfl)<|aa<|ah<|av rfl<|ba<|?_
   rw[show ((SK W k).1.map wDb).take 0=((SK W k).1.map wDb)from by rw[hW0 k om];rfl,hF0]
   clear hF0
   repeat (first|refine a7 ?_|refine bU ?_)
   exact ⟨_,rfl,⟨rfl,rfl,by first|(rw[wv W hk hd];rfl)|(rw[wL W hk hd];rfl),trivial⟩⟩
 ·intro D hD
  rw[mg]
  refine ae (E:=EE [213,216,218])<|La 4 rfl rfl eE<|Ca rfl (nW _)<|Sa 2 hD rfl rfl rfl eE<|aa<|am<|?_
  repeat (first|refine bk ?_|refine bj ?_|refine eM ?_)
  exact cX (.inl rfl) ak (ay 2 rfl rfl rfl isAgg233 sizeOf233 sm (fun w hw=>⟨rfl,ac hw⟩))
end Q6
end
section
open Go.RowKit
attribute [local simp] aT a9 aR aM aC bd aJ aI aA PLl cq cn N1l ck cp cm a5 bc aP aX a8 J1.bf J2.bf Q6.ez Q6.fv
namespace Q6
def LPv(f:Nat→J1.GP×J2.GP)(n:Nat):W12:=bZ (SK (WSf f n) 63).2
theorem Wb(W:List WK):SK W 63=rdK L63 (W,K12.one):=by rw[SK,List.take_of_length_le (by rw[lM];exact Nat.le_refl _),JN]
def WGo(w:WK):Prop:=w=wkB w.1 w.2.1∧E2w.on w.2.1∧E2w.times (some w.2.1) ORD=none
theorem vE{f:Nat→J1.GP×J2.GP}: ∀{n:Nat},(∀i,i<n→E2w.times (f i).2.P ORD=none)→∀w∈WSf f n,WGo w
 |0,_,w,hw=>by cases hw
 |n+1,h,w,hw=>by
  have ih:=vE (f:=f) (n:=n) fun i hi=>h i om
  by_cases h1:(f n).1.P=none
  ·rw[tT h1]at hw;exact ih w hw
  ·by_cases h2:(f n).2.P=none
   ·rw[tF h1 h2]at hw;exact ih w hw
   ·rw[BC h1 h2,List.mem_append,List.mem_singleton]at hw
    rcases hw with hw|rfl
    ·exact ih w hw
    ·obtain ⟨q,hq⟩:=lj h2
     have e:(J2.PX (f n).2.P,J2.PY (f n).2.P)=q:=by rw[hq];rfl
     have ho:=(f n).2.on
     have hr:=h n om
     rw[hq]at ho hr
     refine ⟨rfl, ?_, ?_⟩
     ·show E2w.on (J2.PX (f n).2.P,J2.PY (f n).2.P);rw[e];exact ho
     ·show E2w.times (some (J2.PX (f n).2.P,J2.PY (f n).2.P)) ORD=none;rw[e];exact hr
theorem V3{W:List WK}(h: ∀w∈W,WGo w):RdOk [] (W,K12.one):=⟨fun w hw=>by
 obtain ⟨e,h1,h2⟩:=h w hw
 refine ⟨⟨h1,h2, ?_⟩,rfl⟩
 show E2w.jr w.2.2 (E2w.times (some w.2.1) 1)
 rw[tm1,e]
 exact mM w.2.1,by
 show Up6 K12.one (gb (W.map fun _=>K12.one))
 rw[pP];exact Up6.refl _⟩
theorem SK_z{W:List WK}(h: ∀w∈W,WGo w)(k:Nat)(hk:k<63)(_:DGb k=true): ∀w∈(SK W k).1.map wDb,¬w.2.2.2.2=ze2:=fun w hw=>by
 obtain ⟨v,hv,rfl⟩:=List.mem_map.1 hw
 have r:=(V3 h).all k (D63.take k) (by rw[List.length_take,lM];omega) om
 have hl:=Mm hk
 have h1:=((r.w v hv).1.dbl (sW k om).1 om).1
 obtain ⟨a,ha⟩:=lj (uJ h1.on h1.qr (m:=2*bQ (D63.take k) 1) (by have:=(sW k om).1;omega) om)
 have hj:=h1.jr
 rw[ha]at hj
 exact hj.1
theorem Og{W:List WK}(h:W=[])(k:Nat)(hk:k≤63):(SK W k).1=[]:=List.length_eq_zero_iff.1 (by rw[jV W k hk,h];rfl)
theorem Ph(n:Nat)(f:Nat→J1.GP×J2.GP)(b cap:Nat)(hn:n≤1000)(hf: ∀i,i<n→E2w.times (f i).2.P ORD=none)(w:World)(hw:Gt w)(h:w.rangeAt b 0 ((RW 54 (fun i=>PRv (f i)) n).map U64)):CLS 178 [.slice (spt b) n cap].toArray w (fun r w'=>r=.returned (ch (LPv f n))∧Grow w w'):=by
 have hG:=vE hf
 have hl:=Nat.le_trans (sJ f n) hn
 have hb:=fun w' hw' hr=>GS n f b cap hn w' hw' hr
 rw[LPv]
 revert h hb
 generalize (RW 54 (fun i=>PRv (f i)) n).map U64=cs
 intro h hb
 by_cases h0:WSf f n=[]
 ·refine OY (WSf f n) n b cap cs (Og h0) (fun w' hw' hr=>(hb w' hw' hr).mono fun r w'' h=> ?_) w hw h
  rcases h with ⟨_,_,_,_,_,_,_,_,e⟩|⟨_,h⟩
  ·exact absurd h0 e
  ·exact h
 ·refine PM (WSf f n) n b cap cs hl (SK_z hG) (fun w' hw' hr=>(hb w' hw' hr).mono fun r w'' h=> ?_) w hw h
  rcases h with ⟨bW,cW,capW,h1,h2,h3,h4,h5,_⟩|⟨e,_⟩
  ·refine ⟨bW,cW.drop (wcl (WSf f n)).length,capW,h1,h2,h3, ?_⟩
   have e:wcl (WSf f n)++cW.drop (wcl (WSf f n)).length=cW:=by
    conv=>lhs;arg 1;rw[←h5]
    exact List.take_append_drop _ _
   rw[e];exact h4
  ·exact absurd e h0
def PRD(f:Nat→J1.GP×J2.GP):Nat→W12
 |0=>K12.one
 |i+1=>K12.mul (PRD f i) (bZ (MLv L63 (f i).1.P (f i).2.P))
theorem tK: ∀l m:List W12,gb (l++m)=K12.mul (gb l) (gb m)
 |[],m=>(K12.one_mul _).symm
 |x::l,m=>by rw[List.cons_append,gb,tK l m,gb,K12.mul_assoc]
theorem KL(f:Nat→J1.GP×J2.GP): ∀n,bZ (gb ((WSf f n).map fun w=>MLv L63 (some w.1) (some w.2.1)))=PRD f n
 |0=>gA
 |n+1=>by
  have ih:=KL f n
  rw[PRD]
  by_cases h1:(f n).1.P=none
  ·rw[tT h1,ih,h1,Ds,gA,K12.mul_one]
  ·by_cases h2:(f n).2.P=none
   ·rw[tF h1 h2,ih,h2,Ko,gA,K12.mul_one]
   ·have e1:some (J1.PX (f n).1.P,J1.PY (f n).1.P)=(f n).1.P:=(J1.I7 h1).symm
    have e2:some (J2.PX (f n).2.P,J2.PY (f n).2.P)=(f n).2.P:=by
     obtain ⟨q,hq⟩:=lj h2
     rw[hq];rfl
    rw[BC h1 h2,List.map_append,tK,iI,ih]
    show K12.mul (PRD f n) (bZ (K12.mul (MLv L63 (some (J1.PX (f n).1.P,J1.PY (f n).1.P)) (some (J2.PX (f n).2.P,J2.PY (f n).2.P))) K12.one))=_
    rw[e1,e2,K12.mul_one]
theorem Mf{f:Nat→J1.GP×J2.GP}{n:Nat}(hf: ∀i,i<n→E2w.times (f i).2.P ORD=none):Up6 (LPv f n) (PRD f n):=by
 have k:=H4 (WSf f n) (vE hf)
 rw[KL]at k
 rw[LPv,Wb]
 exact k
theorem se:Two prog 182 ⟨ "P",54,0,false, "", "",0⟩ ⟨ "Q",94,18,false, "", "",144⟩ 18 36 (List.replicate 18 (0#64)) (List.replicate 36 (0#64)):=⟨underlying182,rfl,rfl,sizeOf54,sizeOf94,fun w=>(zeroValue182 w).trans rr,sm,sm⟩
end Q6
end
section
open Go.RowKit
theorem ent290:ai prog 290:=fun _ _=>kr
namespace Q6
attribute [local simp] aT a9 aR aM aC bd aJ aI aA PLl cq cn N1l ck cp cm a5 bc aP aX a8 ez
attribute [local simp] pO cZ
theorem zv307(w:World):(zeroValue 307).run prog w=.ok (aQ (FM (FF fun _=>ze2) 6)) w:=by
 rw[tO];exact (zeroValue307 w).trans rr
abbrev TV6(f:Nat→W2):Value:=aQ (FM (FF f) 6)
theorem Py(f z:Nat→L6): ∀i,i<6→vl f [0,1,2,3,4,5] z i=f i:=fun i hi=>nY _ _ _ _ (.inl (by
 match i,hi with
 |0,_=>decide
 |1,_=>decide
 |2,_=>decide
 |3,_=>decide
 |4,_=>decide
 |5,_=>decide))
theorem Jf(x:W12):PUR 291 [ch x] (TV6 (p12 x)):=by
 intro w hw
 refine Hf func291 rfl hw<|fun hGF=>Xp<|Bx 1 hGF rfl<|fun b1=>Al 2 hGF zv307<|fun b2=>aa<|Xp<|Fa 0 rfl underlying233 rfl sizeOf231<|Fa 0 rfl underlying231 rfl sizeOf92<|ao 1 _ rfl rfl isAgg92 sizeOf92 sm (CY dB) rfl rfl<|Fa 36 rfl underlying233 rfl sizeOf231<|Fa 36 rfl underlying231 rfl sizeOf92<|ao 1 _ rfl rfl isAgg92 sizeOf92 sm (wi (m:=36) (o:=0) sm rfl dB) rfl rfl<|Fa 0 rfl underlying233 rfl sizeOf231<|Fa 12 rfl underlying231 rfl sizeOf92<|ao 1 _ rfl rfl isAgg92 sizeOf92 sm (CY (kB sm)) rfl rfl<|Fa 36 rfl underlying233 rfl sizeOf231<|Fa 48 rfl underlying231 rfl sizeOf92<|ao 1 _ rfl rfl isAgg92 sizeOf92 sm (wi (m:=36) (o:=12) sm rfl (kB (m:=12) sm)) rfl rfl<|Fa 0 rfl underlying233 rfl sizeOf231<|Fa 24 rfl underlying231 rfl sizeOf92<|ao 1 _ rfl rfl isAgg92 sizeOf92 sm (CY (f7 (m:=12) (n:=12) sm sm rfl)) rfl rfl<|Fa 36 rfl underlying233 rfl sizeOf231<|Fa 60 rfl underlying231 rfl sizeOf92<|ao 1 _ rfl rfl isAgg92 sizeOf92 sm (wi (m:=36) (o:=24) sm rfl (f7 (m:=12) (n:=12) sm sm rfl)) rfl rfl<|pQ (s:=12) (FF (p12 x)) (FF (p12 x)) [0,1,2,3,4,5] rfl rfl rfl (fun i _=>aP _) underlying307 sizeOf92 zv307 (Py _ _) rfl rfl<|Sa 2 hGF rfl rfl rfl JL<|aa<|am<|Rr<|?_
 exact ay 2 rfl rfl rfl isAgg307 sizeOf307 sm (fun w hw=>⟨rfl,ac hw⟩)
theorem Q5(f:Nat→W2):PUR 275 [TV6 f] (ch (tq f)):=by
 intro w hw
 refine Hf func275 rfl hw<|fun hGF=>Xp<|Bx 1 hGF rfl<|fun b1=>Al 2 hGF zv233<|fun b2=>aa<|Xp<|eo (0) (12*(0)) rfl rfl underlying307 sizeOf92 om om om rfl rfl<|ao 1 ((fe (f 0).1++fe (f 0).2).map U64) rfl rfl isAgg92 sizeOf92 sm (fO _ (f 0) 6 (0) _ om rfl (rfl)) rfl rfl<|eo (2) (12*(2)) rfl rfl underlying307 sizeOf92 om om om rfl rfl<|ao 1 ((fe (f 2).1++fe (f 2).2).map U64) rfl rfl isAgg92 sizeOf92 sm (fO _ (f 2) 6 (2) _ om rfl (rfl)) rfl rfl<|eo (4) (12*(4)) rfl rfl underlying307 sizeOf92 om om om rfl rfl<|ao 1 ((fe (f 4).1++fe (f 4).2).map U64) rfl rfl isAgg92 sizeOf92 sm (fO _ (f 4) 6 (4) _ om rfl (rfl)) rfl rfl<|d7 jI rfl rfl rfl sm sm sm rfl rfl<|eo (1) (12*(1)) rfl rfl underlying307 sizeOf92 om om om rfl rfl<|ao 1 ((fe (f 1).1++fe (f 1).2).map U64) rfl rfl isAgg92 sizeOf92 sm (fO _ (f 1) 6 (1) _ om rfl (rfl)) rfl rfl<|eo (3) (12*(3)) rfl rfl underlying307 sizeOf92 om om om rfl rfl<|ao 1 ((fe (f 3).1++fe (f 3).2).map U64) rfl rfl isAgg92 sizeOf92 sm (fO _ (f 3) 6 (3) _ om rfl (rfl)) rfl rfl<|eo (5) (12*(5)) rfl rfl underlying307 sizeOf92 om om om rfl rfl<|ao 1 ((fe (f 5).1++fe (f 5).2).map U64) rfl rfl isAgg92 sizeOf92 sm (fO _ (f 5) 6 (5) _ om rfl (rfl)) rfl rfl<|d7 jI rfl rfl rfl sm sm sm rfl rfl<|cx r7 rfl rfl sm sm rfl rfl<|Sa 2 hGF rfl rfl rfl eE<|aa<|am<|Rr<|?_
 exact ay 2 rfl rfl rfl isAgg233 sizeOf233 sm (fun w hw=>⟨rfl,ac hw⟩)
theorem ql(x:W12)(w:World)(hw:Gt w):CLS 274 [ch x].toArray w (fun e w'=> ∃b1,e=.returned (.func (.func 290) #[] #[pnt b1])∧Grow w w'∧w.heap.size≤b1∧OwnB w' b1 ((((fe (x.1.1).1++fe (x.1.1).2)++((fe (x.1.2.1).1++fe (x.1.2.1).2)++(fe (x.1.2.2).1++fe (x.1.2.2).2)))++((fe (x.2.1).1++fe (x.2.1).2)++((fe (x.2.2.1).1++fe (x.2.2.1).2)++(fe (x.2.2.2).1++fe (x.2.2.2).2)))).map U64) 233):=by
 refine Hf func274 rfl hw<|fun hGF=>Xp<|Bx 1 hGF rfl<|fun b1=>Asg rfl<|aa<|Xp<|ft rfl rfl rfl rfl<|Asg rfl<|aa<|am<|Rr<|?_
 exact aH rfl rfl (fun w hw=>⟨b1,rfl,ac hw,(hw.own 1 b1 _ _ rfl).2.elim id False.elim,(hw.own 1 b1 _ _ rfl).1⟩)
def Ar(x:W12):List (List Value):=(List.range 6).map fun (k:Nat)=>[I (k:Int),EV2 (p12 x k)]
theorem pF(x:W12):(Ar x).length=6:=by rw[Ar,List.length_map,List.length_range]
theorem u5(x:W12)(k:Nat)(h:k<6):(Ar x)[k]? =some [I (k:Int),EV2 (p12 x k)]:=by
 rw[Ar,List.getElem?_map,List.getElem?_range h];rfl
theorem GB(x:W12)(k:Nat)(v:List Value)(h:(Ar x)[k]? =some v):k<6∧v=[I (k:Int),EV2 (p12 x k)]:=by
 have hk:k<6:=by
  rcases Nat.lt_or_ge k 6 with hk|hk
  ·exact hk
  ·rw[List.getElem?_eq_none (by rw[pF];exact hk)]at h;cases h
 exact ⟨hk,(Option.some.inj ((u5 x k hk).symm.trans h)).symm⟩
def K9(bb:Nat)(x:W12):Cls:=fun w=>w.rangeAt bb 0 ((((fe (x.1.1).1++fe (x.1.1).2)++((fe (x.1.2.1).1++fe (x.1.2.1).2)++(fe (x.1.2.2).1++fe (x.1.2.2).2)))++((fe (x.2.1).1++fe (x.2.1).2)++((fe (x.2.2.1).1++fe (x.2.2.1).2)++(fe (x.2.2.2).1++fe (x.2.2.2).2)))).map U64)
theorem Pg(bb:Nat)(x:W12):ek prog Gt 290 [pnt bb] (Ar x) (K9 bb x):=by
 intro l J Jx hJ hJx hRd hGx hY w hj
 have okJ: ∀k,BOk Gt (Bi w (fun Y=>J Y k)):=fun k=>⟨fun _ _ _ h=>(hRd _ _ _ h.rid).1,hJ k⟩
 have okX: ∀k,BOk Gt (Bi w (fun Y=>Jx Y k)):=fun k=>⟨fun _ _ _ h=>hGx _ _ _ h.rid,hJx k⟩
 have c1: ∀k L w',Hp (Bi w (fun Y=>J Y k)) L w'→K9 bb x w':=fun k L w' h=>(hRd _ _ _ h.rid).2
 refine bY (G:=Gt) func290 rfl rfl (Hp (Bi w (fun Y=>J Y 0)) []) (bN (Bi w _) hj (hJ 0)) (aq (okJ 0))<|Xp<|df rfl isAgg233 sizeOf233 sm (fun w h=>c1 _ _ w h) rfl rfl<|Ca rfl (Jf _)<|Mv rfl<|aa<|aj<|fk (ι:={i:Nat // i≤6}) (fun y=>[(0,.func (.yield l) #[] #[]),(1,pnt bb),(6,TV6 (p12 x)),(7,I (y.1:Int))]) (fun y=>Bi w (fun Y=>J Y y.1)) (fun y=>[]) (fun y=>6-y.1) ⟨0,Nat.zero_le _⟩ (fun _=>okJ _) rfl trv trivial<|?_
 rintro ⟨i,hi⟩
 dsimp only
 refine Xp<|Bnr rfl rfl (fun _=>aD _ _ _)<|aa<|ah<|?_
 refine bV rfl (fun hc=> ?_) (fun hc=> ?_)
 ·have hi2:i<6:=by simp at hc;omega
  refine ap<|ah<|aj<|Xp<|Mv rfl<|yg (FF (p12 x)) (i) rfl rfl underlying307 sizeOf92 isAgg92 om om (aP _) rfl rfl<|Al 4 (okJ _) zv92<|fun b4=>Asg rfl<|Sa 4 (okJ _) rfl rfl rfl aF<|aa<|Xp<|Mv rfl<|Mv rfl<|La 4 rfl rfl aF<|?_
  refine cN (hY.b (k:=i) (u5 x i om) w) (okJ _) (okX _) rfl rfl rfl rfl rfl ?_ ?_
  ·refine aY rfl (fun _=>aK _) rfl rfl<|aa<|av rfl<|ap<|Xq<|Bnr rfl rfl (fun _=>az _ _ _ oi)<|Mv rfl<|aa<|?_
   repeat (refine a7 ?_)
   exact aV<|⟨rfl,⟨i+1,om⟩,_,by show 6-(i+1)<6-i;omega,rfl,trv,trivial⟩
  ·refine aY rfl (fun _=>aK _) rfl rfl<|aa<|aU rfl<|am<|Rr<|?_
   repeat (first|refine cO ?_|refine bU ?_|refine cQ rfl ?_|refine bk ?_|refine bj ?_)
   exact cM rfl (fun w hw=>⟨⟨_,rfl⟩,.inr ⟨_,bx (hJx _) hw.rid⟩⟩)
 ·obtain rfl:i=6:=by simp at hc;omega
  refine ba ?_
  repeat (first|refine cO ?_|refine bU ?_|refine cQ rfl ?_|refine bk ?_|refine bj ?_)
  refine ci rfl (fun w hw=>⟨⟨_,rfl⟩,.inl ?_⟩)
  have:=bx (hJ _) hw.rid
  rw[pF]
  exact this
end Q6
end
section
def SXB:L8:=[25#8,4#8,211#8,191#8,2#8,187#8,6#8,103#8,194#8,49#8,190#8,180#8,32#8,44#8,13#8,31#8,15#8,214#8,3#8,253#8,60#8,189#8,95#8,79#8,123#8,36#8,67#8,215#8,132#8,186#8,185#8,196#8,246#8,126#8,165#8,61#8,99#8,231#8,129#8,61#8,141#8,7#8,117#8,237#8,146#8,35#8,95#8,184#8]
def SRn:Nat:=3850754370037169011952147076051364057158807420970682438676050522613628423219637725072182697113062777891589506424760
theorem HU:SXB.length=48:=rfl
theorem Ks:BN SXB 48=SRn:=by decide+kernel
theorem OO:SRn<PP:=by decide+kernel
theorem LP:FV SXB=zp SRn:=by rw[FV,if_pos ⟨HU,by rw[Ks];exact OO⟩,Ks]
def SR:Zp:=zp SRn
theorem D3:CNn+SRn=PP:=by decide+kernel
theorem SR_a: -(zp CNn)=SR:=r8 (by rw[SR,←fD,D3,m6])
theorem SR_b: -SR=zp CNn:=r8 (by rw[SR,←fD,Nat.add_comm,D3,m6])
theorem Uj:((SR,-SR):W2)=GA:=by rw[vK,SR_a,SR_b]
theorem Sd(n:Int):(n.tmod 12+12).tmod 12=(((n % 12).toNat:Nat):Int):=by
 have h:n.tmod 12=n % 12∨n.tmod 12=n % 12-12:=by
  rw[Int.tmod_eq_emod]
  split
  ·left;omega
  ·right;rfl
 have e:(n.tmod 12+12).tmod 12=(n.tmod 12+12) % 12:=by rw[Int.tmod_eq_emod_of_nonneg om]
 rw[e]
 omega
theorem Di(n:Int):inI (n.tmod 12+12):=by
 have h:n.tmod 12=n % 12∨n.tmod 12=n % 12-12:=by
  rw[Int.tmod_eq_emod]
  split
  ·left;omega
  ·right;rfl
 unfold inI;omega
end
section
open Go.RowKit
namespace Q6
attribute [local simp] aT a9 aR aM aC bd aJ aI aA PLl cq cn N1l ck cp cm a5 bc aP aX a8 ez
attribute [local simp] pO cZ
theorem ua(e:Option Addr)(cap:Nat)(w:World)(hw:Gt w)(hby:BytesAt w e SXB):
 CLS 90 [.slice e SXB.length cap].toArray w (fun r w'=>r=.returned (.tuple #[EV SR,.bool (FO SXB)])∧Grow w w'):=by
 have h:=dw e cap SXB w hw hby
 rw[LP]at h
 exact h
theorem Rm{m:Nat}(h:m % 2=1)(y:W2)(k:Nat):frq y m k=ml2 (cj2 y) (pw2 (GV m) k):=by rw[frq,cjn,if_pos h]
theorem RI{m:Nat}(h: ¬m % 2=1)(y:W2)(k:Nat):frq y m k=ml2 y (pw2 (GV m) k):=by rw[frq,cjn,if_neg h]
theorem GV_s(i:Nat):GV (i+1)=ml2 (cj2 (GV i)) ((SR,-SR):W2):=by rw[Uj];rfl
theorem EB(n:Nat)(hn:n≤1000):PUR 273 [I (n:Int)] (EV2 (GV n)):=by
 intro w hw
 refine Hf func273 rfl hw<|fun hGF=>ae (E:=EE [1000022])<|Al 2 hGF zv92<|fun b2=>aa<|ae (E:=EE [1000022])<|ik 8 SXB hGF rfl rfl rfl dc dc underlying22 sizeOf5 zeroValue5 rfl rfl<|fun b8=>mN 8 rfl hGF rfl rfl underlying22 underlying5 rfl rfl<|Cc rfl ent90 (fun w' hC hG=>ua _ _ w' hG (BytesAt.range (hC.own 8 b8 _ _ rfl).1.range))<|Mv rfl<|Ext rfl rfl<|Ext rfl rfl<|Al 3 hGF zv52<|fun b3=>Sa 3 hGF rfl rfl rfl bg<|Asg rfl<|aa<|eG (E:=EE [1000022,2999999]) [0,1,2,3] [⟨4,5,92,(fe 0++fe 0).map U64⟩] [5] dR rfl kr kr kr kr kr kr dc (by intro x hx;simp only[List.mem_cons,List.not_mem_nil,or_false]at hx;subst hx;exact bP rfl zv92 rfl)<|La 3 rfl rfl bg<|La 3 rfl rfl bg<|Ca rfl (dr _)<|cx eY rfl rfl sm sm rfl rfl<|aa<|?_
 refine ⟨_,_,rfl,hGF,by intro x hx;simp only[List.mem_cons,List.not_mem_nil,or_false]at hx;subst hx;rfl,by intro x hx;simp only[List.mem_cons,List.not_mem_nil,or_false]at hx;subst hx;rfl,fun adr=> ?_⟩
 refine Sa 5 hGF rfl rfl rfl aF<|aa<|ae (E:=EE [1000022])<|Ca rfl (qY)<|Al 6 hGF zv92<|fun b6=>Sa 6 hGF rfl rfl rfl aF<|aa<|ah<|ae (E:=EE [1000022])<|Mv rfl<|Mv rfl<|aa<|aj<|cH (ι:={i:Nat // i≤n}) (fun y=>[(0,I (n:Int)),(2,pnt b2),(3,pnt b3),(5,.pointer (some ⟨(adr 5),0,none⟩)),(6,pnt b6),(18,I (n:Int)),(19,I (y.1:Int))]) (fun y=>[(2,b2,(fe 0++fe 0).map U64,92),(3,b3,(fe SR).map U64,52),(5,adr 5,(fe SR++fe (-SR)).map U64,92),(6,b6,(fe (GV y.1).1++fe (GV y.1).2).map U64,92)]) (fun y=>n-y.1) ⟨0,Nat.zero_le _⟩ hGF trv trv<|?_
 rintro ⟨i,hi⟩
 dsimp only
 refine ae (E:=EE [1000022])<|Bnr rfl rfl (fun _=>aD _ _ _)<|aa<|ah<|?_
 refine bV rfl (fun hc=> ?_) (fun hc=> ?_)
 ·simp only[decide_eq_true_eq]at hc
  refine ap<|ah<|aj<|Xe [1000022]<|La 6 rfl rfl aF<|Ca rfl (mE _)<|La 5 rfl rfl aF<|Ca rfl (cY (cj2 (GV i)) ((SR,-SR):W2))<|Sa 6 hGF rfl rfl rfl aF<|aa<|bz (E:=EE [1000022])<|Bnr rfl rfl (fun _=>az _ _ _ oi)<|Mv rfl<|aa<|?_
  repeat (refine a7 ?_)
  exact aV<|⟨rfl,⟨i+1,om⟩,_,by show n-(i+1)<n-i;omega,rfl,trv,⟨rfl,rfl,rfl,by rw[GV_s i];rfl,trivial⟩⟩
 ·obtain rfl:n=i:=by simp at hc;omega
  refine ba<|ae (E:=EE [1000022])<|La 6 rfl rfl aF<|Sa 2 hGF rfl rfl rfl aF<|aa<|am<|Rr<|?_
  exact ay 2 rfl rfl rfl isAgg92 sizeOf92 sm (fun w hw=>⟨rfl,ac hw⟩)
theorem zG(x:W12)(n:Int):PUR 235 [ch x,I n] (ch (iW x (n % 12).toNat)):=by
 intro w hw
 have hGF:BOk Gt (pl w):=gt_low.plain hw
 obtain ⟨m,hm⟩: ∃m:Nat,(n % 12).toNat=m:=⟨_,rfl⟩
 have hm6:m<12:=om
 rw[hm,yz]
 refine ca (G:=Gt) func235 rfl rfl (Hp (pl w) []) (bN (pl w) trivial ak) (aq hGF)<|ae (E:=EE [274])<|Bx 2 hGF rfl<|fun b2=>gM 3 hGF rfl rfl rfl<|fun b3=>Al 4 hGF zv233<|fun b4=>aa<|ae (E:=EE [274])<|cu 3 rfl rfl rfl isAgg3 rfl rfl<|Bnr (v:=I (n.tmod 12)) rfl rfl (fun _=>fK _ _ _ dc)<|Bnr (v:=I (n.tmod 12+12)) rfl rfl (fun _=>az _ _ _ (Di n))<|Bnr (v:=I (m:Int)) rfl rfl (fun _=>(fK _ _ _ dc).trans (by rw[Sd,hm]))<|cT 3 hGF rfl rfl rfl sizeOf3 rfl (by show 0<1;decide) rfl<|aa<|ae (E:=EE [274])<|cu 3 rfl rfl rfl isAgg3 rfl rfl<|Ca rfl (EB m om)<|Ca rfl (qY)<|Al 5 hGF zv92<|fun b5=>Al 6 hGF zv92<|fun b6=>Sa 5 hGF rfl rfl rfl aF<|Sa 6 hGF rfl rfl rfl aF<|aa<|ae (E:=EE [274])<|Al 7 hGF zv307<|fun b7=>aa<|ah<|ae (E:=EE [274])<|La 2 rfl rfl eE<|?_
 refine cU rfl rfl ent274 rfl rfl (fun w' hw'=>(ql x w' (hGF.g _ _ _ hw')).mono fun e' w'' h=> ?_)
 obtain ⟨c1,rfl,hg,h1,ho⟩:=h
 refine ⟨_,_,rfl,aq hGF,hw'.news ak hg [(33,c1,(((fe (x.1.1).1++fe (x.1.1).2)++((fe (x.1.2.1).1++fe (x.1.2.1).2)++(fe (x.1.2.2).1++fe (x.1.2.2).2)))++((fe (x.2.1).1++fe (x.2.1).2)++((fe (x.2.2.1).1++fe (x.2.2.1).2)++(fe (x.2.2.2).1++fe (x.2.2.2).2)))).map U64,233)] ?_ bG, ?_⟩
 ·intro n' b' c' t' hl
  rcases aB hl with ⟨_,e⟩|⟨_,hl⟩
  ·cases e;exact ⟨h1,ho⟩
  ·cases hl
 clear hw' hg h1 ho
 refine aa<|aj<|?_
 refine dS (fun _=>pl w) (fun _ _=>pl w) (fun _=>hGF) (fun _ _=>hGF) (fun _=>rfl) (fun _ _=>rfl) rfl rfl ent290 (Pg c1 x) (fun v hv=>by obtain ⟨k,hk,rfl⟩:=List.mem_map.1 hv;rfl) rfl (fun k=>[(2,b2,(((fe (x.1.1).1++fe (x.1.1).2)++((fe (x.1.2.1).1++fe (x.1.2.1).2)++(fe (x.1.2.2).1++fe (x.1.2.2).2)))++((fe (x.2.1).1++fe (x.2.1).2)++((fe (x.2.2.1).1++fe (x.2.2.1).2)++(fe (x.2.2.2).1++fe (x.2.2.2).2)))).map U64,233),(3,b3,[I (m:Int)],3),(4,b4,(((fe 0++fe 0)++((fe 0++fe 0)++(fe 0++fe 0)))++((fe 0++fe 0)++((fe 0++fe 0)++(fe 0++fe 0)))).map U64,233),(5,b5,(fe (GV m).1++fe (GV m).2).map U64,92),(6,b6,(fe (pw2 (GV m) k).1++fe (pw2 (GV m) k).2).map U64,92),(7,b7,(FM (FF (fun j=>if j<k then frq (p12 x j) m j else ze2)) 6).map U64,307),(33,c1,(((fe (x.1.1).1++fe (x.1.1).2)++((fe (x.1.2.1).1++fe (x.1.2.1).2)++(fe (x.1.2.2).1++fe (x.1.2.2).2)))++((fe (x.2.1).1++fe (x.2.1).2)++((fe (x.2.2.1).1++fe (x.2.2.1).2)++(fe (x.2.2.2).1++fe (x.2.2.2).2)))).map U64,233)]) (fun _ _ _=>False) ⟨rfl,rfl,rfl,rfl,rfl,congrArg (fun l=>some (b7,l,_)) (congrArg (List.map U64) (uR fun j _=>(if_neg (Nat.not_lt_zero j)).symm)),rfl,trivial⟩ (fun k _ w' h=>aO (n:=33) rfl w' h) ?_ ?_ (fun _ _ _ _ _ h=>h.elim)
 ·intro k v hx R hR
  obtain ⟨hk,rfl⟩:=GB x k v hx
  refine ae (E:=EE [274])<|Asg rfl<|aa<|bz (E:=EE [274])<|dd 9 (hR (pl w) rfl hGF).1 zv92 rfl rfl<|fun b9=>aw 9 (hR (pl w) rfl hGF).1 rfl rfl rfl sizeOf92 sm sm (bq _) rfl<|aa<|?_
  refine ⟨rfl,_,rfl, ?_⟩
  refine aj<|ah<|ae (E:=EE [274])<|cu 3 rfl rfl rfl isAgg3 rfl rfl<|Bnr (v:=I ((m % 2:Nat):Int)) rfl rfl (fun _=>fK _ _ _ dc)<|Bnr rfl rfl (fun _=>db _ _ _)<|aa<|?_
  refine bV rfl (fun hc=> ?_) (fun hc=> ?_)
  ·have hp:m % 2=1:=by simp at hc;omega
   refine bz (E:=EE [274])<|La 9 rfl rfl aF<|Ca rfl (mE _)<|aw 9 (hR (pl w) rfl hGF).2.1 rfl rfl rfl sizeOf92 sm sm (bq _) rfl<|aa<|ae (E:=EE [274])<|Mv rfl<|La 9 rfl rfl aF<|La 6 rfl rfl aF<|Ca rfl (cY _ _)<|eo (k) (12*(k)) rfl rfl underlying307 sizeOf92 om om om rfl rfl<|ki 7 ((FM (FF (fun j=>if j<k+1 then frq (p12 x j) m j else ze2)) 6).map U64) (hR (pl w) rfl hGF).2.1 rfl rfl rfl sizeOf92 sm (bq _) (by simp;omega) (rz _ _ (ml2 (cj2 (p12 x k)) (pw2 (GV m) k)) 6 (k) _ om rfl (fun j _=>by rw[←Rm hp];exact vg (fun j=>frq (p12 x j) m j) (fun _=>ze2) k j)) rfl<|aa<|bz (E:=EE [274])<|La 6 rfl rfl aF<|La 5 rfl rfl aF<|Ca rfl (cY _ _)<|aw 6 (hR (pl w) rfl hGF).2.1 rfl rfl rfl sizeOf92 sm sm (bq _) rfl<|aa<|?_
   repeat (refine a7 ?_)
   exact ⟨_,rfl,trv⟩
  ·have hp: ¬m % 2=1:=by simp at hc;omega
   refine ap<|ae (E:=EE [274])<|Mv rfl<|La 9 rfl rfl aF<|La 6 rfl rfl aF<|Ca rfl (cY _ _)<|eo (k) (12*(k)) rfl rfl underlying307 sizeOf92 om om om rfl rfl<|ki 7 ((FM (FF (fun j=>if j<k+1 then frq (p12 x j) m j else ze2)) 6).map U64) (hR (pl w) rfl hGF).2.1 rfl rfl rfl sizeOf92 sm (bq _) (by simp;omega) (rz _ _ (ml2 (p12 x k) (pw2 (GV m) k)) 6 (k) _ om rfl (fun j _=>by rw[←RI hp];exact vg (fun j=>frq (p12 x j) m j) (fun _=>ze2) k j)) rfl<|aa<|bz (E:=EE [274])<|La 6 rfl rfl aF<|La 5 rfl rfl aF<|Ca rfl (cY _ _)<|aw 6 (hR (pl w) rfl hGF).2.1 rfl rfl rfl sizeOf92 sm sm (bq _) rfl<|aa<|?_
   repeat (refine a7 ?_)
   exact ⟨_,rfl,trv⟩
 ·intro D hD
  rw[pF]
  refine ae (E:=EE [274])<|La 7 rfl rfl JL<|Ca rfl (Q5 _)<|Sa 4 hD rfl rfl rfl eE<|aa<|am<|Rr<|?_
  exact cX (.inl rfl) ak (ay 4 rfl rfl rfl isAgg233 sizeOf233 sm (fun w hw=>⟨e12 rfl rfl,ac hw⟩))
end Q6
end
end Go.Proofs.YtfgacclgjklgnaaGreatDoor
