/- L4 -/
import Derived.Test.YtjookodjbjabbaaGreatDoorL3
set_option maxRecDepth 100000
set_option maxHeartbeats 1000000
namespace Go.Proofs.YtjookodjbjabbaaGreatDoor
open Go.Proofs.Tryz
section
open Go.RowKit
attribute [local simp] a6 bv aH aA aQ aY aR aK aM PLl cJ cH N1l cI cL cK bf bB a7 bu J1.bx J2.bx
namespace Q6
theorem Da(a:W6)(b c:W2):SHT a b c=K6.mul a (b,c,ze2):=Prod.ext (zq R2 [a.1,a.2.1,a.2.2,b,c,XI] (ta (tm j0 j3) (txi 5 (tm j2 j4) O)) (ta (tm j0 j3) (tm j5 (ta (tm j1 tz0) (tm j2 j4))))) (Prod.ext (zq R2 [a.1,a.2.1,a.2.2,b,c,XI] (ta (ta (tm (ta j0 j1) (ta j3 j4)) (tn (tm j0 j3))) (tn (tm j1 j4))) (ta (ta (tm j0 j4) (tm j1 j3)) (tm j5 (tm j2 tz0)))) (zq R2 [a.1,a.2.1,a.2.2,b,c,XI] (ta (tm j1 j4) (tm j2 j3)) (ta (ta (tm j0 tz0) (tm j1 j4)) (tm j2 j3))))
def TMS(t:W6)(f:W12):W12:=(K6.add (SHT f.1 t.1 t.2.1) (v6 (v6 (sc6 f.2 t.2.2))),sb6 (sb6 (SHT (K6.add f.1 f.2) t.1 (ad2 t.2.1 t.2.2)) (SHT f.1 t.1 t.2.1)) (v6 (sc6 f.2 t.2.2)))
theorem Na(t:W6):lel t=((t.1,t.2.1,ze2),K6.mul (t.2.2,ze2,ze2) VV):=Prod.ext O (by rw[zE];exact Prod.ext (show ze2=xi2 ze2 by rw[C7];exact (R2.zero_mul _).symm) O)
theorem Og(t:W6):(t.1,ad2 t.2.1 t.2.2,ze2)=K6.add (t.1,t.2.1,ze2) (K6.mul (t.2.2,ze2,ze2) VV):=by
 rw[<-show ((lel t).2:W6)=K6.mul (t.2.2,ze2,ze2) VV from congrArg Prod.snd (Na t)];exact Prod.ext (R2.add_zero _).symm (Prod.ext O (R2.add_zero _).symm)
theorem Ou(t:W6)(f:W12):TMS t f=K12.mul (lel t) f:=by
 rw[TMS,Na,Da,Da,yI,yI,Og,<-R0,<-zE,<-zE];exact Prod.ext (zq K6 [f.1,f.2,(t.1,t.2.1,ze2),(t.2.2,ze2,ze2),VV] (ta (tm j0 j2) (tm (tm (tm j1 j3) j4) j4)) (ta (tm j2 j0) (tm j4 (tm (tm j3 j4) j1)))) (zq K6 [f.1,f.2,(t.1,t.2.1,ze2),(t.2.2,ze2,ze2),VV] (ta (ta (tm (ta j0 j1) (ta j2 (tm j3 j4))) (tn (tm j0 j2))) (tn (tm (tm j1 j3) j4))) (ta (tm j2 j1) (tm (tm j3 j4) j0)))
theorem AF(t:W6)(f:W12):PUR 199 [EV6 t,cz f] (cz (TMS t f)):=(bT (l2 (V6 _) (V12 _)) (V12 _) (pE TO222 func199 [.inl [t.1.1,t.1.2,t.2.1.1,t.2.1.2,t.2.2.1,t.2.2.2],.inl [f.1.1.1,f.1.1.2,f.1.2.1.1,f.1.2.1.2,f.1.2.2.1,f.1.2.2.2,f.2.1.1,f.2.1.2,f.2.2.1.1,f.2.2.1.2,f.2.2.2.1,f.2.2.2.2]] (.inl (.inl [(TMS t f).1.1.1,(TMS t f).1.1.2,(TMS t f).1.2.1.1,(TMS t f).1.2.1.2,(TMS t f).1.2.2.1,(TMS t f).1.2.2.2,(TMS t f).2.1.1,(TMS t f).2.1.2,(TMS t f).2.2.1.1,(TMS t f).2.2.1.2,(TMS t f).2.2.2.1,(TMS t f).2.2.2.2])) (let t0:=SHT ((f.1.1.1,f.1.1.2),(f.1.2.1.1,f.1.2.1.2),(f.1.2.2.1,f.1.2.2.2)) (t.1.1,t.1.2) (t.2.1.1,t.2.1.2);let t1:=sc6 ((f.2.1.1,f.2.1.2),(f.2.2.1.1,f.2.2.1.2),(f.2.2.2.1,f.2.2.2.2)) (t.2.2.1,t.2.2.2);let t2:=v6 ((t1.1.1,t1.1.2),(t1.2.1.1,t1.2.1.2),(t1.2.2.1,t1.2.2.2));let t3:=K6.add ((f.1.1.1,f.1.1.2),(f.1.2.1.1,f.1.2.1.2),(f.1.2.2.1,f.1.2.2.2)) ((f.2.1.1,f.2.1.2),(f.2.2.1.1,f.2.2.1.2),(f.2.2.2.1,f.2.2.2.2));let t4:=ad2 (t.2.1.1,t.2.1.2) (t.2.2.1,t.2.2.2);let t5:=SHT ((t3.1.1,t3.1.2),(t3.2.1.1,t3.2.1.2),(t3.2.2.1,t3.2.2.2)) (t.1.1,t.1.2) (t4.1,t4.2);let t6:=v6 ((t2.1.1,t2.1.2),(t2.2.1.1,t2.2.1.2),(t2.2.2.1,t2.2.2.2));let t7:=K6.add ((t0.1.1,t0.1.2),(t0.2.1.1,t0.2.1.2),(t0.2.2.1,t0.2.2.2)) ((t6.1.1,t6.1.2),(t6.2.1.1,t6.2.1.2),(t6.2.2.1,t6.2.2.2));let t8:=sb6 ((t5.1.1,t5.1.2),(t5.2.1.1,t5.2.1.2),(t5.2.2.1,t5.2.2.2)) ((t0.1.1,t0.1.2),(t0.2.1.1,t0.2.1.2),(t0.2.2.1,t0.2.2.2));let t9:=sb6 ((t8.1.1,t8.1.2),(t8.2.1.1,t8.2.1.2),(t8.2.2.1,t8.2.2.2)) ((t2.1.1,t2.1.2),(t2.2.1.1,t2.2.1.2),(t2.2.2.1,t2.2.2.2));(.inl (.inl [t7.1.1,t7.1.2,t7.2.1.1,t7.2.1.2,t7.2.2.1,t7.2.2.2,t9.1.1,t9.1.2,t9.2.1.1,t9.2.1.2,t9.2.2.1,t9.2.2.2]),[])) [] kr aD O))
theorem iY{f:Nat}{g:W6->W12->W12}(en:ai prog f)(h: ∀a b,PUR f [EV6 a,cz b] (cz (g a b))):Snd prog Gt f (c2 q6.ag q12.ag q12.rd g):=gv q6.ag q12.ag q12.rd en (λa b=>bT (l2 (V6 _).symm (V12 _).symm) (V12 _).symm (h a b))
def TO223:Tb prog Gt:=TO222.add (iY (g:=TMS) ent199 AF)
theorem yS(t:W6)(f:W12):PUR 199 [EV6 t,cz f] (cz (K12.mul (lel t) f)):=by rw[<-Ou];exact AF t f
def TO224:Tb prog Gt:=TO223.add (iY (g:=λt f=>K12.mul (lel t) f) ent199 yS)
def ko(w:WK):List Zp:=[w.1.1,w.1.2,w.2.1.1.1,w.2.1.1.2,w.2.1.2.1,w.2.1.2.2,w.2.2.1.1,w.2.2.1.2,w.2.2.2.1.1,w.2.2.2.1.2,w.2.2.2.2.1,w.2.2.2.2.2]
theorem pM{f:FuncId}{fn:Func}{c:Code}(T:Tb prog Gt)(hf:prog.funcs[f]? =some fn)(a:List S0)(l l':List Zp)(t:TypeId)(u:S0)(vc:S1×CB)(p:Pa)(h:xM T fn c a l t p=some vc)(hc:Ok vc.2)(e:vc.1=.inr [u,.inl l']){b:Nat}{pre post:List Value}{w:World}(hw:Gt w)(hb:8<=b)(ho:OwnB w b (pre++(clv l++post)) t)
 (hbd:fn.body=some c:=by rfl) (hn:Nat.ble (a.length+1) fn.ntmps=true:=by rfl) (hN:Nat.ble fn.ntmps 1000000=true:=by rfl) (ha:a.all npS=true:=by rfl):
 CLS f (.pointer (some ⟨b,pre.length,none⟩)::a.map (dn rid)).toArray w (λe w'=>e=.returned (dn rid u)/\Mod b w w'/\OwnB w' b (pre++(clv l'++post)) t):=
 Kj T cY hf hbd (cs:=vc.2) (by rw[<-e];exact h) hc hn hN ha ((gt_low.from (M:=λk=>k=b) hw (λm hm=>by subst hm;exact hb)).ok (B:=plM w (λk=>k=b)) am) ho
theorem Us{P:Program}{f:FuncId}{xs ys:List Value}{w:World}{b:Nat}{v v':Value}{c c':List Value}{t:TypeId}(h:Calls P f xs.toArray w (λe w'=>e=.returned v/\Mod b w w'/\OwnB w' b c t))(ha:ys=xs)(hv:v'=v)(hc:c'=c):Calls P f ys.toArray w (λe w'=>e=.returned v'/\Mod b w w'/\OwnB w' b c' t):=by subst ha;subst hv;subst hc;exact h
theorem mdbl(w:WK){b:Nat}{pre post:List Value}{W:World}(hw:Gt W)(hb:8<=b)(ho:OwnB W b (pre++(clv (ko w)++post)) 240):
 CLS 198 [.pointer (some ⟨b,pre.length,none⟩)].toArray W (λe W'=>e=.returned (EV6 (rDb w))/\Mod b W W'/\OwnB W' b (pre++(clv (ko (wDb w))++post)) 240):=
 Us (pM TO224 func198 [] ([w.1.1,w.1.2,w.2.1.1.1,w.2.1.1.2,w.2.1.2.1,w.2.1.2.2,w.2.2.1.1,w.2.2.1.2,w.2.2.2.1.1,w.2.2.2.1.2,w.2.2.2.2.1,w.2.2.2.2.2]) (ko (wDb w)) 240 (.inl [(rDb w).1.1,(rDb w).1.2,(rDb w).2.1.1,(rDb w).2.1.2,(rDb w).2.2.1,(rDb w).2.2.2]) (let t0:=(TG2 (w.2.2.1.1,w.2.2.1.2) (w.2.2.2.1.1,w.2.2.2.1.2)).1;let t1:=(TG2 (w.2.2.1.1,w.2.2.1.2) (w.2.2.2.1.1,w.2.2.2.1.2)).2;let t2:=ml2 (w.2.2.2.2.1,w.2.2.2.2.2) (t1.1,t1.2);let t3:=ml2 (t1.1,t1.2) (w.2.2.2.1.1,w.2.2.2.1.2);let t4:=ml2 (w.2.2.2.2.1,w.2.2.2.2.2) (w.2.2.2.2.1,w.2.2.2.2.2);let t5:=ml2 (t0.1,t0.2) (w.2.2.1.1,w.2.2.1.2);let t6:=E2w.sub (t5.1,t5.2) (t3.1,t3.2);let t7:=ml2 (t0.1,t0.2) (t4.1,t4.2);let t8:=ml2 (t2.1,t2.2) (t4.1,t4.2);let t9:=LR5 w.1.1 w.1.2 (t6.1,t6.2) (t7.1,t7.2) (t8.1,t8.2);let t10:=ad2 (t3.1,t3.2) (t3.1,t3.2);let t11:=ml2 (t10.1,t10.2) (w.2.2.1.1,w.2.2.1.2);let t12:=ml2 (t0.1,t0.2) (t0.1,t0.2);let t13:=E2w.sub (t12.1,t12.2) (t11.1,t11.2);let t14:=E2w.sub (t13.1,t13.2) (t11.1,t11.2);let t15:=E2w.sub (t11.1,t11.2) (t14.1,t14.2);let t16:=ml2 (t0.1,t0.2) (t15.1,t15.2);let t17:=ml2 (t10.1,t10.2) (t3.1,t3.2);let t18:=E2w.sub (t16.1,t16.2) (t17.1,t17.2);(.inr [.inl [t9.1.1,t9.1.2,t9.2.1.1,t9.2.1.2,t9.2.2.1,t9.2.2.2],.inl [w.1.1,w.1.2,w.2.1.1.1,w.2.1.1.2,w.2.1.2.1,w.2.1.2.2,t14.1,t14.2,t18.1,t18.2,t2.1,t2.2]],[])) [] kr aD O hw hb ho) O (V6 _) O
theorem mjn(w:WK){b:Nat}{pre post:List Value}{W:World}(h: ¬w.2.2.2.2=ze2)(hw:Gt W)(hb:8<=b)(ho:OwnB W b (pre++(clv (ko w)++post)) 240):
 CLS 200 [.pointer (some ⟨b,pre.length,none⟩)].toArray W (λe W'=>e=.returned (EV6 (rJn w))/\Mod b W W'/\OwnB W' b (pre++(clv (ko (wJn w))++post)) 240):=by
 rw[show rJn w=LNR (E2w.wjL w.2.2 w.2.1) w.1 from if_neg h,show wJn w=(w.1,w.2.1,E2w.wjJ w.2.2 w.2.1)from if_neg h];exact Us (pM TO224 func200 [] ([w.1.1,w.1.2,w.2.1.1.1,w.2.1.1.2,w.2.1.2.1,w.2.1.2.2,w.2.2.1.1,w.2.2.1.2,w.2.2.2.1.1,w.2.2.2.1.2,w.2.2.2.2.1,w.2.2.2.2.2]) (ko ((w.1,w.2.1,E2w.wjJ w.2.2 w.2.1))) 240 (.inl [(LNR (E2w.wjL w.2.2 w.2.1) w.1).1.1,(LNR (E2w.wjL w.2.2 w.2.1) w.1).1.2,(LNR (E2w.wjL w.2.2 w.2.1) w.1).2.1.1,(LNR (E2w.wjL w.2.2 w.2.1) w.1).2.1.2,(LNR (E2w.wjL w.2.2 w.2.1) w.1).2.2.1,(LNR (E2w.wjL w.2.2 w.2.1) w.1).2.2.2]) (let t0:=ml2 (w.2.2.2.2.1,w.2.2.2.2.2) (w.2.2.2.2.1,w.2.2.2.2.2);let t1:=ml2 (w.2.1.2.1,w.2.1.2.2) (t0.1,t0.2);let t2:=ml2 (t1.1,t1.2) (w.2.2.2.2.1,w.2.2.2.2.2);let t3:=E2w.sub (t2.1,t2.2) (w.2.2.2.1.1,w.2.2.2.1.2);let t4:=ml2 (w.2.1.1.1,w.2.1.1.2) (t0.1,t0.2);let t5:=E2w.sub (t4.1,t4.2) (w.2.2.1.1,w.2.2.1.2);let t6:=ml2 (w.2.2.2.2.1,w.2.2.2.2.2) (t5.1,t5.2);let t7:=ml2 (t3.1,t3.2) (w.2.1.1.1,w.2.1.1.2);let t8:=ml2 (t6.1,t6.2) (w.2.1.2.1,w.2.1.2.2);let t9:=E2w.sub (t7.1,t7.2) (t8.1,t8.2);let t10:=LR5 w.1.1 w.1.2 (t9.1,t9.2) (t3.1,t3.2) (t6.1,t6.2);let t11:=ml2 (t5.1,t5.2) (t5.1,t5.2);let t12:=ml2 (t11.1,t11.2) (t5.1,t5.2);let t13:=ml2 (t11.1,t11.2) (w.2.2.1.1,w.2.2.1.2);let t14:=ml2 (t3.1,t3.2) (t3.1,t3.2);let t15:=E2w.sub (t14.1,t14.2) (t12.1,t12.2);let t16:=E2w.sub (t15.1,t15.2) (t13.1,t13.2);let t17:=E2w.sub (t16.1,t16.2) (t13.1,t13.2);let t18:=E2w.sub (t13.1,t13.2) (t17.1,t17.2);let t19:=ml2 (t3.1,t3.2) (t18.1,t18.2);let t20:=ml2 (t12.1,t12.2) (w.2.2.2.1.1,w.2.2.2.1.2);let t21:=E2w.sub (t19.1,t19.2) (t20.1,t20.2);(.inr [.inl [t10.1.1,t10.1.2,t10.2.1.1,t10.2.1.2,t10.2.2.1,t10.2.2.2],.inl [w.1.1,w.1.2,w.2.1.1.1,w.2.1.1.2,w.2.1.2.1,w.2.1.2.2,t17.1,t17.2,t21.1,t21.2,t6.1,t6.2]],[(decide ((w.2.2.2.2.1,w.2.2.2.2.2)=ze2),false)])) [some false] kr (ao (decide_eq_false h) aD) O hw hb ho) O (V6 _) O
end Q6
end
section
open Go.RowKit
attribute [local simp] a6 bv aH aA aQ aY aR aK aM PLl cJ cH N1l cI cL cK bf bB a7 bu
theorem R5:PUR 223 [U64 15132376222941642752#64] (I 64):=by
 intro w hw;refine Hf func223 O hw<|λhGF=>Xp<|Asg O<|aa<|ae<|Xp<|Mv O<|Bnb true O O (λ_=>fR _ _ _) dc<|aa<|aP O<|Xp<|Mv O<|Bnr (v:=U64 3523280896#64) O O (λ_=>(cC _ _ 32#64).trans rr)<|Asg O<|aa<|Xq<|Asg O<|aa<|ae<|Xp<|Mv O<|Bnb true O O (λ_=>fR _ _ _) dc<|aa<|aP O<|Xp<|Mv O<|Bnr (v:=U64 53761#64) O O (λ_=>(cC _ _ 16#64).trans rr)<|Asg O<|aa<|Xq<|Mv O<|Bnr (v:=I 48) O O (λ_=>(aq _ _ _ (by unfold inI;decide)).trans rr)<|Asg O<|aa<|ae<|Xp<|Mv O<|Bnb true O O (λ_=>fR _ _ _) dc<|aa<|aP O<|?_
 refine Xp<|Mv O<|Bnr (v:=U64 210#64) O O (λ_=>(cC _ _ 8#64).trans rr)<|Asg O<|aa<|Xq<|Mv O<|Bnr (v:=I 56) O O (λ_=>(aq _ _ _ (by unfold inI;decide)).trans rr)<|Asg O<|aa<|Xp<|Mv O<|Mv O<|bV O O (λ_=>eJ underlying24 underlying5 _) O O<|uq (n:=8#8) O O underlying9 dc kr O O<|bV O O (λ_=>BX underlying5 underlying3 _) O O<|Bnr (v:=I 64) O O (λ_=>(aq _ _ _ (by unfold inI;decide)).trans rr)<|Asg O<|aa<|ak<|Rr<|?_
 exact aE O O (λw hw=>⟨rfl,ab hw⟩)
theorem EW:PUR 196 [] (.func (.func 222) #[] #[]):=by
 intro w hw;refine Hf func196 O hw<|λhGF=>Xp<|Asg O<|aa<|Xp<|Asg O<|aa<|ak<|Rr<|?_;exact aE O O (λw hw=>⟨rfl,ab hw⟩)
def DGb(k:Nat):Bool:=15132376222941642752#64>>>(62-k) &&& 1#64==1#64
def D63:List Bool:=(List.range 63).map DGb
theorem tU:D63.length=63:=by rw[D63,List.length_map,List.length_range]
theorem tt{k:Nat}(h:k<63):D63[k]? =some (DGb k):=by rw[D63,List.getElem?_map,List.getElem?_range h];rfl
def DGs:List (List Value):=D63.map λd=>[.bool d]
theorem oT:DGs.length=63:=by rw[DGs,List.length_map,tU]
theorem Ac{k:Nat}(h:k<63):DGs[k]? =some [.bool (DGb k)]:=by rw[DGs,List.getElem?_map,tt h];rfl
theorem GX{k:Nat}{v:List Value}(h:DGs[k]? =some v):k<63/\v=[.bool (DGb k)]:=by
 have hk:k<63:=by
  rcases Nat.lt_or_ge k 63 with hk|hk
  ·exact hk
  ·rw[List.getElem?_eq_none (by rw[oT];exact hk)]at h;cases h
 exact ⟨hk,(Option.some.inj ((Ac hk).symm.trans h)).symm⟩
theorem wL:fD prog Gt 222 [] DGs (λ_=>True):=by
 intro l J Jx hJ hJx hRd hGx hY w hj;have okJ: ∀k,BOk Gt (Bi w (λY=>J Y k)):=λk=>⟨λ_ _ _ h=>(hRd _ _ _ h.rid).1,hJ k⟩;have okX: ∀k,BOk Gt (Bi w (λY=>Jx Y k)):=λk=>⟨λ_ _ _ h=>hGx _ _ _ h.rid,hJx k⟩;refine cu (G:=Gt) func222 O O (Hp (Bi w (λY=>J Y 0)) []) (ci (Bi w _) hj (hJ 0)) (ay (okJ 0))<|Xp<|Ca O (R5)<|Bnr (v:=I 62) O O (λ_=>(aV _ _ _ (by unfold inI;decide)).trans rr)<|Asg O<|aa<|ah<|gy (ι:={k:Nat // k<=63}) (λx=>[(0,.func (.yield l) #[] #[]),(2,I (62-(x.1:Int)))]) (λx=>Bi w (λY=>J Y x.1)) (λx=>[]) (λx=>63-x.1) ⟨0,Nat.zero_le _⟩ (λ_=>okJ _) O trv trivial<|?_
 rintro ⟨k,hk⟩;dsimp only;refine ae<|Xp<|Mv O<|Bnr (v:=.bool (decide (k<63))) O O (λ_=>(dh _ _ _).trans (by rw[show decide ((62-(k:Int))>=0)=decide (k<63)from decide_eq_decide.2 om]))<|aa<|?_
 refine bC O (λhc=> ?_) (λhc=> ?_)
 ·have hk2:k<63:=by simpa using hc
  refine ap<|ae<|ah<|Xp<|Mv O<|Mv O<|Bnr (v:=U64 (15132376222941642752#64>>>(62-k))) O O (λ_=>(da _ _ _ om).trans (by rw[show (62-(k:Int)).toNat=62-k by omega]))<|Bnr (v:=U64 (15132376222941642752#64>>>(62-k) &&& 1#64)) O O (λ_=>d9 _ _ 1#64)<|Bnr (v:=.bool (DGb k)) O O (λ_=>bj _ _ 1#64)<|?_
  refine dw (hY.b (k:=k) (Ac hk2) w) (okJ _) (okX _) O O O O O ?_ ?_
  ·refine bi O (λ_=>a5 _) O O<|aa<|aC O<|ap<|Xq<|Mv O<|Bnr (v:=I (62-((k+1:Nat):Int))) O O (λ_=>(aV _ _ _ oi).trans (by rw[show 62-(k:Int)-1=62-((k+1:Nat):Int) by omega]))<|Asg O<|aa<|?_
   repeat (refine aL ?_)
   exact aB<|⟨rfl,⟨k+1,om⟩,_,by show 63-(k+1)<63-k;omega,rfl,trv,trivial⟩
  ·refine bi O (λ_=>a5 _) O O<|aa<|aP O<|ak<|Rr<|?_
   repeat (first|refine du ?_|refine ck ?_|refine dK O ?_|refine bJ ?_|refine bI ?_)
   exact dr O (λw hw=>⟨⟨_,rfl⟩,.inr ⟨_,bZ (hJx _) hw.rid⟩⟩)
 ·obtain rfl:k=63:=by simp at hc;omega
  refine aU ?_
  repeat (first|refine du ?_|refine ck ?_|refine dK O ?_|refine bJ ?_|refine bI ?_)
  refine cS O (λw hw=>⟨⟨_,rfl⟩,.inl ?_⟩);have:=bZ (hJ _) hw.rid;rw[oT];exact this
end
section
open Go.RowKit
attribute [local simp] a6 bv aH aA aQ aY aR aK aM PLl cJ cH N1l cI cL cK bf bB a7 bu J1.bx J2.bx Q6.gi
def pwD(x:W12)(k:Nat):W12:=K12.pw x (nZ (D63.take k) 1)
theorem oU{k:Nat}(h:k<63):D63.take (k+1)=D63.take k++[DGb k]:=by rw[List.take_add_one,tt h];rfl
theorem LU(x:W12){k:Nat}(h:k<63)(hd:DGb k=true):K12.mul (K12.mul (pwD x k) (pwD x k)) x=pwD x (k+1):=by
 rw[pwD,pwD,oU h,ns,hd,<-K12.pw_add,<-Nat.two_mul];rfl
theorem ME(x:W12){k:Nat}(h:k<63)(hd:DGb k=false):K12.mul (pwD x k) (pwD x k)=pwD x (k+1):=by
 rw[pwD,pwD,oU h,ns,hd,<-K12.pw_add,<-Nat.two_mul];rfl
theorem Tv:D63=L63:=by decide+kernel
theorem QS(x:W12):pwD x 63=K12.pw x UG:=by rw[pwD,List.take_of_length_le (by rw[tU];exact Nat.le_refl _),Tv,WM]
namespace Q6
end Q6
end
section
open Go.RowKit
attribute [local simp] a6 bv aH aA aQ aY aR aK aM PLl cJ cH N1l cI cL cK bf bB a7 bu J1.bx J2.bx Q6.gi
namespace Q6
def PRv(a:J1.GP×J2.GP):L6:=J1.GL a.1++J2.GL a.2
theorem ge(a:J1.GP×J2.GP):(PRv a).length=54:=by simp[PRv]
attribute [local simp] ge
theorem zv169(w:World):(zeroValue 169).run prog w=.ok (aJ (List.replicate 54 (0#64))) w:=(zeroValue169 w).trans rr
def WSf(f:Nat->J1.GP×J2.GP):Nat->List WK
 |0=>[]
 |i+1=>if (f i).1.P=none then WSf f i else if (f i).2.P=none then WSf f i else WSf f i++[wkB (J1.PX (f i).1.P,J1.PY (f i).1.P) (J2.PX (f i).2.P,J2.PY (f i).2.P)]
theorem Hb{f:Nat->J1.GP×J2.GP}{i:Nat}(h:(f i).1.P=none):WSf f (i+1)=WSf f i:=if_pos h
theorem Eu{f:Nat->J1.GP×J2.GP}{i:Nat}(h: ¬(f i).1.P=none)(k:(f i).2.P=none):WSf f (i+1)=WSf f i:=(if_neg h).trans (if_pos k)
theorem Gp{f:Nat->J1.GP×J2.GP}{i:Nat}(h: ¬(f i).1.P=none)(k: ¬(f i).2.P=none):WSf f (i+1)=WSf f i++[wkB (J1.PX (f i).1.P,J1.PY (f i).1.P) (J2.PX (f i).2.P,J2.PY (f i).2.P)]:=(if_neg h).trans (if_neg k)
theorem ub(f:Nat->J1.GP×J2.GP): ∀i,(WSf f i).length<=i
 |0=>Nat.le_refl _
 |i+1=>by
  have h:=ub f i;rw[WSf];split
  ·omega
  ·split
   ·omega
   ·rw[List.length_append];simp;omega
def wcl(l:List WK):List Value:=clv (l.flatMap ko)
theorem qo(w:WK):(ko w).length=12:=rfl
theorem oH(l m:List WK):wcl (l++m)=wcl l++wcl m:=by rw[wcl,List.flatMap_append,iX];rfl
theorem qC(w:WK)(l:List WK):wcl (w::l)=clv (ko w)++wcl l:=by rw[wcl,List.flatMap_cons,iX];rfl
theorem Ah(w:WK):wcl [w]=clv (ko w):=by rw[qC];exact List.append_nil _
theorem un: ∀l:List WK,(wcl l).length=72*l.length
 |[]=>rfl
 |w::l=>by rw[qC,List.length_append,un l,cU,qo,List.length_cons];omega
theorem OwnW.of{L L':Hl}{n:Nat}{e:TypeId}{s:Nat}{a0:Option Addr}{cap nx:Nat}{xs:List Value}(h:OwnW L n e s a0 cap nx xs)(he:lkB L' n=lkB L n):OwnW L' n e s a0 cap nx xs:=by
 rcases h with h|⟨b,c,h1,h2,h3⟩
 ·exact .inl h
 ·exact .inr ⟨b,c,h1,he.trans h2,h3⟩
theorem Rl(a b:Zp)(c d e f g:W2)(w:World):(Instr.build 240 (([0,1,2,3,4,5,6]).zip [EV a,EV b,EV2 c,EV2 d,EV2 e,EV2 f,EV2 g]).toArray).run prog w=.ok (.agg (clv [a,b,c.1,c.2,d.1,d.2,e.1,e.2,f.1,f.2,g.1,g.2]).toArray) w:=by
 obtain ⟨fields,hf,hm,_⟩:=TB.hfs 240 [(0,1),(1,1),(2,2),(4,2),(6,2),(8,2),(10,2)] kr;exact gw (TB.hsz 240 12 kr).2.2 hf hm _ (pD (ps:=[(0,[a]),(1,[b]),(2,[c.1,c.2]),(3,[d.1,d.2]),(4,[e.1,e.2]),(5,[f.1,f.2]),(6,[g.1,g.2])]) (c:=List.replicate 12 0) rr) w
theorem tiW:TI prog 240 (.agg (clv (List.replicate 12 0)).toArray) 72 576:=rJ (by rw[clv,qu];kernel_rfl)
theorem GH{own L:Hl}(ho:own=[]\/∃x,own=[(50,x)])(h:lkB L 50=lkB own 50):jP L own:=by
 rcases ho with rfl|⟨x,rfl⟩
 ·exact trivial
 ·exact ⟨h,trivial⟩
structure BgV(f:Nat->J1.GP×J2.GP)(n:Nat) where
 (k:Nat) (a0:Option Addr) (cap:Nat) (own:Hl)
 hk:k<=n
 hs:OwnW own 50 240 72 a0 cap (WSf f k).length (wcl (WSf f k))
 ho:own=[]\/∃x,own=[(50,x)]
 hz:WSf f k=[]->a0=none
theorem JE{w:World}(h:Gt w):8<=w.heap.size:=block_lt_of_cell (h.g7 0 _ rr)
theorem IR(n:Nat)(f:Nat->J1.GP×J2.GP)(b cap:Nat)(hn:n<=1000)(w:World)(hw:Gt w)(h:w.rangeAt b 0 ((RW 54 (λi=>PRv (f i)) n).map U64)):
 CLS 195 [.slice (spt b) n cap].toArray w (λe w'=>(∃bW cW capW,e=.returned (.slice (spt bW) (WSf f n).length capW)/\Grow w w'/\w.heap.size<=bW/\OwnB w' bW cW 240/\cW.take (wcl (WSf f n)).length=wcl (WSf f n)/\WSf f n≠[])\/(WSf f n=[]/\e=.returned (.slice none 0 0)/\Grow w w')):=by
 have hGF:BOk Gt (pl w):=gt_low.plain hw;have fin: ∀{L:Hl} {a0:Option Addr} {cap:Nat} {w':World},OwnW L 50 240 72 a0 cap (WSf f n).length (wcl (WSf f n))->(WSf f n=[]->a0=none)->Hp (pl w) L w'->(∃bW cW capW,Ending.returned (.slice a0 (WSf f n).length cap)=.returned (.slice (spt bW) (WSf f n).length capW)/\Grow w w'/\w.heap.size<=bW/\OwnB w' bW cW 240/\cW.take (wcl (WSf f n)).length=wcl (WSf f n)/\WSf f n≠[])\/(WSf f n=[]/\Ending.returned (.slice a0 (WSf f n).length cap)=.returned (.slice none 0 0)/\Grow w w'):=λ{L a0 cap w'} h hz hp=>by
  rcases h with ⟨rfl,_,h3,rfl⟩|⟨b,c,rfl,hl,hc,hle,hx,ht⟩
  ·exact .inr ⟨List.length_eq_zero_iff.1 h3,by rw[h3],ab hp⟩
  ·exact .inl ⟨b,c,cap,rfl,ab hp,(hp.own _ _ _ _ hl).2.elim id False.elim,(hp.own _ _ _ _ hl).1,ht,λe=>by cases hz e⟩
 refine Hd func195 O hGF<|Xp<|Asg O<|aa<|lj<|Xp<|Asg O<|aa<|ae<|mh<|ae<|Xp<|Mv O<|bc O (λ_=>aF underlying170 _ _ _ _) O O<|Mv O<|aa<|ah<|bG (ι:=BgV f n) (λx=>[(11,.slice (spt b) n cap),(12,I (n:Int)),(13,I (x.k:Int)),(3,.slice x.a0 (WSf f x.k).length x.cap)]) (λx=>x.own) (λx=>n-x.k) ⟨0,none,0,[],om,vP _ _ _ _,.inl O,λ_=>rfl⟩ hGF trv trivial<|?_;rintro ⟨i,a0,cap0,own,hi,hs,ho,hz⟩;dsimp only at hs ho hz⊢;have hwl:=ub f i;by_cases hP:(f i).1.P=none
 ·refine Xp<|Bnr O O (λ_=>av _ _ _)<|aa<|ae<|?_
  refine bC O (λhc=> ?_) (λhc=> ?_)
  ·have hi2:i<n:=by simp at hc;omega
   refine ap<|ae<|ah<|Xp<|iG (s:=54) i O O underlying170 sizeOf169 om om O O<|de (cs:=(PRv (f i)).map U64) O isAgg169 sizeOf169 sm (λw' h'=>gD (eO h (λh=>h) w' h') om (ge _)) O O<|Al 5 hGF zv169<|λb5=>Sa 5 hGF O O O Et<|aa<|Xp<|Fa 0 O underlying169 O sizeOf54<|aw 5 ((J1.GL (f i).1).map U64) O O isAgg54 sizeOf54 sm ej O O<|Ca O (J1.Fi _ hP)<|Mv O<|Ext O O<|Ext O O<|Ext O O<|Al 6 hGF zv52<|λb6=>Al 7 hGF zv52<|λb7=>Sa 6 hGF O O O bM<|Sa 7 hGF O O O bM<|Asg O<|aa<|ae<|Xp<|Mv O<|bi O (λ_=>a5 _) O O<|aa<|aP O<|aU<|Xq<|Bnr O O (λ_=>aq _ _ _ oi)<|Mv O<|aa<|?_
   repeat (first|refine aL ?_|refine ck ?_)
   exact aB<|⟨rfl,⟨i+1,a0,cap0,own,om,by rw[Hb hP];exact hs,ho,by rw[Hb hP];exact hz⟩,_,by show n-(i+1)<n-i;omega,rfl,⟨rfl,rfl,rfl,by dsimp only;rw[Hb hP];rfl,trivial⟩,GH ho O⟩
  ·obtain rfl:i=n:=by simp at hc;omega
   refine aU<|Xp<|Mv O<|Asg O<|aa<|ak<|?_
   repeat (first|refine bJ ?_|refine bI ?_|refine eY ?_)
   exact aE O O (λw' hw'=>fin hs hz hw')
 ·by_cases hQ:(f i).2.P=none
  ·refine Xp<|Bnr O O (λ_=>av _ _ _)<|aa<|ae<|?_
   refine bC O (λhc=> ?_) (λhc=> ?_)
   ·have hi2:i<n:=by simp at hc;omega
    refine ap<|ae<|ah<|Xp<|iG (s:=54) i O O underlying170 sizeOf169 om om O O<|de (cs:=(PRv (f i)).map U64) O isAgg169 sizeOf169 sm (λw' h'=>gD (eO h (λh=>h) w' h') om (ge _)) O O<|Al 5 hGF zv169<|λb5=>Sa 5 hGF O O O Et<|aa<|Xp<|Fa 0 O underlying169 O sizeOf54<|aw 5 ((J1.GL (f i).1).map U64) O O isAgg54 sizeOf54 sm ej O O<|Ca O (J1.wz _ hP)<|Mv O<|Ext O O<|Ext O O<|Ext O O<|Al 6 hGF zv52<|λb6=>Al 7 hGF zv52<|λb7=>Sa 6 hGF O O O bM<|Sa 7 hGF O O O bM<|Asg O<|aa<|ae<|Xp<|Mv O<|bi O (λ_=>a5 _) O O<|aa<|aC O<|ap<|Xp<|Fa 18 O underlying169 O sizeOf80<|aw 5 ((J2.GL (f i).2).map U64) O O isAgg80 sizeOf80 sm (jf sm) O O<|Ca O (J2.Fi _ hQ)<|Mv O<|Ext O O<|Ext O O<|Ext O O<|Al 9 hGF zv78<|λb9=>Al 10 hGF zv78<|?_;intro b10;refine Sa 9 hGF O O O aW<|Sa 10 hGF O O O aW<|Asg O<|aa<|ae<|Xp<|Mv O<|bi O (λ_=>a5 _) O O<|aa<|aP O<|aU<|Xq<|Bnr O O (λ_=>aq _ _ _ oi)<|Mv O<|aa<|?_
    repeat (first|refine aL ?_|refine ck ?_)
    exact aB<|⟨rfl,⟨i+1,a0,cap0,own,om,by rw[Eu hP hQ];exact hs,ho,by rw[Eu hP hQ];exact hz⟩,_,by show n-(i+1)<n-i;omega,rfl,⟨rfl,rfl,rfl,by dsimp only;rw[Eu hP hQ];rfl,trivial⟩,GH ho O⟩
   ·obtain rfl:i=n:=by simp at hc;omega
    refine aU<|Xp<|Mv O<|Asg O<|aa<|ak<|?_
    repeat (first|refine bJ ?_|refine bI ?_|refine eY ?_)
    exact aE O O (λw' hw'=>fin hs hz hw')
  ·refine Xp<|Bnr O O (λ_=>av _ _ _)<|aa<|ae<|?_
   refine bC O (λhc=> ?_) (λhc=> ?_)
   ·have hi2:i<n:=by simp at hc;omega
    refine ap<|ae<|ah<|Xp<|iG (s:=54) i O O underlying170 sizeOf169 om om O O<|de (cs:=(PRv (f i)).map U64) O isAgg169 sizeOf169 sm (λw' h'=>gD (eO h (λh=>h) w' h') om (ge _)) O O<|Al 5 hGF zv169<|λb5=>Sa 5 hGF O O O Et<|aa<|Xp<|Fa 0 O underlying169 O sizeOf54<|aw 5 ((J1.GL (f i).1).map U64) O O isAgg54 sizeOf54 sm ej O O<|Ca O (J1.wz _ hP)<|Mv O<|Ext O O<|Ext O O<|Ext O O<|Al 6 hGF zv52<|λb6=>Al 7 hGF zv52<|λb7=>Sa 6 hGF O O O bM<|Sa 7 hGF O O O bM<|Asg O<|aa<|ae<|Xp<|Mv O<|bi O (λ_=>a5 _) O O<|aa<|aC O<|ap<|Xp<|Fa 18 O underlying169 O sizeOf80<|aw 5 ((J2.GL (f i).2).map U64) O O isAgg80 sizeOf80 sm (jf sm) O O<|Ca O (J2.wz _ hQ)<|Mv O<|Ext O O<|Ext O O<|Ext O O<|Al 9 hGF zv78<|λb9=>Al 10 hGF zv78<|?_;intro b10;refine Sa 9 hGF O O O aW<|Sa 10 hGF O O O aW<|Asg O<|aa<|ae<|Xp<|Mv O<|bi O (λ_=>a5 _) O O<|aa<|aC O<|ap<|Xe []<|Mv O<|La 6 O O bM<|La 7 O O bM<|La 9 O O aW<|La 10 O O aW<|La 9 O O aW<|La 10 O O aW<|Ca O (sC)<|ek (ps:=[(0,.tmp 36),(1,.tmp 37),(2,.tmp 38),(3,.tmp 39),(4,.tmp 40),(5,.tmp 41),(6,.tmp 42)]) (vs:=[EV (J1.PX (f i).1.P),EV (J1.PY (f i).1.P),EV2 (J2.PX (f i).2.P),EV2 (J2.PY (f i).2.P),EV2 (J2.PX (f i).2.P),EV2 (J2.PY (f i).2.P),EV2 on2]) O (v:=.agg (clv (ko (wkB (J1.PX (f i).1.P,J1.PY (f i).1.P) (J2.PX (f i).2.P,J2.PY (f i).2.P)))).toArray) (λw=>Rl _ _ _ _ _ _ _ w) O O<|u5 44 (clv (ko (wkB (J1.PX (f i).1.P,J1.PY (f i).1.P) (J2.PX (f i).2.P,J2.PY (f i).2.P)))) hGF O (by rw[cU,qo]) dc dc underlying232 sizeOf240 (TB.hsz 240 12 kr).2.2 O O<|?_
    intro b44;refine qA (s:=72) (nx:=(WSf f i).length) (ny:=1) (xs:=wcl (WSf f i)) (ys:=clv (ko (wkB (J1.PX (f i).1.P,J1.PY (f i).1.P) (J2.PX (f i).2.P,J2.PY (f i).2.P)))) 50 hGF O O underlying232 underlying232 tiW O (OwnW.of hs O) (by rw[cU,qo]) (λw' h=>aG (n:=44) O w' h) (AP _) dc om om O O (λbA cA capA eA lA tA=> ?_)
    refine Asg O<|aa<|Xq<|Bnr O O (λ_=>aq _ _ _ oi)<|Mv O<|aa<|?_
    repeat (first|refine aL ?_|refine ck ?_)
    refine aB ?_;have eW:=Gp hP hQ;have eL:(WSf f (i+1)).length=(WSf f i).length+1:=by rw[eW,List.length_append];rfl
    have eC:wcl (WSf f (i+1))=wcl (WSf f i)++clv (ko (wkB (J1.PX (f i).1.P,J1.PY (f i).1.P) (J2.PX (f i).2.P,J2.PY (f i).2.P))):=by rw[eW,oH,Ah]
    exact ⟨rfl,⟨i+1,some ⟨bA,0,none⟩,capA,[(50,bA,cA,240)],om,.inr ⟨bA,cA,rfl,rfl,eA,om,by rw[un,Nat.mul_comm],by rw[eC];exact tA⟩,.inr ⟨_,rfl⟩,λe=>by rw[e]at eL;cases eL⟩,_,by show n-(i+1)<n-i;omega,rfl,⟨rfl,rfl,rfl,by dsimp only;rw[eL];rfl,trivial⟩,trv⟩
   ·obtain rfl:i=n:=by simp at hc;omega
    refine aU<|Xp<|Mv O<|Asg O<|aa<|ak<|?_
    repeat (first|refine bJ ?_|refine bI ?_|refine eY ?_)
    exact aE O O (λw' hw'=>fin hs hz hw')
end Q6
end
section
open Go.RowKit
attribute [local simp] a6 bv aH aA aQ aY aR aK aM PLl cJ cH N1l cI cL cK bf bB a7 bu J1.bx J2.bx Q6.gi
namespace Q6
abbrev ri(x:W12):List Value:=(((fe ((x).1.1).1++fe ((x).1.1).2)++((fe ((x).1.2.1).1++fe ((x).1.2.1).2)++(fe ((x).1.2.2).1++fe ((x).1.2.2).2)))++((fe ((x).2.1).1++fe ((x).2.1).2)++((fe ((x).2.2.1).1++fe ((x).2.2.1).2)++(fe ((x).2.2.2).1++fe ((x).2.2.2).2)))).map U64
theorem ma(x:W12):(ri x).length=72:=sm
def mkC(fs:List Nat)(o:Oper):Bool:=match o.op with
 | .call {callee:=.value (.func f), .. }=>fs.any (Nat.beq f)
 |_=>false
def SK(W:List WK)(k:Nat):List WK×W12:=rdK (D63.take k) (W,K12.one)
theorem SN(W:List WK){k:Nat}(h:k<63):SK W (k+1)=rdF (DGb k) (SK W k):=by rw[SK,oU h,Jh];rfl
theorem Fw(W:List WK){k:Nat}(h:k<63)(hd:DGb k=false):SK W (k+1)=((SK W k).1.map wDb,iM rDb (SK W k).1 (K12.mul (SK W k).2 (SK W k).2)):=by rw[SN W h,hd];rfl
theorem G0(W:List WK){k:Nat}(h:k<63)(hd:DGb k=true):SK W (k+1)=(((SK W k).1.map wDb).map wJn,iM rJn ((SK W k).1.map wDb) (iM rDb (SK W k).1 (K12.mul (SK W k).2 (SK W k).2))):=by rw[SN W h,hd];rfl
theorem lR(W:List WK): ∀k,k<=63->(SK W k).1.length=W.length
 |0,_=>rfl
 |k+1,h=>by
  have ih:=lR W k om
  cases d:DGb k with
  |false=>rw[Fw W om d,List.length_map];exact ih
  |true=>rw[G0 W om d,List.length_map,List.length_map];exact ih
theorem m8(g:WK->W6): ∀(l:List WK) (w:WK) (f:W12),iM g (l++[w]) f=K12.mul (lel (g w)) (iM g l f)
 |[],_,_=>rfl
 |v::l,w,f=>m8 g l w (K12.mul (lel (g v)) f)
theorem yT{l:List WK}{j:Nat}{w:WK}(h:l[j]? =some w):l.take (j+1)=l.take j++[w]:=by rw[List.take_add_one,h];rfl
theorem Sp{l:List WK}{j:Nat}{w:WK}(h:l[j]? =some w):l.drop j=w::l.drop (j+1):=by
 have hj:=(List.getElem?_eq_some_iff.1 h).1;rw[List.drop_eq_getElem_cons hj];exact congrArg (·::_) (List.getElem?_eq_some_iff.1 h).2
def upW(g:WK->WK)(l:List WK)(j:Nat):List WK:=(l.take j).map g++l.drop j
theorem SZ{g:WK->WK}{l:List WK}{j:Nat}{w:WK}(h:l[j]? =some w)(post:List Value):wcl (upW g l j)++post=wcl ((l.take j).map g)++(clv (ko w)++(wcl (l.drop (j+1))++post)):=by
 rw[upW,Sp h,oH,qC];simp only[List.append_assoc]
theorem TH{g:WK->WK}{l:List WK}{j:Nat}{w:WK}(h:l[j]? =some w)(post:List Value):wcl (upW g l (j+1))++post=wcl ((l.take j).map g)++(clv (ko (g w))++(wcl (l.drop (j+1))++post)):=by
 rw[upW,yT h,List.map_append,oH,oH,show [w].map g=[g w]from O,Ah];simp only[List.append_assoc]
theorem Vp{g:WK->WK}{l:List WK}{j:Nat}{w:WK}(h:l[j]? =some w):(wcl ((l.take j).map g)).length=0+72*j:=by
 have hj:=(List.getElem?_eq_some_iff.1 h).1;rw[un,List.length_map,List.length_take,Nat.min_eq_left om,Nat.zero_add]
theorem WD(g:WK->WK)(l:List WK):upW g l 0=l:=rfl
theorem Ln(g:WK->WK){l:List WK}{j:Nat}(h:l.length=j):upW g l j=l.map g:=by
 rw[upW,List.take_of_length_le om,List.drop_eq_nil_of_le om,List.append_nil]
theorem Xu{f:FuncId}{g:WK->WK}{u:WK->W6}{l:List WK}{j:Nat}{w:WK}(h:l[j]? =some w){b:Nat}{post:List Value}{W:World}(ho:OwnB W b (wcl (upW g l j)++post) 240)
 (hc: ∀{pre post:List Value},OwnB W b (pre++(clv (ko w)++post)) 240->CLS f [.pointer (some ⟨b,pre.length,none⟩)].toArray W (λe W'=>e=.returned (EV6 (u w))/\Mod b W W'/\OwnB W' b (pre++(clv (ko (g w))++post)) 240)):
 CLS f [.pointer (some ⟨b,0+72*j,none⟩)].toArray W (λe W'=>e=.returned (EV6 (u w))/\Mod b W W'/\OwnB W' b (wcl (upW g l (j+1))++post) 240):=by
 rw[SZ h]at ho;have k:=hc ho;rw[Vp h]at k;rw[TH h];exact k
theorem Qp{l:List WK}{j:Nat}{w:WK}(h:l[j]? =some w){b:Nat}{post:List Value}{W:World}(hw:Gt W)(hb:8<=b)(ho:OwnB W b (wcl (upW wDb l j)++post) 240):CLS 198 [.pointer (some ⟨b,0+72*j,none⟩)].toArray W (λe W'=>e=.returned (EV6 (rDb w))/\Mod b W W'/\OwnB W' b (wcl (upW wDb l (j+1))++post) 240):=Xu h ho (λ{_ _} k=>mdbl w hw hb k)
theorem VK{l:List WK}{j:Nat}{w:WK}(h:l[j]? =some w){b:Nat}{post:List Value}{W:World}(hz: ¬w.2.2.2.2=ze2)(hw:Gt W)(hb:8<=b)(ho:OwnB W b (wcl (upW wJn l j)++post) 240):CLS 200 [.pointer (some ⟨b,0+72*j,none⟩)].toArray W (λe W'=>e=.returned (EV6 (rJn w))/\Mod b W W'/\OwnB W' b (wcl (upW wJn l (j+1))++post) 240):=Xu h ho (λ{_ _} k=>mjn w hz hw hb k)
theorem O8(W:List WK)(n b cap:Nat)(cs:List Value)(hWl:W.length<=1000)(hZ: ∀k,k<63->DGb k=true->∀w∈(SK W k).1.map wDb,¬w.2.2.2.2=ze2)(hB: ∀w',Gt w'->w'.rangeAt b 0 cs->CLS 195 [.slice (spt b) n cap].toArray w' (λr w''=> ∃bW post capW,r=.returned (.slice (spt bW) W.length capW)/\Grow w' w''/\w'.heap.size<=bW/\OwnB w'' bW (wcl W++post) 240))(w:World)(hw:Gt w)(h:w.rangeAt b 0 cs):
 CLS 163 [.slice (spt b) n cap].toArray w (λr w'=>r=.returned (cz (dd (SK W 63).2))/\Grow w w'):=by
 have hGF:BOk Gt (pl w):=gt_low.plain hw;refine cw (G:=Gt) func163 O O (Hp (pl w) []) (ci (pl w) trivial am) (ay hGF)<|ac (E:=EE [195,198,200])<|Al 2 hGF zv211<|λb2=>aa<|lj<|ac (E:=EE [195,198,200])<|Mv O<|?_;refine dy O O ent195 O O (λw' hw'=>(hB w' (hGF.g _ _ _ hw') (eO h (λh=>h) w' hw')).mono λe' w'' h'=> ?_);obtain ⟨bW,post,capW,rfl,hg,hbD,hoD⟩:=h';have hb3:8<=bW:=Nat.le_trans (JE (hGF.g _ _ _ hw')) hbD;refine ⟨_,_,rfl,ay hGF,hw'.news am hg [(50,bW,wcl W++post,240)] ?_ bQ, ?_⟩
 ·intro n' b' c' t' hl
  rcases aI hl with ⟨_,e⟩|⟨_,hl⟩
  ·cases e;exact ⟨hbD,hoD⟩
  ·cases hl
 clear hw' hg hbD hoD;refine gX 3 hGF zeroValue232 O O<|λb3=>dS 3 hGF O O O sizeOf232 O (by first|decide|simp) O<|aa<|ac (E:=EE [195,198,200])<|Ca O (tr)<|Al 4 hGF zv211<|λb4=>Sa 4 hGF O O O gN<|aa<|ae<|mh<|ae<|ac (E:=EE [195,198,200])<|Ca O (EW)<|aa<|ah<|?_
 refine fc (λ_=>pl w) (λ_ _=>pl w) (λ_=>hGF) (λ_ _=>hGF) (λ_=>rfl) (λ_ _=>rfl) O O ent222 wL (λx hx=>by obtain ⟨k,hk,rfl⟩:=List.mem_map.1 hx;rfl) O (λk=>[(2,b2,(((fe 0++fe 0)++((fe 0++fe 0)++(fe 0++fe 0)))++((fe 0++fe 0)++((fe 0++fe 0)++(fe 0++fe 0)))).map U64,211),(3,b3,[.slice (spt bW) W.length capW],232),(4,b4,ri ((SK W k).2),211),(50,bW,wcl ((SK W k).1)++post,240)]) (λ_ _ _=>False) trv (λ_ _ _ _=>trivial) ?_ ?_ (λ_ _ _ _ _ h=>h.elim)
 ·intro k v hx R hR
  obtain ⟨hk,rfl⟩:=GX hx;refine bF (E:=EE [195,198,200])<|Asg O<|aa<|?_;refine ⟨rfl,_,rfl, ?_⟩;refine ah<|ac (E:=EE [195,198,200])<|La 4 O O gN<|Ca O (nn _)<|az 4 (hR (pl w) O hGF).2.1 O O O sizeOf211 sm sm (ba _) O<|aa<|ae<|ac (E:=EE [195,198,200])<|cV 3 O O O isAgg232 O O<|bc O (λ_=>aF underlying232 _ _ _ _) O O<|Mv O<|aa<|ah<|?_;obtain ⟨F0,hF0⟩: ∃F0,F0=K12.mul (SK W k).2 (SK W k).2:=⟨_,rfl⟩;refine bG (ι:={j:Nat // j<=W.length}) (λy=>[(2,pnt b2),(3,pnt b3),(4,pnt b4),(5,.bool (DGb k)),(16,I ((W.length:Nat):Int)),(17,I (y.1:Int))]) (λy=>[(2,b2,(((fe 0++fe 0)++((fe 0++fe 0)++(fe 0++fe 0)))++((fe 0++fe 0)++((fe 0++fe 0)++(fe 0++fe 0)))).map U64,211),(3,b3,[.slice (spt bW) W.length capW],232),(4,b4,ri (iM rDb ((SK W k).1.take y.1) F0),211),(50,bW,wcl (upW wDb (SK W k).1 y.1)++post,240)]) (λy=>W.length-y.1) ⟨0,Nat.zero_le _⟩ (hR (pl w) O hGF).2.1 trv ⟨rfl,rfl,by rw[hF0];rfl,rfl,trivial⟩ ?_
  rintro ⟨j,hj⟩;dsimp only;refine ac (E:=EE [195,198,200])<|Bnr O O (λ_=>av _ _ _)<|aa<|ae<|?_;refine bC O (λhc=> ?_) (λhc=> ?_)
  ·have hj2:j<W.length:=by simp at hc;omega
   obtain ⟨wj,hwj⟩: ∃wj,(SK W k).1[j]? =some wj:=⟨_,List.getElem?_eq_getElem (by rw[lR W k om];exact hj2)⟩
   refine ap<|ae<|ah<|ac (E:=EE [195,198,200])<|Mv O<|Asg O<|aa<|ou (E:=EE [195,198,200]) (λX=>X=Hp (R.b (pl w)) [(4,b4,ri (iM rDb ((SK W k).1.take j) F0),211)]) (mkC [198]) (rkB [24]) [0,1,2,4,3,5,6] cY O kr kr kr<|dE O O<|cV 3 O O O isAgg232 O O<|aa<|dE O O<|Mv O<|aa<|dE O O<|iG (s:=72) j O O underlying232 sizeOf240 om om O O<|aa<|kh (X:=Hp (R.b (pl w)) [(4,b4,ri (iM rDb ((SK W k).1.take j) F0),211)]) O (cP (hR (pl w) O hGF).2.1.r trv) (λ_=>rfl)<|bS 4 O O isAgg211 sizeOf211 (ma _) O O<|aa<|fE O<|?_;refine dy O O ent198 O O (λw' hw'=>(Qp hwj ((hR (pl w) O hGF).2.1.g _ _ _ hw') hb3 (hw'.own 50 _ _ _ O).1).mono λe' w'' h'=> ?_);obtain ⟨rfl,hm,ho⟩:=h';refine ⟨_,_,rfl,ay (hR (pl w) O hGF).2.1,hw'.mod (hR (pl w) O hGF).2.1.r (n:=50) O hm ho, ?_⟩;clear hw' hm ho;refine aa ?_;refine ⟨λ_ X hX _=>by subst hX;exact cP (hR (pl w) O hGF).2.1.r trv, ?_⟩
   refine dE O O<|Ca O (yS (rDb wj) (iM rDb ((SK W k).1.take j) F0))<|aa<|fE O<|az 4 (hR (pl w) O hGF).2.1 O O O sizeOf211 sm (ma _) (ba _) O<|aa<|?_;refine ⟨λh=>Bool.noConfusion h, ?_⟩;refine fI<|bF (E:=EE [195,198,200])<|Bnr O O (λ_=>aq _ _ _ oi)<|Mv O<|aa<|?_
   repeat (refine aL ?_)
   refine aB ?_;have eF:K12.mul (lel (rDb wj)) (iM rDb ((SK W k).1.take j) F0)=iM rDb ((SK W k).1.take (j+1)) F0:=by rw[yT hwj,m8]
   exact ⟨rfl,⟨j+1,om⟩,_,by show W.length-(j+1)<W.length-j;omega,rfl,trv,⟨rfl,rfl,by rw[<-eF];rfl,rfl,trivial⟩⟩
  ·obtain rfl:j=W.length:=by simp at hc;omega
   refine aU ?_;rw[Ln wDb (by rw[lR W k om]),List.take_of_length_le (Nat.le_of_eq (by rw[lR W k om])),hF0]
   clear hF0;refine ae<|ac (E:=EE [195,198,200])<|Mv O<|bi O (λ_=>a5 _) O O<|aa<|?_;refine bC O (λhc=> ?_) (λhc=> ?_)
   ·have hd:DGb k=false:=by simpa using hc
    refine aU ?_
    repeat (first|refine aL ?_|refine ck ?_)
    exact ⟨_,rfl,⟨rfl,rfl,by first|(rw[Fw W hk hd];rfl)|(rw[G0 W hk hd];rfl),by first|(rw[Fw W hk hd];rfl)|(rw[G0 W hk hd];rfl),trivial⟩⟩
   ·have hd:DGb k=true:=by simpa using hc
    refine ap<|ac (E:=EE [195,198,200])<|cV 3 O O O isAgg232 O O<|bc O (λ_=>aF underlying232 _ _ _ _) O O<|Mv O<|aa<|ah<|?_;obtain ⟨F0,hF0⟩: ∃F0,F0=iM rDb (SK W k).1 (K12.mul (SK W k).2 (SK W k).2):=⟨_,rfl⟩;refine bG (ι:={j:Nat // j<=W.length}) (λy=>[(2,pnt b2),(3,pnt b3),(4,pnt b4),(5,.bool (DGb k)),(30,I ((W.length:Nat):Int)),(31,I (y.1:Int))]) (λy=>[(2,b2,(((fe 0++fe 0)++((fe 0++fe 0)++(fe 0++fe 0)))++((fe 0++fe 0)++((fe 0++fe 0)++(fe 0++fe 0)))).map U64,211),(3,b3,[.slice (spt bW) W.length capW],232),(4,b4,ri (iM rJn (((SK W k).1.map wDb).take y.1) F0),211),(50,bW,wcl (upW wJn ((SK W k).1.map wDb) y.1)++post,240)]) (λy=>W.length-y.1) ⟨0,Nat.zero_le _⟩ (hR (pl w) O hGF).2.1 trv ⟨rfl,rfl,by rw[hF0];rfl,by rw[WD];rfl,trivial⟩ ?_
    rintro ⟨j,hj⟩;dsimp only;refine ac (E:=EE [195,198,200])<|Bnr O O (λ_=>av _ _ _)<|aa<|ae<|?_;refine bC O (λhc=> ?_) (λhc=> ?_)
    ·have hj2:j<W.length:=by simp at hc;omega
     obtain ⟨wj,hwj⟩: ∃wj,((SK W k).1.map wDb)[j]? =some wj:=⟨_,List.getElem?_eq_getElem (by rw[List.length_map,lR W k om];exact hj2)⟩
     refine ap<|ae<|ah<|ac (E:=EE [195,198,200])<|Mv O<|Asg O<|aa<|ou (E:=EE [195,198,200]) (λX=>X=Hp (R.b (pl w)) [(4,b4,ri (iM rJn (((SK W k).1.map wDb).take j) F0),211)]) (mkC [200]) (rkB [38]) [0,1,2,4,3,5,6] cY O kr kr kr<|dE O O<|cV 3 O O O isAgg232 O O<|aa<|dE O O<|Mv O<|aa<|dE O O<|iG (s:=72) j O O underlying232 sizeOf240 om om O O<|aa<|kh (X:=Hp (R.b (pl w)) [(4,b4,ri (iM rJn (((SK W k).1.map wDb).take j) F0),211)]) O (cP (hR (pl w) O hGF).2.1.r trv) (λ_=>rfl)<|bS 4 O O isAgg211 sizeOf211 (ma _) O O<|aa<|fE O<|?_;refine dy O O ent200 O O (λw' hw'=>(VK hwj (hZ k hk hd _ (List.mem_of_getElem? hwj)) ((hR (pl w) O hGF).2.1.g _ _ _ hw') hb3 (hw'.own 50 _ _ _ O).1).mono λe' w'' h'=> ?_);obtain ⟨rfl,hm,ho⟩:=h';refine ⟨_,_,rfl,ay (hR (pl w) O hGF).2.1,hw'.mod (hR (pl w) O hGF).2.1.r (n:=50) O hm ho, ?_⟩;clear hw' hm ho;refine aa ?_;refine ⟨λ_ X hX _=>by subst hX;exact cP (hR (pl w) O hGF).2.1.r trv, ?_⟩
     refine dE O O<|Ca O (yS (rJn wj) (iM rJn (((SK W k).1.map wDb).take j) F0))<|aa<|fE O<|az 4 (hR (pl w) O hGF).2.1 O O O sizeOf211 sm (ma _) (ba _) O<|aa<|?_;refine ⟨λh=>Bool.noConfusion h, ?_⟩;refine fI<|bF (E:=EE [195,198,200])<|Bnr O O (λ_=>aq _ _ _ oi)<|Mv O<|aa<|?_
     repeat (refine aL ?_)
     refine aB ?_;have eF:K12.mul (lel (rJn wj)) (iM rJn (((SK W k).1.map wDb).take j) F0)=iM rJn (((SK W k).1.map wDb).take (j+1)) F0:=by rw[yT hwj,m8]
     exact ⟨rfl,⟨j+1,om⟩,_,by show W.length-(j+1)<W.length-j;omega,rfl,trv,⟨rfl,rfl,by rw[<-eF];rfl,rfl,trivial⟩⟩
    ·obtain rfl:j=W.length:=by simp at hc;omega
     refine aU ?_;rw[Ln wJn (by rw[List.length_map,lR W k om]),List.take_of_length_le (Nat.le_of_eq (by rw[List.length_map,lR W k om])),hF0]
     clear hF0
     repeat (first|refine aL ?_|refine ck ?_)
     exact ⟨_,rfl,⟨rfl,rfl,by first|(rw[Fw W hk hd];rfl)|(rw[G0 W hk hd];rfl),by first|(rw[Fw W hk hd];rfl)|(rw[G0 W hk hd];rfl),trivial⟩⟩
 ·intro D hD
  rw[oT];refine ac (E:=EE [195,198,200])<|La 4 O O gN<|Ca O (AN _)<|Sa 2 hD O O O gN<|aa<|ak<|?_
  repeat (first|refine bJ ?_|refine bI ?_|refine eY ?_)
  exact dR (.inl O) am (au 2 O O O isAgg211 sizeOf211 sm (λw hw=>⟨rfl,ab hw⟩))
end Q6
end
section
open Go.RowKit
attribute [local simp] a6 bv aH aA aQ aY aR aK aM PLl cJ cH N1l cI cL cK bf bB a7 bu J1.bx J2.bx Q6.gi Q6.ge
namespace Q6
def LPv(f:Nat->J1.GP×J2.GP)(n:Nat):W12:=dd (SK (WSf f n) 63).2
theorem tM:Two prog 169 ⟨ "P",54,0,false, "", "",0⟩ ⟨ "Q",80,18,false, "", "",144⟩ 18 36 (List.replicate 18 (0#64)) (List.replicate 36 (0#64)):=⟨underlying169,rfl,rfl,sizeOf54,sizeOf80,λw=>(zeroValue169 w).trans rr,sm,sm⟩
end Q6
end
section
open Go.RowKit
theorem ent272:ai prog 272:=λ_ _=>kr
namespace Q6
attribute [local simp] a6 bv aH aA aQ aY aR aK aM PLl cJ cH N1l cI cL cK bf bB a7 bu gi
attribute [local simp] qh cQ
theorem zv283(w:World):(zeroValue 283).run prog w=.ok (aJ (FM (FF λ_=>ze2) 6)) w:=by
 rw[uR];exact (zeroValue283 w).trans rr
abbrev TV6(f:Nat->W2):Value:=aJ (FM (FF f) 6)
theorem Pu(f z:Nat->L6): ∀i,i<6->yc f [0,1,2,3,4,5] z i=f i:=λi hi=>oN _ _ _ _ (.inl (by
 match i,hi with
 |0,_=>decide
 |1,_=>decide
 |2,_=>decide
 |3,_=>decide
 |4,_=>decide
 |5,_=>decide))
theorem Jw(x:W12):PUR 273 [cz x] (TV6 (p12 x)):=by
 intro w hw;refine Hf func273 O hw<|λhGF=>Xp<|Bx 1 hGF O<|λb1=>Al 2 hGF zv283<|λb2=>aa<|Xp<|Fa 0 O underlying211 O sizeOf209<|Fa 0 O underlying209 O sizeOf78<|aw 1 _ O O isAgg78 sizeOf78 sm (Ep ej) O O<|Fa 36 O underlying211 O sizeOf209<|Fa 36 O underlying209 O sizeOf78<|aw 1 _ O O isAgg78 sizeOf78 sm (yb (m:=36) (o:=0) sm O ej) O O<|Fa 0 O underlying211 O sizeOf209<|Fa 12 O underlying209 O sizeOf78<|aw 1 _ O O isAgg78 sizeOf78 sm (Ep (km sm)) O O<|Fa 36 O underlying211 O sizeOf209<|Fa 48 O underlying209 O sizeOf78<|aw 1 _ O O isAgg78 sizeOf78 sm (yb (m:=36) (o:=12) sm O (km (m:=12) sm)) O O<|Fa 0 O underlying211 O sizeOf209<|Fa 24 O underlying209 O sizeOf78<|aw 1 _ O O isAgg78 sizeOf78 sm (Ep (gc (m:=12) (n:=12) sm sm O)) O O<|Fa 36 O underlying211 O sizeOf209<|Fa 60 O underlying209 O sizeOf78<|aw 1 _ O O isAgg78 sizeOf78 sm (yb (m:=36) (o:=24) sm O (gc (m:=12) (n:=12) sm sm O)) O O<|qv (s:=12) (FF (p12 x)) (FF (p12 x)) [0,1,2,3,4,5] O O O (λi _=>a7 _) underlying283 sizeOf78 zv283 (Pu _ _) O O<|Sa 2 hGF O O O Le<|aa<|ak<|Rr<|?_;exact au 2 O O O isAgg283 sizeOf283 sm (λw hw=>⟨rfl,ab hw⟩)
theorem Te(f:Nat->W2):PUR 257 [TV6 f] (cz (tq f)):=by
 intro w hw;refine Hf func257 O hw<|λhGF=>Xp<|Bx 1 hGF O<|λb1=>Al 2 hGF zv211<|λb2=>aa<|Xp<|fx (0) (12*(0)) O O underlying283 sizeOf78 om om om O O<|aw 1 ((fe (f 0).1++fe (f 0).2).map U64) O O isAgg78 sizeOf78 sm (gG _ (f 0) 6 (0) _ om O (rfl)) O O<|fx (2) (12*(2)) O O underlying283 sizeOf78 om om om O O<|aw 1 ((fe (f 2).1++fe (f 2).2).map U64) O O isAgg78 sizeOf78 sm (gG _ (f 2) 6 (2) _ om O (rfl)) O O<|fx (4) (12*(4)) O O underlying283 sizeOf78 om om om O O<|aw 1 ((fe (f 4).1++fe (f 4).2).map U64) O O isAgg78 sizeOf78 sm (gG _ (f 4) 6 (4) _ om O (rfl)) O O<|ef kT O O O sm sm sm O O<|fx (1) (12*(1)) O O underlying283 sizeOf78 om om om O O<|aw 1 ((fe (f 1).1++fe (f 1).2).map U64) O O isAgg78 sizeOf78 sm (gG _ (f 1) 6 (1) _ om O (rfl)) O O<|fx (3) (12*(3)) O O underlying283 sizeOf78 om om om O O<|aw 1 ((fe (f 3).1++fe (f 3).2).map U64) O O isAgg78 sizeOf78 sm (gG _ (f 3) 6 (3) _ om O (rfl)) O O<|fx (5) (12*(5)) O O underlying283 sizeOf78 om om om O O<|aw 1 ((fe (f 5).1++fe (f 5).2).map U64) O O isAgg78 sizeOf78 sm (gG _ (f 5) 6 (5) _ om O (rfl)) O O<|ef kT O O O sm sm sm O O<|co uc O O sm sm O O<|Sa 2 hGF O O O gN<|aa<|ak<|Rr<|?_;exact au 2 O O O isAgg211 sizeOf211 sm (λw hw=>⟨rfl,ab hw⟩)
theorem qk(x:W12)(w:World)(hw:Gt w):CLS 256 [cz x].toArray w (λe w'=> ∃b1,e=.returned (.func (.func 272) #[] #[pnt b1])/\Grow w w'/\w.heap.size<=b1/\OwnB w' b1 ((((fe (x.1.1).1++fe (x.1.1).2)++((fe (x.1.2.1).1++fe (x.1.2.1).2)++(fe (x.1.2.2).1++fe (x.1.2.2).2)))++((fe (x.2.1).1++fe (x.2.1).2)++((fe (x.2.2.1).1++fe (x.2.2.1).2)++(fe (x.2.2.2).1++fe (x.2.2.2).2)))).map U64) 211):=by
 refine Hf func256 O hw<|λhGF=>Xp<|Bx 1 hGF O<|λb1=>Asg O<|aa<|Xp<|gj O O O O<|Asg O<|aa<|ak<|Rr<|?_;exact aE O O (λw hw=>⟨b1,rfl,ab hw,(hw.own 1 b1 _ _ O).2.elim id False.elim,(hw.own 1 b1 _ _ O).1⟩)
def Cu(x:W12):List (List Value):=(List.range 6).map λ(k:Nat)=>[I (k:Int),EV2 (p12 x k)]
theorem oV(x:W12):(Cu x).length=6:=by rw[Cu,List.length_map,List.length_range]
theorem vi(x:W12)(k:Nat)(h:k<6):(Cu x)[k]? =some [I (k:Int),EV2 (p12 x k)]:=by
 rw[Cu,List.getElem?_map,List.getElem?_range h];rfl
theorem Kd(x:W12)(k:Nat)(v:List Value)(h:(Cu x)[k]? =some v):k<6/\v=[I (k:Int),EV2 (p12 x k)]:=by
 have hk:k<6:=by
  rcases Nat.lt_or_ge k 6 with hk|hk
  ·exact hk
  ·rw[List.getElem?_eq_none (by rw[oV];exact hk)]at h;cases h
 exact ⟨hk,(Option.some.inj ((vi x k hk).symm.trans h)).symm⟩
def Lv(bb:Nat)(x:W12):Cls:=λw=>w.rangeAt bb 0 ((((fe (x.1.1).1++fe (x.1.1).2)++((fe (x.1.2.1).1++fe (x.1.2.1).2)++(fe (x.1.2.2).1++fe (x.1.2.2).2)))++((fe (x.2.1).1++fe (x.2.1).2)++((fe (x.2.2.1).1++fe (x.2.2.1).2)++(fe (x.2.2.2).1++fe (x.2.2.2).2)))).map U64)
theorem PV(bb:Nat)(x:W12):fD prog Gt 272 [pnt bb] (Cu x) (Lv bb x):=by
 intro l J Jx hJ hJx hRd hGx hY w hj;have okJ: ∀k,BOk Gt (Bi w (λY=>J Y k)):=λk=>⟨λ_ _ _ h=>(hRd _ _ _ h.rid).1,hJ k⟩;have okX: ∀k,BOk Gt (Bi w (λY=>Jx Y k)):=λk=>⟨λ_ _ _ h=>hGx _ _ _ h.rid,hJx k⟩;have c1: ∀k L w',Hp (Bi w (λY=>J Y k)) L w'->Lv bb x w':=λk L w' h=>(hRd _ _ _ h.rid).2;refine cu (G:=Gt) func272 O O (Hp (Bi w (λY=>J Y 0)) []) (ci (Bi w _) hj (hJ 0)) (ay (okJ 0))<|Xp<|de O isAgg211 sizeOf211 sm (λw h=>c1 _ _ w h) O O<|Ca O (Jw _)<|Mv O<|aa<|ah<|gy (ι:={i:Nat // i<=6}) (λy=>[(0,.func (.yield l) #[] #[]),(1,pnt bb),(6,TV6 (p12 x)),(7,I (y.1:Int))]) (λy=>Bi w (λY=>J Y y.1)) (λy=>[]) (λy=>6-y.1) ⟨0,Nat.zero_le _⟩ (λ_=>okJ _) O trv trivial<|?_;rintro ⟨i,hi⟩;dsimp only;refine Xp<|Bnr O O (λ_=>av _ _ _)<|aa<|ae<|?_;refine bC O (λhc=> ?_) (λhc=> ?_)
 ·have hi2:i<6:=by simp at hc;omega
  refine ap<|ae<|ah<|Xp<|Mv O<|zG (FF (p12 x)) (i) O O underlying283 sizeOf78 isAgg78 om om (a7 _) O O<|Al 4 (okJ _) zv78<|λb4=>Asg O<|Sa 4 (okJ _) O O O aW<|aa<|Xp<|Mv O<|Mv O<|La 4 O O aW<|?_;refine dw (hY.b (k:=i) (vi x i om) w) (okJ _) (okX _) O O O O O ?_ ?_
  ·refine bi O (λ_=>a5 _) O O<|aa<|aC O<|ap<|Xq<|Bnr O O (λ_=>aq _ _ _ oi)<|Mv O<|aa<|?_
   repeat (refine aL ?_)
   exact aB<|⟨rfl,⟨i+1,om⟩,_,by show 6-(i+1)<6-i;omega,rfl,trv,trivial⟩
  ·refine bi O (λ_=>a5 _) O O<|aa<|aP O<|ak<|Rr<|?_
   repeat (first|refine du ?_|refine ck ?_|refine dK O ?_|refine bJ ?_|refine bI ?_)
   exact dr O (λw hw=>⟨⟨_,rfl⟩,.inr ⟨_,bZ (hJx _) hw.rid⟩⟩)
 ·obtain rfl:i=6:=by simp at hc;omega
  refine aU ?_
  repeat (first|refine du ?_|refine ck ?_|refine dK O ?_|refine bJ ?_|refine bI ?_)
  refine cS O (λw hw=>⟨⟨_,rfl⟩,.inl ?_⟩);have:=bZ (hJ _) hw.rid;rw[oV];exact this
end Q6
end
def SXB:L8:=[25#8,4#8,211#8,191#8,2#8,187#8,6#8,103#8,194#8,49#8,190#8,180#8,32#8,44#8,13#8,31#8,15#8,214#8,3#8,253#8,60#8,189#8,95#8,79#8,123#8,36#8,67#8,215#8,132#8,186#8,185#8,196#8,246#8,126#8,165#8,61#8,99#8,231#8,129#8,61#8,141#8,7#8,117#8,237#8,146#8,35#8,95#8,184#8]
def SRn:Nat:=3850754370037169011952147076051364057158807420970682438676050522613628423219637725072182697113062777891589506424760
theorem Kh:SXB.length=48:=rfl
theorem LP:BN SXB 48=SRn:=by decide+kernel
theorem O7:SRn<PP:=by decide+kernel
theorem NH:FV SXB=zp SRn:=by rw[FV,if_pos ⟨Kh,by rw[LP];exact O7⟩,LP]
def SR:Zp:=zp SRn
theorem Hy:CNn+SRn=PP:=by decide+kernel
theorem SR_a: -(zp CNn)=SR:=uw (by rw[SR,<-ga,Hy,mI])
theorem SR_b: -SR=zp CNn:=uw (by rw[SR,<-ga,Nat.add_comm,Hy,mI])
theorem UY:((SR,-SR):W2)=GA:=by rw[Gu,SR_a,SR_b]
theorem Wf(n:Int):(n.tmod 12+12).tmod 12=(((n % 12).toNat:Nat):Int):=by
 have h:n.tmod 12=n % 12\/n.tmod 12=n % 12-12:=by
  rw[Int.tmod_eq_emod];split
  ·left;omega
  ·right;rfl
 have e:(n.tmod 12+12).tmod 12=(n.tmod 12+12) % 12:=by rw[Int.tmod_eq_emod_of_nonneg om]
 rw[e];omega
theorem G7(n:Int):inI (n.tmod 12+12):=by
 have h:n.tmod 12=n % 12\/n.tmod 12=n % 12-12:=by
  rw[Int.tmod_eq_emod];split
  ·left;omega
  ·right;rfl
 unfold inI;omega
section
open Go.RowKit
namespace Q6
attribute [local simp] a6 bv aH aA aQ aY aR aK aM PLl cJ cH N1l cI cL cK bf bB a7 bu gi
attribute [local simp] qh cQ
theorem v3(e:Option Addr)(cap:Nat)(w:World)(hw:Gt w)(hby:BytesAt w e SXB):
 CLS 74 [.slice e SXB.length cap].toArray w (λr w'=>r=.returned (.tuple #[EV SR,.bool (FO SXB)])/\Grow w w'):=by
 have h:=ec e cap SXB w hw hby;rw[NH]at h;exact h
theorem VG{m:Nat}(h:m % 2=1)(y:W2)(k:Nat):frq y m k=ml2 (cj2 y) (pw2 (GV m) k):=by rw[frq,cjn,if_pos h]
theorem XA{m:Nat}(h: ¬m % 2=1)(y:W2)(k:Nat):frq y m k=ml2 y (pw2 (GV m) k):=by rw[frq,cjn,if_neg h]
theorem GV_s(i:Nat):GV (i+1)=ml2 (cj2 (GV i)) ((SR,-SR):W2):=by rw[UY];rfl
theorem Dp(n:Nat)(hn:n<=1000):PUR 255 [I (n:Int)] (EV2 (GV n)):=by
 intro w hw;refine Hf func255 O hw<|λhGF=>ac (E:=EE [1000022])<|Al 2 hGF zv78<|λb2=>aa<|ac (E:=EE [1000022])<|dV 8 SXB hGF O O O dc dc underlying22 sizeOf5 zeroValue5 O O<|λb8=>lV 8 O hGF O O underlying22 underlying5 O O<|Cc O ent74 (λw' hC hG=>v3 _ _ w' hG (BytesAt.range (hC.own 8 b8 _ _ O).1.range))<|Mv O<|Ext O O<|Ext O O<|Al 3 hGF zv52<|λb3=>Sa 3 hGF O O O bM<|Asg O<|aa<|fG (E:=EE [1000022,2999999]) [0,1,2,3] [⟨4,5,78,(fe 0++fe 0).map U64⟩] [5] cY O kr kr kr kr kr kr dc (by intro x hx;simp only[List.mem_cons,List.not_mem_nil,or_false]at hx;subst hx;exact bD O zv78 O)<|La 3 O O bM<|La 3 O O bM<|Ca O (dY _)<|co fV O O sm sm O O<|aa<|?_
 refine ⟨_,_,rfl,hGF,by intro x hx;simp only[List.mem_cons,List.not_mem_nil,or_false]at hx;subst hx;rfl,by intro x hx;simp only[List.mem_cons,List.not_mem_nil,or_false]at hx;subst hx;rfl,λadr=> ?_⟩
 refine Sa 5 hGF O O O aW<|aa<|ac (E:=EE [1000022])<|Ca O (sC)<|Al 6 hGF zv78<|λb6=>Sa 6 hGF O O O aW<|aa<|ae<|ac (E:=EE [1000022])<|Mv O<|Mv O<|aa<|ah<|bG (ι:={i:Nat // i<=n}) (λy=>[(0,I (n:Int)),(2,pnt b2),(3,pnt b3),(5,.pointer (some ⟨(adr 5),0,none⟩)),(6,pnt b6),(18,I (n:Int)),(19,I (y.1:Int))]) (λy=>[(2,b2,(fe 0++fe 0).map U64,78),(3,b3,(fe SR).map U64,52),(5,adr 5,(fe SR++fe (-SR)).map U64,78),(6,b6,(fe (GV y.1).1++fe (GV y.1).2).map U64,78)]) (λy=>n-y.1) ⟨0,Nat.zero_le _⟩ hGF trv trv<|?_;rintro ⟨i,hi⟩;dsimp only;refine ac (E:=EE [1000022])<|Bnr O O (λ_=>av _ _ _)<|aa<|ae<|?_;refine bC O (λhc=> ?_) (λhc=> ?_)
 ·simp only[decide_eq_true_eq]at hc
  refine ap<|ae<|ah<|Xe [1000022]<|La 6 O O aW<|Ca O (mZ _)<|La 5 O O aW<|Ca O (dG (cj2 (GV i)) ((SR,-SR):W2))<|Sa 6 hGF O O O aW<|aa<|bF (E:=EE [1000022])<|Bnr O O (λ_=>aq _ _ _ oi)<|Mv O<|aa<|?_
  repeat (refine aL ?_)
  exact aB<|⟨rfl,⟨i+1,om⟩,_,by show n-(i+1)<n-i;omega,rfl,trv,⟨rfl,rfl,rfl,by rw[GV_s i];rfl,trivial⟩⟩
 ·obtain rfl:n=i:=by simp at hc;omega
  refine aU<|ac (E:=EE [1000022])<|La 6 O O aW<|Sa 2 hGF O O O aW<|aa<|ak<|Rr<|?_;exact au 2 O O O isAgg78 sizeOf78 sm (λw hw=>⟨rfl,ab hw⟩)
theorem zg(x:W12)(n:Int):PUR 217 [cz x,I n] (cz (o3 x (n % 12).toNat)):=by
 intro w hw;have hGF:BOk Gt (pl w):=gt_low.plain hw;obtain ⟨m,hm⟩: ∃m:Nat,(n % 12).toNat=m:=⟨_,rfl⟩;have hm6:m<12:=om;rw[hm,AC];refine cw (G:=Gt) func217 O O (Hp (pl w) []) (ci (pl w) trivial am) (ay hGF)<|ac (E:=EE [256])<|Bx 2 hGF O<|λb2=>iN 3 hGF O O O<|λb3=>Al 4 hGF zv211<|λb4=>aa<|ac (E:=EE [256])<|cV 3 O O O isAgg3 O O<|Bnr (v:=I (n.tmod 12)) O O (λ_=>cX _ _ _ dc)<|Bnr (v:=I (n.tmod 12+12)) O O (λ_=>aq _ _ _ (G7 n))<|Bnr (v:=I (m:Int)) O O (λ_=>(cX _ _ _ dc).trans (by rw[Wf,hm]))<|dS 3 hGF O O O sizeOf3 O (by show 0<1;decide) O<|aa<|ac (E:=EE [256])<|cV 3 O O O isAgg3 O O<|Ca O (Dp m om)<|Ca O (sC)<|Al 5 hGF zv78<|λb5=>Al 6 hGF zv78<|λb6=>Sa 5 hGF O O O aW<|Sa 6 hGF O O O aW<|aa<|ac (E:=EE [256])<|Al 7 hGF zv283<|λb7=>aa<|ae<|ac (E:=EE [256])<|La 2 O O gN<|?_
 refine dy O O ent256 O O (λw' hw'=>(qk x w' (hGF.g _ _ _ hw')).mono λe' w'' h=> ?_);obtain ⟨c1,rfl,hg,h1,ho⟩:=h;refine ⟨_,_,rfl,ay hGF,hw'.news am hg [(33,c1,(((fe (x.1.1).1++fe (x.1.1).2)++((fe (x.1.2.1).1++fe (x.1.2.1).2)++(fe (x.1.2.2).1++fe (x.1.2.2).2)))++((fe (x.2.1).1++fe (x.2.1).2)++((fe (x.2.2.1).1++fe (x.2.2.1).2)++(fe (x.2.2.2).1++fe (x.2.2.2).2)))).map U64,211)] ?_ bQ, ?_⟩
 ·intro n' b' c' t' hl
  rcases aI hl with ⟨_,e⟩|⟨_,hl⟩
  ·cases e;exact ⟨h1,ho⟩
  ·cases hl
 clear hw' hg h1 ho;refine aa<|ah<|?_;refine fc (λ_=>pl w) (λ_ _=>pl w) (λ_=>hGF) (λ_ _=>hGF) (λ_=>rfl) (λ_ _=>rfl) O O ent272 (PV c1 x) (λv hv=>by obtain ⟨k,hk,rfl⟩:=List.mem_map.1 hv;rfl) O (λk=>[(2,b2,(((fe (x.1.1).1++fe (x.1.1).2)++((fe (x.1.2.1).1++fe (x.1.2.1).2)++(fe (x.1.2.2).1++fe (x.1.2.2).2)))++((fe (x.2.1).1++fe (x.2.1).2)++((fe (x.2.2.1).1++fe (x.2.2.1).2)++(fe (x.2.2.2).1++fe (x.2.2.2).2)))).map U64,211),(3,b3,[I (m:Int)],3),(4,b4,(((fe 0++fe 0)++((fe 0++fe 0)++(fe 0++fe 0)))++((fe 0++fe 0)++((fe 0++fe 0)++(fe 0++fe 0)))).map U64,211),(5,b5,(fe (GV m).1++fe (GV m).2).map U64,78),(6,b6,(fe (pw2 (GV m) k).1++fe (pw2 (GV m) k).2).map U64,78),(7,b7,(FM (FF (λj=>if j<k then frq (p12 x j) m j else ze2)) 6).map U64,283),(33,c1,(((fe (x.1.1).1++fe (x.1.1).2)++((fe (x.1.2.1).1++fe (x.1.2.1).2)++(fe (x.1.2.2).1++fe (x.1.2.2).2)))++((fe (x.2.1).1++fe (x.2.1).2)++((fe (x.2.2.1).1++fe (x.2.2.1).2)++(fe (x.2.2.2).1++fe (x.2.2.2).2)))).map U64,211)]) (λ_ _ _=>False) ⟨rfl,rfl,rfl,rfl,rfl,congrArg (λl=>some (b7,l,_)) (congrArg (List.map U64) (wy λj _=>(if_neg (Nat.not_lt_zero j)).symm)),rfl,trivial⟩ (λk _ w' h=>aG (n:=33) O w' h) ?_ ?_ (λ_ _ _ _ _ h=>h.elim)
 ·intro k v hx R hR
  obtain ⟨hk,rfl⟩:=Kd x k v hx;refine ac (E:=EE [256])<|Asg O<|aa<|bF (E:=EE [256])<|dN 9 (hR (pl w) O hGF).1 zv78 O O<|λb9=>az 9 (hR (pl w) O hGF).1 O O O sizeOf78 sm sm (ba _) O<|aa<|?_;refine ⟨rfl,_,rfl, ?_⟩;refine ah<|ae<|ac (E:=EE [256])<|cV 3 O O O isAgg3 O O<|Bnr (v:=I ((m % 2:Nat):Int)) O O (λ_=>cX _ _ _ dc)<|Bnr O O (λ_=>dO _ _ _)<|aa<|?_;refine bC O (λhc=> ?_) (λhc=> ?_)
  ·have hp:m % 2=1:=by simp at hc;omega
   refine bF (E:=EE [256])<|La 9 O O aW<|Ca O (mZ _)<|az 9 (hR (pl w) O hGF).2.1 O O O sizeOf78 sm sm (ba _) O<|aa<|ac (E:=EE [256])<|Mv O<|La 9 O O aW<|La 6 O O aW<|Ca O (dG _ _)<|fx (k) (12*(k)) O O underlying283 sizeOf78 om om om O O<|lh 7 ((FM (FF (λj=>if j<k+1 then frq (p12 x j) m j else ze2)) 6).map U64) (hR (pl w) O hGF).2.1 O O O sizeOf78 sm (ba _) (by simp;omega) (tw _ _ (ml2 (cj2 (p12 x k)) (pw2 (GV m) k)) 6 (k) _ om O (λj _=>by rw[<-VG hp];exact xU (λj=>frq (p12 x j) m j) (λ_=>ze2) k j)) O<|aa<|bF (E:=EE [256])<|La 6 O O aW<|La 5 O O aW<|Ca O (dG _ _)<|az 6 (hR (pl w) O hGF).2.1 O O O sizeOf78 sm sm (ba _) O<|aa<|?_
   repeat (refine aL ?_)
   exact ⟨_,rfl,trv⟩
  ·have hp: ¬m % 2=1:=by simp at hc;omega
   refine ap<|ac (E:=EE [256])<|Mv O<|La 9 O O aW<|La 6 O O aW<|Ca O (dG _ _)<|fx (k) (12*(k)) O O underlying283 sizeOf78 om om om O O<|lh 7 ((FM (FF (λj=>if j<k+1 then frq (p12 x j) m j else ze2)) 6).map U64) (hR (pl w) O hGF).2.1 O O O sizeOf78 sm (ba _) (by simp;omega) (tw _ _ (ml2 (p12 x k) (pw2 (GV m) k)) 6 (k) _ om O (λj _=>by rw[<-XA hp];exact xU (λj=>frq (p12 x j) m j) (λ_=>ze2) k j)) O<|aa<|bF (E:=EE [256])<|La 6 O O aW<|La 5 O O aW<|Ca O (dG _ _)<|az 6 (hR (pl w) O hGF).2.1 O O O sizeOf78 sm sm (ba _) O<|aa<|?_
   repeat (refine aL ?_)
   exact ⟨_,rfl,trv⟩
 ·intro D hD
  rw[oV];refine ac (E:=EE [256])<|La 7 O O Le<|Ca O (Te _)<|Sa 4 hD O O O gN<|aa<|ak<|Rr<|?_;exact dR (.inl O) am (au 4 O O O isAgg211 sizeOf211 sm (λw hw=>⟨e12 O O,ab hw⟩))
end Q6
end
section
open Go.RowKit
attribute [local simp] a6 bv aH aA aQ aY aR aK aM PLl cJ cH N1l cI cL cK bf bB a7 bu J1.bx J2.bx Q6.gi Q6.ge
theorem ent219:ai prog 219:=λ_ _=>kr
theorem ent216:ai prog 216:=λ_ _=>kr
theorem ent194:ai prog 194:=λ_ _=>kr
theorem ent193:ai prog 193:=λ_ _=>kr
theorem ent111:ai prog 111:=λ_ _=>kr
namespace Q6
def pwu(u:Nat)(x:W12):W12:=K12.pw x u
theorem T8(x:W12):PUR 219 [cz x] (cz (pwu UG x)):=by
 intro w hw;have hGF:BOk Gt (pl w):=gt_low.plain hw;refine cw (G:=Gt) func219 O O (Hp (pl w) []) (ci (pl w) trivial am) (ay hGF)<|Xp<|Bx 1 hGF O<|λb1=>Al 2 hGF zv211<|λb2=>aa<|Xp<|La 1 O O gN<|Al 3 hGF zv211<|λb3=>Sa 3 hGF O O O gN<|aa<|ae<|Xp<|Ca O (EW)<|aa<|ah<|?_;refine fc (λ_=>pl w) (λ_ _=>pl w) (λ_=>hGF) (λ_ _=>hGF) (λ_=>rfl) (λ_ _=>rfl) O O ent222 wL (λx hx=>by obtain ⟨k,hk,rfl⟩:=List.mem_map.1 hx;rfl) O (λk=>[(1,b1,ri x,211),(2,b2,(((fe 0++fe 0)++((fe 0++fe 0)++(fe 0++fe 0)))++((fe 0++fe 0)++((fe 0++fe 0)++(fe 0++fe 0)))).map U64,211),(3,b3,ri (pwD x k),211)]) (λ_ _ _=>False) ⟨rfl,rfl,by rw[show pwD x 0=x from K12.pw_one x];rfl,trivial⟩ (λ_ _ _ _=>trivial) ?_ ?_ (λ_ _ _ _ _ h=>h.elim)
 ·intro k v hx R hR
  obtain ⟨hk,rfl⟩:=GX hx;refine Xq<|Asg O<|aa<|?_;refine ⟨rfl,_,rfl, ?_⟩;refine ah<|Xp<|La 3 O O gN<|Ca O (nn _)<|az 3 (hR (pl w) O hGF).2.1 O O O sizeOf211 sm sm (ba _) O<|aa<|Xp<|Mv O<|aa<|?_;refine bC O (λhc=> ?_) (λhc=> ?_)
  ·have hd:DGb k=true:=by simpa using hc
   refine Xq<|La 3 O O gN<|La 1 O O gN<|Ca O (Du _ _)<|az 3 (hR (pl w) O hGF).2.1 O O O sizeOf211 sm sm (ba _) O<|aa<|?_
   repeat (first|refine aL ?_|refine ck ?_)
   exact ⟨_,rfl,⟨rfl,rfl,by first|(rw[<-LU x hk hd];rfl)|(rw[<-ME x hk hd];rfl),trivial⟩⟩
  ·have hd:DGb k=false:=by simpa using hc
   refine ap ?_
   repeat (first|refine aL ?_|refine ck ?_)
   exact ⟨_,rfl,⟨rfl,rfl,by first|(rw[<-LU x hk hd];rfl)|(rw[<-ME x hk hd];rfl),trivial⟩⟩
 ·intro D hD
  rw[oT];refine Xp<|La 3 O O gN<|Sa 2 hD O O O gN<|aa<|ak<|Rr<|?_;exact dR (.inl O) am (au 2 O O O isAgg211 sizeOf211 sm (λw hw=>⟨by rw[pwu,<-QS],ab hw⟩))
abbrev HF(f:W12->W12):Prop:= ∀x,PUR 219 [cz x] (cz (f x))
def agI(m:Nat):Ag Unit where
 of:=λv=>match v with
  | .inr (.inr (.inl (.int .i64 (.ofNat n))))=>bif Nat.beq n m then some ()else none
  |_=>none
 dn:=λ_=>I (m:Int)
 ok:=λv x r h=>by
  split at h
  ·rename_i n
   obtain ⟨h1,h⟩:=fv h;show Value.int .i64 (Int.ofNat n)=I (m:Int);rw[Nat.eq_of_beq_eq_true h1];rfl
  ·cases h
theorem N4(x:W12):PUR 217 [cz x,I 1] (cz (d8 x)):=zg x 1
theorem RL(x:W12):PUR 217 [cz x,I 2] (cz (d8 (d8 x))):=zg x 2
theorem wfr{f:Nat}{g:W12->W12}(m:Nat)(en:ai prog f)(h: ∀a,PUR f [cz a,I (m:Int)] (cz (g a))):Snd prog Gt f (c2 q12.ag (agI m) q12.rd (λa _=>g a)):=gv q12.ag (agI m) q12.rd en (λa _=>bT (l2 (V12 _).symm O) (V12 _).symm (h a))
def S7{f:W12->W12}(hf:HF f):Tb prog Gt:=TO224.add (eh (g:=f) ent219 hf)
def Vf{f:W12->W12}(hf:HF f):Tb prog Gt:=(S7 hf).add (wfr (g:=d8) 1 ent217 N4)
def MM{f:W12->W12}(hf:HF f):Tb prog Gt:=(Vf hf).add (wfr (g:=λx=>d8 (d8 x)) 2 ent217 RL)
theorem Ry{α β:Type}(p:α×β):(p.1,p.2)=p:=by cases p;rfl
def pva(f:W12->W12)(x:W12):W12:=K12.mul (f x) x
def pez(x:W12):W12:=fi2 (fi1 x)
def ph1(f:W12->W12)(x:W12):W12:=K12.mul (d8 x) (dd (f x))
def ph2(f:W12->W12)(x:W12):W12:=K12.mul (K12.mul (f (f x)) (d8 (d8 x))) (dd x)
def phd(f:W12->W12)(x:W12):W12:=K12.mul (K12.mul (ph2 f (ph1 f (pva f (pva f x)))) (K12.mul x x)) x
theorem QD{p6:Nat}(h6: ∀x,dd x=K12.pw x p6)(x:W12)(u:Nat):dd (K12.pw x u)=K12.pw (dd x) u:=by rw[h6,h6,<-K12.pw_mul,<-K12.pw_mul,Nat.mul_comm]
theorem LF(x:W12)(u:Nat):dd (K12.pw x u)=K12.pw (dd x) u:=QD (λx=>(P7 x).symm) x u
theorem Ei(u:Nat)(x:W12):fi3 u x=dd (pva (pwu u) x):=by rw[fi3,tnd,<-wu,pva,pwu]
theorem Rc(u:Nat)(x:W12):pva (pwu u) (dd x)=dd (pva (pwu u) x):=by rw[pva,pva,pwu,pwu,<-LF,<-wu]
theorem VR(u:Nat)(x:W12):pva (pwu u) (pva (pwu u) x)=fi3 u (fi3 u x):=by rw[Ei,Ei,Rc,AT]
theorem QJ(u:Nat)(x:W12):ph1 (pwu u) x=fi4 u x:=by rw[ph1,fi4,tnd,pwu];exact K12.mul_comm _ _
theorem QL(u:Nat)(x:W12):ph2 (pwu u) x=fi5 u x:=by rw[ph2,fi5,tnd,tnd,<-LF,AT,pwu,pwu]
theorem NN(u:Nat)(x:W12):phd (pwu u) x=fi6 u x:=by
 rw[phd,VR,QJ,QL];show K12.mul (K12.mul _ (K12.mul _ _)) _=K12.mul (K12.mul (K12.mul _ _) _) _;rw[<-K12.mul_assoc]
theorem Rw(u:Nat)(x:W12):xm u x=phd (pwu u) (pez x):=by rw[xm,NN,pez]
def iF(f:W12->W12)(x:W12):W12:=
 let t0:=f x
 let t1:=K12.mul (((t0.1.1.1,t0.1.1.2),(t0.1.2.1.1,t0.1.2.1.2),(t0.1.2.2.1,t0.1.2.2.2)),((t0.2.1.1,t0.2.1.2),(t0.2.2.1.1,t0.2.2.1.2),(t0.2.2.2.1,t0.2.2.2.2))) x
 t1
theorem Er(f:W12->W12)(x:W12):iF f x=pva f x:=by
 unfold iF;simp only[Ry];rfl
theorem Up{f:W12->W12}(hf:HF f)(x:W12):PUR 216 [cz x] (cz (iF f x)):=(bT (l1 (V12 _)) (V12 _) (pE (MM hf) func216 [.inl [x.1.1.1,x.1.1.2,x.1.2.1.1,x.1.2.1.2,x.1.2.2.1,x.1.2.2.2,x.2.1.1,x.2.1.2,x.2.2.1.1,x.2.2.1.2,x.2.2.2.1,x.2.2.2.2]] (.inl (.inl [(iF f x).1.1.1,(iF f x).1.1.2,(iF f x).1.2.1.1,(iF f x).1.2.1.2,(iF f x).1.2.2.1,(iF f x).1.2.2.2,(iF f x).2.1.1,(iF f x).2.1.2,(iF f x).2.2.1.1,(iF f x).2.2.1.2,(iF f x).2.2.2.1,(iF f x).2.2.2.2])) (let t0:=f x;let t1:=K12.mul (((t0.1.1.1,t0.1.1.2),(t0.1.2.1.1,t0.1.2.1.2),(t0.1.2.2.1,t0.1.2.2.2)),((t0.2.1.1,t0.2.1.2),(t0.2.2.1.1,t0.2.2.1.2),(t0.2.2.2.1,t0.2.2.2.2))) x;(.inl (.inl [t1.1.1.1,t1.1.1.2,t1.1.2.1.1,t1.1.2.1.2,t1.1.2.2.1,t1.1.2.2.2,t1.2.1.1,t1.2.1.2,t1.2.2.1.1,t1.2.2.1.2,t1.2.2.2.1,t1.2.2.2.2]),[])) [] kr aD kr))
theorem ppva{f:W12->W12}(hf:HF f)(x:W12):PUR 216 [cz x] (cz (pva f x)):=by rw[<-Er];exact Up hf x
def LC{f:W12->W12}(hf:HF f):Tb prog Gt:=(MM hf).add (eh (g:=pva f) ent216 (ppva hf))
def iQ(x:W12):W12:=
 let t0:=dd x
 let t1:=BK x
 let t2:=K12.mul (((t0.1.1.1,t0.1.1.2),(t0.1.2.1.1,t0.1.2.1.2),(t0.1.2.2.1,t0.1.2.2.2)),((t0.2.1.1,t0.2.1.2),(t0.2.2.1.1,t0.2.2.1.2),(t0.2.2.2.1,t0.2.2.2.2))) (((t1.1.1.1,t1.1.1.2),(t1.1.2.1.1,t1.1.2.1.2),(t1.1.2.2.1,t1.1.2.2.2)),((t1.2.1.1,t1.2.1.2),(t1.2.2.1.1,t1.2.2.1.2),(t1.2.2.2.1,t1.2.2.2.2)))
 let t3:=d8 (d8 (((t2.1.1.1,t2.1.1.2),(t2.1.2.1.1,t2.1.2.1.2),(t2.1.2.2.1,t2.1.2.2.2)),((t2.2.1.1,t2.2.1.2),(t2.2.2.1.1,t2.2.2.1.2),(t2.2.2.2.1,t2.2.2.2.2))))
 let t4:=K12.mul (((t3.1.1.1,t3.1.1.2),(t3.1.2.1.1,t3.1.2.1.2),(t3.1.2.2.1,t3.1.2.2.2)),((t3.2.1.1,t3.2.1.2),(t3.2.2.1.1,t3.2.2.1.2),(t3.2.2.2.1,t3.2.2.2.2))) (((t2.1.1.1,t2.1.1.2),(t2.1.2.1.1,t2.1.2.1.2),(t2.1.2.2.1,t2.1.2.2.2)),((t2.2.1.1,t2.2.1.2),(t2.2.2.1.1,t2.2.2.1.2),(t2.2.2.2.1,t2.2.2.2.2)))
 t4
theorem DM(x:W12):iQ x=pez x:=by
 unfold iQ;simp only[Ry];rfl
theorem VS{f:W12->W12}(hf:HF f)(x:W12):PUR 194 [cz x] (cz (iQ x)):=(bT (l1 (V12 _)) (V12 _) (pE (LC hf) func194 [.inl [x.1.1.1,x.1.1.2,x.1.2.1.1,x.1.2.1.2,x.1.2.2.1,x.1.2.2.2,x.2.1.1,x.2.1.2,x.2.2.1.1,x.2.2.1.2,x.2.2.2.1,x.2.2.2.2]] (.inl (.inl [(iQ x).1.1.1,(iQ x).1.1.2,(iQ x).1.2.1.1,(iQ x).1.2.1.2,(iQ x).1.2.2.1,(iQ x).1.2.2.2,(iQ x).2.1.1,(iQ x).2.1.2,(iQ x).2.2.1.1,(iQ x).2.2.1.2,(iQ x).2.2.2.1,(iQ x).2.2.2.2])) (let t0:=dd x;let t1:=BK x;let t2:=K12.mul (((t0.1.1.1,t0.1.1.2),(t0.1.2.1.1,t0.1.2.1.2),(t0.1.2.2.1,t0.1.2.2.2)),((t0.2.1.1,t0.2.1.2),(t0.2.2.1.1,t0.2.2.1.2),(t0.2.2.2.1,t0.2.2.2.2))) (((t1.1.1.1,t1.1.1.2),(t1.1.2.1.1,t1.1.2.1.2),(t1.1.2.2.1,t1.1.2.2.2)),((t1.2.1.1,t1.2.1.2),(t1.2.2.1.1,t1.2.2.1.2),(t1.2.2.2.1,t1.2.2.2.2)));let t3:=d8 (d8 (((t2.1.1.1,t2.1.1.2),(t2.1.2.1.1,t2.1.2.1.2),(t2.1.2.2.1,t2.1.2.2.2)),((t2.2.1.1,t2.2.1.2),(t2.2.2.1.1,t2.2.2.1.2),(t2.2.2.2.1,t2.2.2.2.2))));let t4:=K12.mul (((t3.1.1.1,t3.1.1.2),(t3.1.2.1.1,t3.1.2.1.2),(t3.1.2.2.1,t3.1.2.2.2)),((t3.2.1.1,t3.2.1.2),(t3.2.2.1.1,t3.2.2.1.2),(t3.2.2.2.1,t3.2.2.2.2))) (((t2.1.1.1,t2.1.1.2),(t2.1.2.1.1,t2.1.2.1.2),(t2.1.2.2.1,t2.1.2.2.2)),((t2.2.1.1,t2.2.1.2),(t2.2.2.1.1,t2.2.2.1.2),(t2.2.2.2.1,t2.2.2.2.2)));(.inl (.inl [t4.1.1.1,t4.1.1.2,t4.1.2.1.1,t4.1.2.1.2,t4.1.2.2.1,t4.1.2.2.2,t4.2.1.1,t4.2.1.2,t4.2.2.1.1,t4.2.2.1.2,t4.2.2.2.1,t4.2.2.2.2]),[])) [] kr aD kr))
theorem ppez{f:W12->W12}(hf:HF f)(x:W12):PUR 194 [cz x] (cz (pez x)):=by rw[<-DM];exact VS hf x
def LN{f:W12->W12}(hf:HF f):Tb prog Gt:=(LC hf).add (eh (g:=pez) ent194 (ppez hf))
def iJ(f:W12->W12)(x:W12):W12:=
 let t0:=pva f x
 let t1:=pva f (((t0.1.1.1,t0.1.1.2),(t0.1.2.1.1,t0.1.2.1.2),(t0.1.2.2.1,t0.1.2.2.2)),((t0.2.1.1,t0.2.1.2),(t0.2.2.1.1,t0.2.2.1.2),(t0.2.2.2.1,t0.2.2.2.2)))
 let t2:=d8 (((t1.1.1.1,t1.1.1.2),(t1.1.2.1.1,t1.1.2.1.2),(t1.1.2.2.1,t1.1.2.2.2)),((t1.2.1.1,t1.2.1.2),(t1.2.2.1.1,t1.2.2.1.2),(t1.2.2.2.1,t1.2.2.2.2)))
 let t3:=f (((t1.1.1.1,t1.1.1.2),(t1.1.2.1.1,t1.1.2.1.2),(t1.1.2.2.1,t1.1.2.2.2)),((t1.2.1.1,t1.2.1.2),(t1.2.2.1.1,t1.2.2.1.2),(t1.2.2.2.1,t1.2.2.2.2)))
 let t4:=dd (((t3.1.1.1,t3.1.1.2),(t3.1.2.1.1,t3.1.2.1.2),(t3.1.2.2.1,t3.1.2.2.2)),((t3.2.1.1,t3.2.1.2),(t3.2.2.1.1,t3.2.2.1.2),(t3.2.2.2.1,t3.2.2.2.2)))
 let t5:=K12.mul (((t2.1.1.1,t2.1.1.2),(t2.1.2.1.1,t2.1.2.1.2),(t2.1.2.2.1,t2.1.2.2.2)),((t2.2.1.1,t2.2.1.2),(t2.2.2.1.1,t2.2.2.1.2),(t2.2.2.2.1,t2.2.2.2.2))) (((t4.1.1.1,t4.1.1.2),(t4.1.2.1.1,t4.1.2.1.2),(t4.1.2.2.1,t4.1.2.2.2)),((t4.2.1.1,t4.2.1.2),(t4.2.2.1.1,t4.2.2.1.2),(t4.2.2.2.1,t4.2.2.2.2)))
 let t6:=f (((t5.1.1.1,t5.1.1.2),(t5.1.2.1.1,t5.1.2.1.2),(t5.1.2.2.1,t5.1.2.2.2)),((t5.2.1.1,t5.2.1.2),(t5.2.2.1.1,t5.2.2.1.2),(t5.2.2.2.1,t5.2.2.2.2)))
 let t7:=f (((t6.1.1.1,t6.1.1.2),(t6.1.2.1.1,t6.1.2.1.2),(t6.1.2.2.1,t6.1.2.2.2)),((t6.2.1.1,t6.2.1.2),(t6.2.2.1.1,t6.2.2.1.2),(t6.2.2.2.1,t6.2.2.2.2)))
 let t8:=d8 (d8 (((t5.1.1.1,t5.1.1.2),(t5.1.2.1.1,t5.1.2.1.2),(t5.1.2.2.1,t5.1.2.2.2)),((t5.2.1.1,t5.2.1.2),(t5.2.2.1.1,t5.2.2.1.2),(t5.2.2.2.1,t5.2.2.2.2))))
 let t9:=K12.mul (((t7.1.1.1,t7.1.1.2),(t7.1.2.1.1,t7.1.2.1.2),(t7.1.2.2.1,t7.1.2.2.2)),((t7.2.1.1,t7.2.1.2),(t7.2.2.1.1,t7.2.2.1.2),(t7.2.2.2.1,t7.2.2.2.2))) (((t8.1.1.1,t8.1.1.2),(t8.1.2.1.1,t8.1.2.1.2),(t8.1.2.2.1,t8.1.2.2.2)),((t8.2.1.1,t8.2.1.2),(t8.2.2.1.1,t8.2.2.1.2),(t8.2.2.2.1,t8.2.2.2.2)))
 let t10:=dd (((t5.1.1.1,t5.1.1.2),(t5.1.2.1.1,t5.1.2.1.2),(t5.1.2.2.1,t5.1.2.2.2)),((t5.2.1.1,t5.2.1.2),(t5.2.2.1.1,t5.2.2.1.2),(t5.2.2.2.1,t5.2.2.2.2)))
 let t11:=K12.mul (((t9.1.1.1,t9.1.1.2),(t9.1.2.1.1,t9.1.2.1.2),(t9.1.2.2.1,t9.1.2.2.2)),((t9.2.1.1,t9.2.1.2),(t9.2.2.1.1,t9.2.2.1.2),(t9.2.2.2.1,t9.2.2.2.2))) (((t10.1.1.1,t10.1.1.2),(t10.1.2.1.1,t10.1.2.1.2),(t10.1.2.2.1,t10.1.2.2.2)),((t10.2.1.1,t10.2.1.2),(t10.2.2.1.1,t10.2.2.1.2),(t10.2.2.2.1,t10.2.2.2.2)))
 let t12:=K12.mul x x
 let t13:=K12.mul (((t11.1.1.1,t11.1.1.2),(t11.1.2.1.1,t11.1.2.1.2),(t11.1.2.2.1,t11.1.2.2.2)),((t11.2.1.1,t11.2.1.2),(t11.2.2.1.1,t11.2.2.1.2),(t11.2.2.2.1,t11.2.2.2.2))) (((t12.1.1.1,t12.1.1.2),(t12.1.2.1.1,t12.1.2.1.2),(t12.1.2.2.1,t12.1.2.2.2)),((t12.2.1.1,t12.2.1.2),(t12.2.2.1.1,t12.2.2.1.2),(t12.2.2.2.1,t12.2.2.2.2)))
 let t14:=K12.mul (((t13.1.1.1,t13.1.1.2),(t13.1.2.1.1,t13.1.2.1.2),(t13.1.2.2.1,t13.1.2.2.2)),((t13.2.1.1,t13.2.1.2),(t13.2.2.1.1,t13.2.2.1.2),(t13.2.2.2.1,t13.2.2.2.2))) x
 t14
theorem DH(f:W12->W12)(x:W12):iJ f x=phd f x:=by
 unfold iJ;simp only[Ry];rfl
theorem S2{f:W12->W12}(hf:HF f)(x:W12):PUR 193 [cz x] (cz (iJ f x)):=(bT (l1 (V12 _)) (V12 _) (pE (LN hf) func193 [.inl [x.1.1.1,x.1.1.2,x.1.2.1.1,x.1.2.1.2,x.1.2.2.1,x.1.2.2.2,x.2.1.1,x.2.1.2,x.2.2.1.1,x.2.2.1.2,x.2.2.2.1,x.2.2.2.2]] (.inl (.inl [(iJ f x).1.1.1,(iJ f x).1.1.2,(iJ f x).1.2.1.1,(iJ f x).1.2.1.2,(iJ f x).1.2.2.1,(iJ f x).1.2.2.2,(iJ f x).2.1.1,(iJ f x).2.1.2,(iJ f x).2.2.1.1,(iJ f x).2.2.1.2,(iJ f x).2.2.2.1,(iJ f x).2.2.2.2])) (let t0:=pva f x;let t1:=pva f (((t0.1.1.1,t0.1.1.2),(t0.1.2.1.1,t0.1.2.1.2),(t0.1.2.2.1,t0.1.2.2.2)),((t0.2.1.1,t0.2.1.2),(t0.2.2.1.1,t0.2.2.1.2),(t0.2.2.2.1,t0.2.2.2.2)));let t2:=d8 (((t1.1.1.1,t1.1.1.2),(t1.1.2.1.1,t1.1.2.1.2),(t1.1.2.2.1,t1.1.2.2.2)),((t1.2.1.1,t1.2.1.2),(t1.2.2.1.1,t1.2.2.1.2),(t1.2.2.2.1,t1.2.2.2.2)));let t3:=f (((t1.1.1.1,t1.1.1.2),(t1.1.2.1.1,t1.1.2.1.2),(t1.1.2.2.1,t1.1.2.2.2)),((t1.2.1.1,t1.2.1.2),(t1.2.2.1.1,t1.2.2.1.2),(t1.2.2.2.1,t1.2.2.2.2)));let t4:=dd (((t3.1.1.1,t3.1.1.2),(t3.1.2.1.1,t3.1.2.1.2),(t3.1.2.2.1,t3.1.2.2.2)),((t3.2.1.1,t3.2.1.2),(t3.2.2.1.1,t3.2.2.1.2),(t3.2.2.2.1,t3.2.2.2.2)));let t5:=K12.mul (((t2.1.1.1,t2.1.1.2),(t2.1.2.1.1,t2.1.2.1.2),(t2.1.2.2.1,t2.1.2.2.2)),((t2.2.1.1,t2.2.1.2),(t2.2.2.1.1,t2.2.2.1.2),(t2.2.2.2.1,t2.2.2.2.2))) (((t4.1.1.1,t4.1.1.2),(t4.1.2.1.1,t4.1.2.1.2),(t4.1.2.2.1,t4.1.2.2.2)),((t4.2.1.1,t4.2.1.2),(t4.2.2.1.1,t4.2.2.1.2),(t4.2.2.2.1,t4.2.2.2.2)));let t6:=f (((t5.1.1.1,t5.1.1.2),(t5.1.2.1.1,t5.1.2.1.2),(t5.1.2.2.1,t5.1.2.2.2)),((t5.2.1.1,t5.2.1.2),(t5.2.2.1.1,t5.2.2.1.2),(t5.2.2.2.1,t5.2.2.2.2)));let t7:=f (((t6.1.1.1,t6.1.1.2),(t6.1.2.1.1,t6.1.2.1.2),(t6.1.2.2.1,t6.1.2.2.2)),((t6.2.1.1,t6.2.1.2),(t6.2.2.1.1,t6.2.2.1.2),(t6.2.2.2.1,t6.2.2.2.2)));let t8:=d8 (d8 (((t5.1.1.1,t5.1.1.2),(t5.1.2.1.1,t5.1.2.1.2),(t5.1.2.2.1,t5.1.2.2.2)),((t5.2.1.1,t5.2.1.2),(t5.2.2.1.1,t5.2.2.1.2),(t5.2.2.2.1,t5.2.2.2.2))));let t9:=K12.mul (((t7.1.1.1,t7.1.1.2),(t7.1.2.1.1,t7.1.2.1.2),(t7.1.2.2.1,t7.1.2.2.2)),((t7.2.1.1,t7.2.1.2),(t7.2.2.1.1,t7.2.2.1.2),(t7.2.2.2.1,t7.2.2.2.2))) (((t8.1.1.1,t8.1.1.2),(t8.1.2.1.1,t8.1.2.1.2),(t8.1.2.2.1,t8.1.2.2.2)),((t8.2.1.1,t8.2.1.2),(t8.2.2.1.1,t8.2.2.1.2),(t8.2.2.2.1,t8.2.2.2.2)));let t10:=dd (((t5.1.1.1,t5.1.1.2),(t5.1.2.1.1,t5.1.2.1.2),(t5.1.2.2.1,t5.1.2.2.2)),((t5.2.1.1,t5.2.1.2),(t5.2.2.1.1,t5.2.2.1.2),(t5.2.2.2.1,t5.2.2.2.2)));let t11:=K12.mul (((t9.1.1.1,t9.1.1.2),(t9.1.2.1.1,t9.1.2.1.2),(t9.1.2.2.1,t9.1.2.2.2)),((t9.2.1.1,t9.2.1.2),(t9.2.2.1.1,t9.2.2.1.2),(t9.2.2.2.1,t9.2.2.2.2))) (((t10.1.1.1,t10.1.1.2),(t10.1.2.1.1,t10.1.2.1.2),(t10.1.2.2.1,t10.1.2.2.2)),((t10.2.1.1,t10.2.1.2),(t10.2.2.1.1,t10.2.2.1.2),(t10.2.2.2.1,t10.2.2.2.2)));let t12:=K12.mul x x;let t13:=K12.mul (((t11.1.1.1,t11.1.1.2),(t11.1.2.1.1,t11.1.2.1.2),(t11.1.2.2.1,t11.1.2.2.2)),((t11.2.1.1,t11.2.1.2),(t11.2.2.1.1,t11.2.2.1.2),(t11.2.2.2.1,t11.2.2.2.2))) (((t12.1.1.1,t12.1.1.2),(t12.1.2.1.1,t12.1.2.1.2),(t12.1.2.2.1,t12.1.2.2.2)),((t12.2.1.1,t12.2.1.2),(t12.2.2.1.1,t12.2.2.1.2),(t12.2.2.2.1,t12.2.2.2.2)));let t14:=K12.mul (((t13.1.1.1,t13.1.1.2),(t13.1.2.1.1,t13.1.2.1.2),(t13.1.2.2.1,t13.1.2.2.2)),((t13.2.1.1,t13.2.1.2),(t13.2.2.1.1,t13.2.2.1.2),(t13.2.2.2.1,t13.2.2.2.2))) x;(.inl (.inl [t14.1.1.1,t14.1.1.2,t14.1.2.1.1,t14.1.2.1.2,t14.1.2.2.1,t14.1.2.2.2,t14.2.1.1,t14.2.1.2,t14.2.2.1.1,t14.2.2.1.2,t14.2.2.2.1,t14.2.2.2.2]),[])) [] kr aD kr))
theorem pphd{f:W12->W12}(hf:HF f)(x:W12):PUR 193 [cz x] (cz (phd f x)):=by rw[<-DH];exact S2 hf x
def Ul{f:W12->W12}(hf:HF f):Tb prog Gt:=(LN hf).add (eh (g:=phd f) ent193 (pphd hf))
theorem Kb{f:W12->W12}(hf:HF f)(x:W12):PUR 162 [cz x] (cz (phd f (pez x))):=(bT (l1 (V12 _)) (V12 _) (pE (Ul hf) func162 [.inl [x.1.1.1,x.1.1.2,x.1.2.1.1,x.1.2.1.2,x.1.2.2.1,x.1.2.2.2,x.2.1.1,x.2.1.2,x.2.2.1.1,x.2.2.1.2,x.2.2.2.1,x.2.2.2.2]] (.inl (.inl [(phd f (pez x)).1.1.1,(phd f (pez x)).1.1.2,(phd f (pez x)).1.2.1.1,(phd f (pez x)).1.2.1.2,(phd f (pez x)).1.2.2.1,(phd f (pez x)).1.2.2.2,(phd f (pez x)).2.1.1,(phd f (pez x)).2.1.2,(phd f (pez x)).2.2.1.1,(phd f (pez x)).2.2.1.2,(phd f (pez x)).2.2.2.1,(phd f (pez x)).2.2.2.2])) (let t0:=pez x;let t1:=phd f (((t0.1.1.1,t0.1.1.2),(t0.1.2.1.1,t0.1.2.1.2),(t0.1.2.2.1,t0.1.2.2.2)),((t0.2.1.1,t0.2.1.2),(t0.2.2.1.1,t0.2.2.1.2),(t0.2.2.2.1,t0.2.2.2.2)));(.inl (.inl [t1.1.1.1,t1.1.1.2,t1.1.2.1.1,t1.1.2.1.2,t1.1.2.2.1,t1.1.2.2.2,t1.2.1.1,t1.2.1.2,t1.2.2.1.1,t1.2.2.1.2,t1.2.2.2.1,t1.2.2.2.2]),[])) [] kr aD kr))
theorem QI(x:W12):PUR 162 [cz x] (cz (xm UG x)):=by rw[Rw];exact Kb T8 x
end Q6
end
section
open Go.RowKit
attribute [local simp] a6 bv aH aA aQ aY aR aK aM PLl cJ cH N1l cI cL cK bf bB a7 bu J1.bx J2.bx Q6.gi Q6.ge
namespace Q6
theorem JY(l c:Nat)(x:Option Addr)(a:W12)(w:World)(hw:Gt w)(hL: ∀w',Gt w'->Grow w w'->CLS 163 [.slice x l c].toArray w' (λy w''=>y=.returned (cz a)/\Grow w' w'')):CLS 111 [.slice x l c].toArray w (λr w'=>r=.returned (.bool (decide (xm UG a=K12.one)))/\Grow w w'):=by
 refine Hf func111 O hw<|λhGF=>Xp<|Asg O<|aa<|Xp<|Mv O<|Cc O ent163 (λw' hC hG=>hL w' hG (ab hC))<|Ca O (QI a)<|Ca O (tr)<|Ca O (pH _ _)<|Asg O<|aa<|ak<|Rr<|?_;exact aE O O (λw hw=>⟨rfl,ab hw⟩)
theorem jK{w w':World}{b:Nat}{cs:List Value}(h:w.rangeAt b 0 cs)(hg:Grow w w'):w'.rangeAt b 0 cs:=λj v hv=>(hg.cell (block_lt_of_cell (h j v hv))).trans (h j v hv)
end Q6
end
section
open Go.RowKit
attribute [local simp] fP aH aA aQ aR aK jo MLl Lz bf
abbrev RV(x:Zr):Value:=aJ (nr x)
theorem zv27(w:World):(zeroValue 27).run prog w=.ok (aJ (List.replicate 6 (0#64))) w:=(zeroValue27 w).trans rr
theorem zv98(w:World):(zeroValue 98).run prog w=.ok (.agg ((List.replicate 32 (0#8)).map U8).toArray) w:=(zeroValue98 w).trans rr
theorem Cq(x y:Zr):decide (nr x=nr y)=decide (x=y):=decide_eq_decide.2 Q7
theorem Q0{x y:BitVec 64}(h:(x==y)=true):x=y:=beq_iff_eq.1 h
theorem NW{x y:BitVec 64}(h:(x==y)=false): ¬x=y:=beq_eq_false_iff_ne.1 h
theorem ent6:ai prog 6:=λ_ _=>kr
theorem ent77:ai prog 77:=λ_ _=>kr
theorem xT(a b:L6)(ha:a.length=6)(hb:b.length=6):PUR 69 [NV a,NV b] (NV (il (il a b ML) LIFT ML)):=by
 intro w hw;refine Hf func69 O hw<|λhGF=>Xp<|Bx 2 hGF O<|λb2=>Bx 3 hGF O<|λb3=>Al 4 hGF zv25<|λb4=>aa<|Xd []<|bS 2 O O isAgg25 sizeOf25 (by first|(simp;done)|exact ha|exact hb|(rw[List.length_map];exact ha)|(rw[List.length_map];exact hb)) O O<|bS 3 O O isAgg25 sizeOf25 (by first|(simp;done)|exact ha|exact hb|(rw[List.length_map];exact ha)|(rw[List.length_map];exact hb)) O O<|gV hGF isAgg25 sizeOf25 (by first|(simp;done)|exact ha|exact hb|(rw[List.length_map];exact ha)|(rw[List.length_map];exact hb)) (λ_ h=>h.g1) O O<|Ca O (iD _ _ _ (by first|(simp;done)|exact ha|exact hb|(rw[List.length_map];exact ha)|(rw[List.length_map];exact hb)) (by first|(simp;done)|exact ha|exact hb|(rw[List.length_map];exact ha)|(rw[List.length_map];exact hb)) (by first|(simp;done)|exact ha|exact hb|(rw[List.length_map];exact ha)|(rw[List.length_map];exact hb)))<|gV hGF isAgg25 sizeOf25 (by first|(simp;done)|exact ha|exact hb|(rw[List.length_map];exact ha)|(rw[List.length_map];exact hb)) (λ_ h=>h.g0) O O<|gV hGF isAgg25 sizeOf25 (by first|(simp;done)|exact ha|exact hb|(rw[List.length_map];exact ha)|(rw[List.length_map];exact hb)) (λ_ h=>h.g1) O O<|Ca O (iD _ _ _ (by first|(simp;done)|exact ha|exact hb|(rw[List.length_map];exact ha)|(rw[List.length_map];exact hb)) (by first|(simp;done)|exact ha|exact hb|(rw[List.length_map];exact ha)|(rw[List.length_map];exact hb)) (by first|(simp;done)|exact ha|exact hb|(rw[List.length_map];exact ha)|(rw[List.length_map];exact hb)))<|az 4 hGF O O O sizeOf25 (by first|(simp;done)|exact ha|exact hb|(rw[List.length_map];exact ha)|(rw[List.length_map];exact hb)) (by first|(simp;done)|exact ha|exact hb|(rw[List.length_map];exact ha)|(rw[List.length_map];exact hb)) (ba _) O<|aa<|ak<|Rr<|?_
 exact au 4 O O O isAgg25 sizeOf25 (by first|(simp;done)|exact ha|exact hb|(rw[List.length_map];exact ha)|(rw[List.length_map];exact hb)) (λw hw=>⟨rfl,ab hw⟩)
theorem yU(n:L6)(hn:n.length=6):PUR 30 [NV n] (RV (zr (V n 6))):=by
 intro w hw;refine Hf func30 O hw<|λhGF=>Xp<|Bx 1 hGF O<|λb1=>Al 2 hGF zv27<|λb2=>aa<|Xp<|eu 1 O underlying25 sizeOf24 zv25 O O<|bS 1 O O isAgg25 sizeOf25 (by first|(simp;done)|simp[hn]) O O<|Ca O (xT _ _ (by first|(simp;done)|simp[hn]) (by first|(simp;done)|simp[hn]))<|ch O (by first|(simp;done)|simp[hn]) underlying27 O sizeOf25 zv27 O O<|az 2 hGF O O O sizeOf27 (by first|(simp;done)|simp[hn]) (by first|(simp;done)|simp[hn]) (ba _) O<|aa<|ak<|Rr<|?_
 exact au 2 O O O isAgg27 sizeOf27 (by first|(simp;done)|simp[hn]) (λw hw=>⟨congrArg (λl=>Ending.returned (NV l)) (CL n),ab hw⟩)
theorem qw(n:BitVec 64):PUR 23 [U64 n] (RV (zr n.toNat)):=by
 intro w hw;refine Hf func23 O hw<|λhGF=>Xp<|Al 2 hGF zv27<|λb2=>aa<|Xp<|Mv O<|eu n O underlying25 sizeOf24 zv25 O O<|ch O sm underlying27 O sizeOf25 zv27 O O<|Sa 2 hGF O O O io<|aa<|ak<|Rr<|?_;exact au 2 O O O isAgg27 sizeOf27 sm (λw hw=>⟨congrArg (λl=>Ending.returned (NV l)) (C5 n),ab hw⟩)
theorem ud(x:Zr):PUR 19 [RV x] (.bool (decide (x=0))):=by
 intro w hw;refine Hf func19 O hw<|λhGF=>Xp<|Bx 1 hGF O<|λb1=>Asg O<|aa<|Xp<|Fa 0 O underlying27 O sizeOf25<|La 1 O O cf<|dX zv25 underlying25 sizeOf24 O O<|cr O O (λ_=>Gq _ _ _ _ _ _) (λw=>DK _ _ sm sm w) O O<|Asg O<|aa<|ak<|Rr<|?_;exact aE O O (λw hw=>⟨by rw[<-OL,Cq],ab hw⟩)
theorem r2(x y:Zr):PUR 24 [RV x,RV y] (RV (x+y)):=by
 intro w hw;refine Hf func24 O hw<|λhGF=>Xp<|Bx 2 hGF O<|λb2=>Bx 3 hGF O<|λb3=>Al 4 hGF zv27<|λb4=>aa<|Xp<|Fa 0 O underlying27 O sizeOf25<|La 2 O O cf<|Fa 0 O underlying27 O sizeOf25<|La 3 O O cf<|Ca O (mC _ _ sm sm)<|Mv O<|Ext O O<|Ext O O<|Al 5 hGF zv25<|λb5=>Sa 5 hGF O O O cf<|Asg O<|aa<|Xp<|La 5 O O cf<|gV hGF isAgg25 sizeOf25 sm (λ_ h=>h.g1) O O<|Ca O (jv _ _ sm sm)<|Mv O<|Ext O O<|Ext O O<|Al 7 hGF zv25<|λb7=>Sa 7 hGF O O O cf<|Asg O<|aa<|ae<|Xp<|Mv O<|Bnr O O (λ_=>bj _ _ _)<|aa<|?_;refine bC O (λhc=> ?_) (λhc=> ?_)
 ·refine Xp<|La 5 O O cf<|ch O sm underlying27 O sizeOf25 zv27 O O<|Sa 4 hGF O O O io<|aa<|ak<|Rr<|?_
  exact au 4 O O O isAgg27 sizeOf27 sm (λw hw=>⟨by rw[DZ (Q0 hc)],ab hw⟩)
 ·refine ap<|Xp<|La 7 O O cf<|ch O sm underlying27 O sizeOf25 zv27 O O<|Sa 4 hGF O O O io<|aa<|ak<|Rr<|?_
  exact au 4 O O O isAgg27 sizeOf27 sm (λw hw=>⟨by rw[Cf (tI (n8 _ _ _) (NW hc))],ab hw⟩)
theorem u2(x:Zr):PUR 43 [RV x] (.agg ((pW x).map U8).toArray):=by
 intro w hw;refine Hf func43 O hw<|λhGF=>Xp<|Bx 1 hGF O<|λb1=>Al 2 hGF zv98<|λb2=>aa<|Xp<|Fa 0 O underlying27 O sizeOf25<|La 1 O O cf<|Ca O (jU _ sm)<|Al 3 hGF zv29<|λb3=>az 3 hGF O O O sizeOf29 sm sm (bY _) O<|aa<|Xp<|bP (l:=16) (h':=48) O underlying29 sizeOf5 O O om om O O<|Nt O underlying98 dc O O<|aw 3 ((pW x).map U8) O O isAgg98 sizeOf98 sm (CM x) O O<|az 2 hGF O O O sizeOf98 sm sm (bY _) O<|aa<|ak<|Rr<|?_;exact au 2 O O O isAgg98 sizeOf98 sm (λw hw=>⟨rfl,ab hw⟩)
theorem sE(a:Option Addr)(len cap:Nat)(bs:L8)(hl:bs.length=len)(h:len<=48)(w:World)(hw:Gt w)(hby:BytesAt w a bs):
 CLS 28 [.slice a len cap].toArray w (λe w'=>e=.returned (.tuple #[NV (FRs bs bs.length),.bool true])/\Grow w w'):=by
 subst hl;exact (o4 a cap bs w hw hby).mono λe w' ⟨he,hg⟩=>⟨by rw[he,if_neg om],hg⟩
structure QSt(w:World)(bs:L8) where
 (k:Nat) (a:Option Addr) (c:Nat)
 hk:k<=bs.length
 hc:bs.length-k<=c
 hb:BytesAt w a (bs.drop k)
 hm:k=0\/(bs.length-k) % 48=0
theorem xL(y:Zr):PUR 29 [NV LIFT,RV y,NV ML] (RV (y*qRZ)):=by
 have h:=iD LIFT (nr y) ML O (fP y) O;rw[B4]at h;exact h
theorem wx(bs:L8)(h:bs.length<=48):PUR 30 [NV (FRs bs bs.length)] (RV (zr (BN bs bs.length))):=nC bs h▸yU (FRs bs bs.length) (aR _ _)
theorem vo(e:Option Addr)(cap:Nat)(bs:L8)(hlen:bs.length<=1000000)(hcap:bs.length<=cap)(w:World)(hw:Gt w)(hby:BytesAt w e bs):
 CLS 6 [.slice e bs.length cap].toArray w (λr w'=>r=.returned (RV (QB bs))/\Grow w w'):=by
 refine Hf func6 O hw<|λhGF=>Xp<|Al 2 hGF zv27<|λb2=>aa<|Xp<|Al 3 hGF zv27<|λb3=>aa<|ae<|ah<|bG (ι:=QSt w bs) (λx=>[(0,.slice x.a (bs.length-x.k) x.c),(2,pnt b2),(3,pnt b3)]) (λx=>[(2,b2,(List.replicate 6 0#64).map U64,27),(3,b3,(nr (zr (BN bs x.k))).map U64,27)]) (λx=>(bs.length-x.k)) ⟨0,e,cap,Nat.zero_le _,hcap,hby,.inl O⟩ hGF trv ⟨rfl,by rw[BN,Oi,OL];rfl,trivial⟩<|λx=>ae<|Xp<|Mv O<|bc O (λ_=>aF underlying22 _ _ _ _) O O<|Bnr O O (λ_=>a9 _ _ _)<|aa<|?_
 refine bC O (λhc=> ?_) (λhc=> ?_)
 ·have hn:0<(bs.length-x.k):=by simp at hc;omega
  clear hc;have hlenx:=x.hk;have hcut:=B9 hn;have hnext:BytesAt w (if x.c=(((bs.length-x.k)-1) % 48+1)then x.a else x.a.map (·.add ((((bs.length-x.k)-1) % 48+1)*1))) (bs.drop (x.k+(((bs.length-x.k)-1) % 48+1))):=by
   have:=x.hb.drop (cap:=x.c) (l:=(((bs.length-x.k)-1) % 48+1)) (by rw[List.length_drop];exact x.hc) om
   rw[List.drop_drop]at this;exact this
  have hstep:zr (BN bs x.k)*qRZ+zr (BN ((bs.drop x.k).take (((bs.length-x.k)-1) % 48+1)) ((bs.drop x.k).take (((bs.length-x.k)-1) % 48+1)).length)=zr (BN bs (x.k+(((bs.length-x.k)-1) % 48+1))):=by
   rw[lJ bs x.k _ hcut.2.1,Gg];exact yZ bs x.k _ (jJ id (KP hn) x.hm)
  refine ap<|ah<|Xp<|Mv O<|bc O (λ_=>aF underlying22 _ _ _ _) O O<|Bnr (v:=I (((bs.length-x.k)-1:Nat):Int)) O O (λ_=>(aV _ _ _ oi).trans (by rw[show ((bs.length-x.k:Nat):Int)-1=((bs.length-x.k-1:Nat):Int) by omega]))<|cr (v:=I ((((bs.length-x.k)-1) % 48:Nat):Int)) O O (λ_=>rfl) (λ_=>cX _ _ _ dc) O O<|cr (v:=I (((((bs.length-x.k)-1) % 48+1):Nat):Int)) O O (λ_=>rfl) (λ_=>aq _ _ _ oi) O O<|Asg O<|aa<|Xp<|Mv O<|Mv O<|f9 (l:=0) (h':=(((bs.length-x.k)-1) % 48+1)) O underlying22 sizeOf5 O O ⟨Nat.zero_le _,Nat.le_trans hcut.2.1 x.hc⟩ O O<|kR O O ent28 (λw' hC hG=>sE _ (((bs.length-x.k)-1) % 48+1) _ ((bs.drop x.k).take (((bs.length-x.k)-1) % 48+1)) (lJ bs x.k _ hcut.2.1) hcut.2.2 w' hG ((x.hb.cut 0 (((bs.length-x.k)-1) % 48+1) (by rw[List.length_drop];exact x.hc)).grow (ab hC))) O O<|Mv O<|Ext O O<|Ext O O<|Al 5 hGF zv25<|λb5=>Sa 5 hGF O O O cf<|Asg O<|aa<|Xd []<|gV hGF isAgg25 sizeOf25 sm (λ_ h=>h.g0) O O<|Fa 0 O underlying27 O sizeOf25<|La 3 O O cf<|gV hGF isAgg25 sizeOf25 sm (λ_ h=>h.g1) O O<|Ca O (xL _)<|ch O sm underlying27 O sizeOf25 zv27 O O<|La 5 O O cf<|Ca O (wx ((bs.drop x.k).take (((bs.length-x.k)-1) % 48+1)) (by rw[lJ bs x.k _ hcut.2.1];exact hcut.2.2))<|Ca O (r2 _ _)<|Sa 3 hGF O O O io<|aa<|Xq<|Mv O<|Mv O<|f9 (l:=(((bs.length-x.k)-1) % 48+1)) (h':=(bs.length-x.k)) O underlying22 sizeOf5 O O ⟨hcut.2.1,x.hc⟩ O O<|Asg O<|aa<|?_
  repeat (refine aL ?_)
  exact aB<|⟨rfl,⟨x.k+(((bs.length-x.k)-1) % 48+1),_,x.c-(((bs.length-x.k)-1) % 48+1),by have:=x.hk;omega,by have:=x.hc;omega,hnext,.inr (by rw[Nat.sub_add_eq];exact hcut.1)⟩,_,by show bs.length-(x.k+(((bs.length-x.k)-1) % 48+1))<bs.length-x.k;omega,rfl,⟨congrArg (λn=>some (Value.slice _ n _)) (Nat.sub_sub bs.length x.k (((bs.length-x.k)-1) % 48+1)),rfl,rfl,trivial⟩,⟨rfl,by rw[<-hstep];rfl,trivial⟩⟩
 ·have hn:x.k=bs.length:=by simp at hc;have:=x.hk;omega
  clear hc;refine aU<|Xp<|La 3 O O io<|Sa 2 hGF O O O io<|aa<|ak<|Rr<|?_;exact au 2 O O O isAgg27 sizeOf27 sm (λw hw=>⟨by rw[hn];rfl,ab hw⟩)
end
section
open Go.RowKit
theorem ent123:ai prog 123:=λ_ _=>kr
theorem ent170:ai prog 170:=λ_ _=>kr
theorem xq(a:L6)(_ha:a.length=6)(w:World)(hw:Gt w):CLS 123 [aJ (a)].toArray w (λe w'=> ∃b1,e=.returned (.func (.func 170) #[] #[pnt b1])/\Grow w w'/\w.heap.size<=b1/\OwnB w' b1 (a.map U64) 25):=by
 refine Hf func123 O hw<|λhGF=>Xp<|Bx 1 hGF O<|λb1=>Asg O<|aa<|Xp<|gj O O O O<|Asg O<|aa<|ak<|Rr<|?_;exact aE O O (λw hw=>⟨b1,rfl,ab hw,(hw.own 1 b1 _ _ O).2.elim id False.elim,(hw.own 1 b1 _ _ O).1⟩)
theorem vG(bb:Nat)(a:L6)(ha:a.length=6):fD prog Gt 170 [pnt bb] (BT a) (λW=>W.rangeAt bb 0 (a.map U64)):=by
 intro l J Jx hJ hJx hRd hGx hY w hj;have okJ: ∀k,BOk Gt (Bi w (λY=>J Y k)):=λk=>⟨λ_ _ _ h=>(hRd _ _ _ h.rid).1,hJ k⟩;have okX: ∀k,BOk Gt (Bi w (λY=>Jx Y k)):=λk=>⟨λ_ _ _ h=>hGx _ _ _ h.rid,hJx k⟩;refine cw (G:=Gt) func170 O O (Hp (Bi w (λY=>J Y 0)) []) (ci (Bi w _) hj (hJ 0)) (ay (okJ 0))<|ac (E:=EE [113])<|iN 2 (okJ _) O O O<|λb2=>aa<|ac (E:=EE [113])<|bP (l:=0) (h':=6) O underlying25 sizeOf24 O O om om O O<|?_;refine dy O O ent113 O O (λw' hw'=>(mD _ O w' ((okJ _).g _ _ _ hw')).mono λe w'' h=> ?_);obtain ⟨c2,rfl,hgr,h2,hc2⟩:=h;refine ⟨_,_,rfl,ay (okJ _),hw'.news (hJ _) hgr [(33,c2,[.slice (spt bb) 6 6],118)] ?_ bQ, ?_⟩
 ·intro n' b' c' t' hl
  rcases aI hl with ⟨_,e⟩|⟨_,hl⟩
  ·cases e;exact ⟨h2,hc2⟩
  ·cases hl
 clear hw' hgr h2 hc2;refine aa<|ah<|?_;refine fc (λk=>(Bi w (λY=>J Y (gq a k).length))) (λ_ k=>Bi w (λY=>Jx Y (gq a k).length)) (λ_=>okJ _) (λ_ _=>okX _) (λ_=>rfl) (λ_ _=>rfl) O O ent166 (qf c2 bb a 6 dc ha) (λx hx=>by obtain ⟨k,hk,rfl⟩:=List.mem_map.1 hx;rfl) O (λ_=>[(2,b2,[.func (.yield l) #[] #[]],217),(33,c2,[.slice (spt bb) 6 6],118)]) (λc _ _=>c=.ret) trv (λk Y w' h=>⟨cM (n:=33) O O w' h,(hRd _ _ _ h.rid).2⟩) ?_ ?_ ?_
 ·intro k x hx R hR
  obtain ⟨hk,rfl⟩:=Mn a 6 k x hx;rw[show 64*6-1-k=383-k from O];refine ac (E:=EE [113])<|Asg O<|aa<|bF (E:=EE [113])<|Asg O<|aa<|?_;refine ⟨rfl,_,rfl, ?_⟩;rcases Decidable.em (dig a (383-k)=1)with h1|h1
  ·refine ah<|ac (E:=EE [113])<|Mv O<|Bnr (v:=.bool true) O O (λw=>(bj _ _ _).trans (congrArg (λb=>Result.ok (Value.bool b) w) (beq_iff_eq.2 h1)))<|Mv O<|cV 2 O O O isAgg217 O O<|Mv O<|?_
   refine dw ((hY.b (k:=(gq a k).length) (TP a k om h1) w).br R.l R.D R.rb R.Y R.W) (hR (Bi w (λY=>J Y ((gq a k).length+1))) O (okJ _)).2.1 (hR (Bi w (λY=>Jx Y ((gq a k).length+1))) O (okX _)).2.1 O O O O O ?_ ?_
   ·refine bi O (λ_=>a5 _) O O<|Pk O O O<|aa<|aC O<|ap<|?_
    show∃L',_=Hp (R.b (Bi w (λY=>J Y (gq a (k+1)).length))) L'/\jP L' [(2,b2,[.func (.yield l) #[] #[]],217),(33,c2,[.slice (spt bb) 6 6],118)];rw[wi a k h1];exact ⟨_,rfl,trv⟩
   ·refine bi O (λ_=>a5 _) O O<|Pk O O O<|aa<|aP O<|ak<|Rr<|?_
    show∃L',_=Hp (R.b (Bi w (λY=>Jx Y (gq a (k+1)).length))) L'/\Code.ret=Code.ret;rw[wi a k h1];exact ⟨_,rfl,rfl⟩
  ·refine ah<|ac (E:=EE [113,3000000])<|Mv O<|Bnr (v:=.bool false) O O (λw=>(bj _ _ _).trans (congrArg (λb=>Result.ok (Value.bool b) w) (beq_eq_false_iff_ne.2 h1)))<|Mv O<|Sk<|Sk<|Sk<|Sk<|Pk O O O<|aa<|aC O<|ap<|?_
   show∃L',_=Hp (R.b (Bi w (λY=>J Y (gq a (k+1)).length))) L'/\jP L' [(2,b2,[.func (.yield l) #[] #[]],217),(33,c2,[.slice (spt bb) 6 6],118)];rw[JW a k h1];exact ⟨_,rfl,trv⟩
 ·intro D _
  refine dR (.inr O) (hJ _) (dr O (λw hw=>⟨⟨_,rfl⟩,.inl ?_⟩));have:=bZ (hJ _) hw.rid;rw[fB]at this;rw[Oj];exact this
 ·intro D c j L' _ hc
  subst hc;exact dR (.inl O) (hJx _) (dr O (λw hw=>⟨⟨_,rfl⟩,.inr ⟨_,bZ (hJx _) hw.rid⟩⟩))
end
section
open Go.RowKit
attribute [local simp] a6 bv aH aA aQ aY aR aK aM PLl cJ cH N1l cI cL cK bf bB a7 bu J1.bx J2.bx Q6.gi Q6.ge
attribute [local simp] fP jo
theorem nP(k:Zr)(w:World)(hw:Gt w):CLS 77 [RV k].toArray w (λe w'=> ∃b1,e=.returned (.func (.func 170) #[] #[pnt b1])/\Grow w w'/\w.heap.size<=b1/\OwnB w' b1 ((nr k).map U64) 25):=by
 refine Hf func77 O hw<|λhGF=>ac (E:=EE [123])<|Bx 1 hGF O<|λb1=>Asg O<|aa<|ac (E:=EE [123])<|Fa 0 O underlying27 O sizeOf25<|La 1 O O cf<|?_;refine dy O O ent123 O O (λw' hw'=>(xq (nr k) sm w' (hGF.g _ _ _ hw')).mono λe' w'' h=> ?_);obtain ⟨c1,rfl,hg,h1,ho⟩:=h;refine ⟨_,_,rfl,ay hGF,hw'.news am hg [(33,c1,(nr k).map U64,25)] ?_ bQ, ?_⟩
 ·intro n' b' c' t' hl
  rcases aI hl with ⟨_,e⟩|⟨_,hl⟩
  ·cases e;exact ⟨h1,ho⟩
  ·cases hl
 clear hw' hg h1 ho;refine Asg O<|aa<|ak<|Rr<|?_;exact aE O O (λw hw=>⟨c1,rfl,ab hw,(hw.own 33 c1 _ _ O).2.elim id False.elim,(hw.own 33 c1 _ _ O).1⟩)
def dg(a:L6)(m:Nat):Bool:=decide (dig a (383-m)=1)
theorem A5(a:L6): ∀m,gq a m=oL (dg a) 384 m
 |0=>rfl
 |m+1=>by
  rw[gq,oL,A5 a m];by_cases h:dig a (383-m)=1
  ·rw[if_pos h,if_pos (show dg a m=true from decide_eq_true h)]
  ·rw[if_neg h,if_neg (show¬dg a m=true from λe=>h (of_decide_eq_true e))]
theorem R7(a:L6)(m:Nat)(hm:m<384):dg a m=true↔V a 6 / 2^(384-1-m) % 2=1:=by
 have e:=sL a 6 (383-m) om;rw[show 384-1-m=383-m from by omega,<-e]
 constructor
 ·intro h
  have h2:dig a (383-m)=1:=of_decide_eq_true h;rw[h2];rfl
 ·intro h
  refine decide_eq_true (BitVec.eq_of_toNat_eq ?_);rw[h];rfl
theorem Ha{a:L6}{N:Nat}(hN:N=384)(h:V a 6<2^N):SOg (oL (dg a) N N)=V a 6:=by
 rw[wU];exact Ql h (λm hm=>by subst hN;exact R7 a m hm)
def onK(k:Zr):List Nat:=gq (nr k) 384
theorem Dr(k:Zr){N:Nat}(hN:N=384):onK k=oL (dg (nr k)) N N:=by
 subst hN;exact A5 (nr k) 384
theorem O4(k:Zr){N:Nat}(hN:N=384):V (nr k) 6<2^N:=by
 have h:=rl (nr k) 6;rw[show 64*6=N from hN.symm]at h;exact h
theorem zM(k:Zr){N:Nat}(hN:N=384):SOg (onK k)=k.val:=by rw[Dr k hN,Ha hN (O4 k hN),vw]
theorem Dx(k:Zr){N:Nat}(hN:N=384):(onK k).Pairwise (λa b=>b<=a):=by rw[Dr k hN];exact uO _ _ _ (Nat.le_refl _)
theorem Gr(k:Zr){N:Nat}(hN:N=384){b:Nat}(h:b∈onK k):b<100000000:=by
 rw[Dr k hN]at h;have:=Hg h (Nat.le_refl _);omega
theorem vL{b:Nat}{c:List Value}{w w':World}(h:w.rangeAt b 0 c)(hg:Grow w w'):w'.rangeAt b 0 c:=λj v hv=>(hg.cell (block_lt_of_cell (h j v hv))).trans (h j v hv)
namespace J1
theorem sM(c1:Nat)(k:Zr){L:List Nat}(hL:onK k=L):fD prog Gt 170 [pnt c1] (NLs L) (λW=>W.rangeAt c1 0 ((nr k).map U64)):=by
 subst hL;exact vG c1 (nr k) (fP k)
theorem w8(p:GP)(k:Zr){L:List Nat}(hL:onK k=L)(hb: ∀b∈L,b<100000000):PUR 33 [PtV p,RV k] (JV (tmF p.J L)):=by
 intro w hw;refine Hf func33 O hw<|λhGF=>ac (E:=EE [77,2000077])<|Bx 2 hGF O<|λb2=>Bx 3 hGF O<|λb3=>Al 4 hGF zv54<|λb4=>aa<|Xd [77,2000077]<|La 2 O O cj<|La 3 O O io<|?_;refine bK O O ent77 O O (λw' hw'=>(nP k w' (hGF.g _ _ _ hw')).mono λe' w'' h=> ?_);obtain ⟨c1,rfl,hg,h1,ho⟩:=h;refine ⟨_,_,rfl,ay hGF,hw'.news am hg [(33,c1,(nr k).map U64,25)] ?_ bQ,bO am O, ?_⟩
 ·intro n' b' c' t' hl
  rcases aI hl with ⟨_,e⟩|⟨_,hl⟩
  ·cases e;exact ⟨h1,ho⟩
  ·cases hl
 clear hw' hg h1 ho;refine Cc O ent76 (λw' hC hG=>fX p.J 170 [pnt c1] L (λW=>W.rangeAt c1 0 ((nr k).map U64)) ent170 (sM c1 k hL) hb w' hG (λw'' hg=>vL (aG (n:=33) O w' hC) hg))<|Sa 4 hGF O O O cj<|aa<|ak<|Rr<|?_;exact au 4 O O O isAgg54 sizeOf54 sm (λw hw=>⟨rfl,ab hw⟩)
theorem yr{x:Zp×Zp×Zp}{P:Pt Zp}(hP:E1.onP P)(hx:E1.jr x P)(k:Zr):E1.jr (tmF x (onK k)) (E1.times P k.val):=by
 rw[<-zM k O];exact tmF_jr hP hx (Dx k O)
def rS(p:GP)(k:Zr):GP:=⟨tmF p.J (onK k),E1.times p.P k.val,E1.times_on p.on _,yr p.on p.jr k⟩
theorem uE(p:GP)(k:Zr):PUR 33 [PtV p,RV k] (PtV (rS p k)):=w8 p k O (λ_ h=>Gr k O h)
end J1
namespace J2
theorem sM(c1:Nat)(k:Zr){L:List Nat}(hL:onK k=L):fD prog Gt 170 [pnt c1] (NLs L) (λW=>W.rangeAt c1 0 ((nr k).map U64)):=by
 subst hL;exact vG c1 (nr k) (fP k)
theorem w8(p:GP)(k:Zr){L:List Nat}(hL:onK k=L)(hb: ∀b∈L,b<100000000):PUR 36 [PtV p,RV k] (EV6 (E2w.tmF p.J L)):=by
 intro w hw;refine Hf func36 O hw<|λhGF=>ac (E:=EE [77,2000077])<|Bx 2 hGF O<|λb2=>Bx 3 hGF O<|λb3=>Al 4 hGF zv80<|λb4=>aa<|Xd [77,2000077]<|La 2 O O cm<|La 3 O O io<|?_;refine bK O O ent77 O O (λw' hw'=>(nP k w' (hGF.g _ _ _ hw')).mono λe' w'' h=> ?_);obtain ⟨c1,rfl,hg,h1,ho⟩:=h;refine ⟨_,_,rfl,ay hGF,hw'.news am hg [(33,c1,(nr k).map U64,25)] ?_ bQ,bO am O, ?_⟩
 ·intro n' b' c' t' hl
  rcases aI hl with ⟨_,e⟩|⟨_,hl⟩
  ·cases e;exact ⟨h1,ho⟩
  ·cases hl
 clear hw' hg h1 ho;refine Cc O ent82 (λw' hC hG=>fX p.J 170 [pnt c1] L (λW=>W.rangeAt c1 0 ((nr k).map U64)) ent170 (sM c1 k hL) hb w' hG (λw'' hg=>vL (aG (n:=33) O w' hC) hg))<|Sa 4 hGF O O O cm<|aa<|ak<|Rr<|?_;exact au 4 O O O isAgg80 sizeOf80 sm (λw hw=>⟨rfl,ab hw⟩)
theorem yr{x:W6}{P:Pt W2}(hP:E2w.onP P)(hx:E2w.jr x P)(k:Zr):E2w.jr (E2w.tmF x (onK k)) (E2w.times P k.val):=by
 rw[<-zM k O];exact E2w.tmF_jr hP hx (Dx k O)
def rS(p:GP)(k:Zr):GP:=⟨E2w.tmF p.J (onK k),E2w.times p.P k.val,E2w.times_on p.on _,yr p.on p.jr k⟩
theorem uE(p:GP)(k:Zr):PUR 36 [PtV p,RV k] (PtV (rS p k)):=w8 p k O (λ_ h=>Gr k O h)
end J2
end
section
open Go.RowKit
theorem ent133:ai prog 133:=λ_ _=>kr
theorem ent182:ai prog 182:=λ_ _=>kr
theorem ent264:ai prog 264:=λ_ _=>kr
theorem ent265:ai prog 265:=λ_ _=>kr
theorem ent278:ai prog 278:=λ_ _=>kr
theorem ent275:ai prog 275:=λ_ _=>kr
theorem ent279:ai prog 279:=λ_ _=>kr
theorem ent285:ai prog 285:=λ_ _=>kr
theorem ent10:ai prog 10:=λ_ _=>kr
namespace Sh
theorem zv92(w:World):(zeroValue 92).run prog w=.ok (.agg ((List.replicate 64 (0#32)).map U32).toArray) w:=(zeroValue92 w).trans rr
theorem zv91(w:World):(zeroValue 91).run prog w=.ok (.agg ((List.replicate 8 (0#32)).map U32).toArray) w:=(zeroValue91 w).trans rr
theorem zv289(w:World):(zeroValue 289).run prog w=.ok (.agg ((List.replicate 64 (0#8)).map U8).toArray) w:=(zeroValue289 w).trans rr
theorem zv98(w:World):(zeroValue 98).run prog w=.ok (.agg ((List.replicate 32 (0#8)).map U8).toArray) w:=(zeroValue98 w).trans rr
def lm(x:BitVec 32)(k:Int):BitVec 32:=(x<<<(BitVec.ofInt 64 k &&& 31#64).toNat)|||(x>>>(32#64-(BitVec.ofInt 64 k &&& 31#64)).toNat)
theorem eo(x:BitVec 32)(k:Int):PUR 288 [U32 x,I k] (U32 (lm x k)):=by
 intro w hw;refine Hf func288 O hw<|λhGF=>Xp<|Asg O<|aa<|Xp<|Mv O<|bV O O (λ_=>fO underlying3 underlying191 _) O O<|Bnr O O (λ_=>d9 _ _ _)<|Asg O<|aa<|Xp<|Mv O<|Mv O<|Bnr O O (λ_=>gW _ _ _)<|Mv O<|Mv O<|Bnr O O (λ_=>gR _ _ _)<|Bnr O O (λ_=>ee _ _ _)<|Bnr O O (λ_=>gF _ _ _)<|Asg O<|aa<|ak<|Rr<|?_;exact aE O O (λw hw=>⟨rfl,ab hw⟩)
def turn(x:BitVec 32)(n:Nat):BitVec 32:=(x>>>n)|||(x<<<(32-n))
theorem ep(x:BitVec 32)(n:Int)(h0:0<=n)(h1:n<=32):PUR 183 [U32 x,I n] (U32 (turn x n.toNat)):=by
 intro w hw;refine Hf func183 O hw<|λhGF=>Xp<|Asg O<|aa<|Xd []<|Mv O<|Mv O<|Bnr O O (λ_=>lw _ _ _ om)<|Mv O<|Mv O<|Bnr O O (λ_=>aV _ _ _ oi)<|Bnr O O (λ_=>rx _ _ _ om)<|Bnr O O (λ_=>gF _ _ _)<|Asg O<|aa<|ak<|Rr<|?_;exact aE O O (λw hw=>⟨by rw[show (32-n).toNat=32-n.toNat from by omega];rfl,ab hw⟩)
def qD(x:BitVec 32):BitVec 32:=lm x (-6)^^^lm x (-11)^^^lm x (-25)
theorem B8(x:BitVec 32):PUR 283 [U32 x] (U32 (qD x)):=by
 intro w hw;refine Hf func283 O hw<|λhGF=>Xp<|Asg O<|aa<|Xp<|Mv O<|Ca O (eo _ _)<|Mv O<|Ca O (eo _ _)<|Bnr O O (λ_=>bL _ _ _)<|Mv O<|Ca O (eo _ _)<|Bnr O O (λ_=>bL _ _ _)<|Asg O<|aa<|ak<|Rr<|?_;exact aE O O (λw hw=>⟨rfl,ab hw⟩)
def vv(x:BitVec 32):BitVec 32:=lm x (-2)^^^lm x (-13)^^^lm x (-22)
theorem CH(x:BitVec 32):PUR 284 [U32 x] (U32 (vv x)):=by
 intro w hw;refine Hf func284 O hw<|λhGF=>Xp<|Asg O<|aa<|Xp<|Mv O<|Ca O (eo _ _)<|Mv O<|Ca O (eo _ _)<|Bnr O O (λ_=>bL _ _ _)<|Mv O<|Ca O (eo _ _)<|Bnr O O (λ_=>bL _ _ _)<|Asg O<|aa<|ak<|Rr<|?_;exact aE O O (λw hw=>⟨rfl,ab hw⟩)
def Cy(x:BitVec 32):BitVec 32:=lm x (-7)^^^lm x (-18)^^^(x>>>3)
theorem CI(x:BitVec 32):PUR 287 [U32 x] (U32 (Cy x)):=by
 intro w hw;refine Hf func287 O hw<|λhGF=>Xp<|Asg O<|aa<|Xp<|Mv O<|Ca O (eo _ _)<|Mv O<|Ca O (eo _ _)<|Bnr O O (λ_=>bL _ _ _)<|Mv O<|Bnr O O (λ_=>ee _ _ _)<|Bnr O O (λ_=>bL _ _ _)<|Asg O<|aa<|ak<|Rr<|?_;exact aE O O (λw hw=>⟨rfl,ab hw⟩)
def BW(x:BitVec 32):BitVec 32:=lm x (-17)^^^lm x (-19)^^^(x>>>10)
theorem BZ(x:BitVec 32):PUR 286 [U32 x] (U32 (BW x)):=by
 intro w hw;refine Hf func286 O hw<|λhGF=>Xp<|Asg O<|aa<|Xp<|Mv O<|Ca O (eo _ _)<|Mv O<|Ca O (eo _ _)<|Bnr O O (λ_=>bL _ _ _)<|Mv O<|Bnr O O (λ_=>ee _ _ _)<|Bnr O O (λ_=>bL _ _ _)<|Asg O<|aa<|ak<|Rr<|?_;exact aE O O (λw hw=>⟨rfl,ab hw⟩)
end Sh
end
section
open Go.RowKit
namespace Sh
def w4(bl:L8)(i:Nat):BitVec 32:=((bl.getD (4*i) 0).setWidth 32<<<24)|||((bl.getD (4*i+1) 0).setWidth 32<<<16)|||((bl.getD (4*i+2) 0).setWidth 32<<<8)|||(bl.getD (4*i+3) 0).setWidth 32
def W1(bl:L8):Nat->L3
 |0=>List.replicate 64 0#32
 |k+1=>(W1 bl k).set k (w4 bl k)
theorem yO(bl:L8): ∀k,(W1 bl k).length=64
 |0=>by simp[W1]
 |k+1=>by simp[W1,yO bl k]
def w5(ws:L3)(i:Nat):BitVec 32:=BW (ws.getD (i-2) 0)+ws.getD (i-7) 0+Cy (ws.getD (i-15) 0)+ws.getD (i-16) 0
def W2(bl:L8):Nat->L3
 |0=>W1 bl 16
 |k+1=>(W2 bl k).set (16+k) (w5 (W2 bl k) (16+k))
theorem ia(bl:L8): ∀k,(W2 bl k).length=64
 |0=>yO bl 16
 |k+1=>by simp[W2,ia bl k]
theorem wR(bl:L8)(hb:bl.length=64):PUR 282 [.agg (bl.map U8).toArray] (.agg ((W2 bl 48).map U32).toArray):=by
 intro w hw;refine Hf func282 O hw<|λhGF=>Xp<|Bx 1 hGF O<|λb1=>Al 2 hGF zv92<|λb2=>aa<|Xp<|Al 3 hGF zv92<|λb3=>aa<|ae<|Xp<|Mv O<|aa<|ah<|bG (ι:={i:Nat // i<=16}) (λx=>[(6,I (x.1:Int)),(1,pnt b1),(2,pnt b2),(3,pnt b3)]) (λx=>[(3,b3,(W1 bl x.1).map U32,92),(2,b2,(List.replicate 64 (0#32)).map U32,92),(1,b1,bl.map U8,289)]) (λx=>16-x.1) ⟨0,om⟩ hGF trv trv<|?_;rintro ⟨i,hi⟩;dsimp only;refine Xp<|Bnr O O (λ_=>av _ _ _)<|aa<|ae<|?_;refine bC O (λhc=> ?_) (λhc=> ?_)
 ·simp only[decide_eq_true_eq]at hc
  refine ap<|ae<|ah<|Xp<|Mv O<|Asg O<|aa<|Xe []<|Mv O<|Mv O<|Bnr O O (λ_=>bp _ _ _ oi)<|Ia ((4*i)) O O underlying289 sizeOf5<|Lm 1 U8 0 O O isAgg5 (by rw[hb];omega)<|bV O O (λ_=>gQ underlying5 underlying90 _) O O<|Bnr O O (λ_=>gW _ _ _)<|Mv O<|Bnr O O (λ_=>bp _ _ _ oi)<|Bnr O O (λ_=>aq _ _ _ oi)<|Ia (((4*i)+1)) O O underlying289 sizeOf5<|Lm 1 U8 0 O O isAgg5 (by rw[hb];omega)<|bV O O (λ_=>gQ underlying5 underlying90 _) O O<|Bnr O O (λ_=>gW _ _ _)<|Bnr O O (λ_=>gF _ _ _)<|Mv O<|Bnr O O (λ_=>bp _ _ _ oi)<|Bnr O O (λ_=>aq _ _ _ oi)<|Ia (((4*i)+2)) O O underlying289 sizeOf5<|Lm 1 U8 0 O O isAgg5 (by rw[hb];omega)<|bV O O (λ_=>gQ underlying5 underlying90 _) O O<|Bnr O O (λ_=>gW _ _ _)<|Bnr O O (λ_=>gF _ _ _)<|Mv O<|Bnr O O (λ_=>bp _ _ _ oi)<|Bnr O O (λ_=>aq _ _ _ oi)<|Ia (((4*i)+3)) O O underlying289 sizeOf5<|Lm 1 U8 0 O O isAgg5 (by rw[hb];omega)<|bV O O (λ_=>gQ underlying5 underlying90 _) O O<|Bnr O O (λ_=>gF _ _ _)<|Ia (i) O O underlying92 sizeOf90<|aX 3 U32 hGF O O O sizeOf90 O (by rw[yO];omega) O<|?_
  exact aa<|Xq<|Bnr O O (λ_=>aq _ _ _ oi)<|Mv O<|aa<|aB<|⟨rfl,⟨i+1,om⟩,_,by show 16-(i+1)<16-i;omega,rfl,trv,trv⟩
 ·obtain rfl:i=16:=by simp at hc;omega
  refine aU<|ae<|Xp<|Asg O<|aa<|ah<|bG (ι:={i:Nat // i<=48}) (λx=>[(5,I ((16+x.1:Nat):Int)),(2,pnt b2),(3,pnt b3)]) (λx=>[(3,b3,(W2 bl x.1).map U32,92),(2,b2,(List.replicate 64 (0#32)).map U32,92)]) (λx=>48-x.1) ⟨0,om⟩ hGF trv trv<|?_;rintro ⟨j,hj⟩;dsimp only;refine ae<|Xp<|Mv O<|Bnr O O (λ_=>av _ _ _)<|aa<|?_;refine bC O (λhc=> ?_) (λhc=> ?_)
  ·simp only[decide_eq_true_eq]at hc
   exact ap<|ae<|ah<|Xe []<|Mv O<|Mv O<|Bnr O O (λ_=>aV _ _ _ oi)<|Ia (((16+j)-2)) O O underlying92 sizeOf90<|Lm 3 U32 0 O O isAgg90 (by rw[ia];omega)<|Ca O (BZ _)<|Mv O<|Bnr O O (λ_=>aV _ _ _ oi)<|Ia (((16+j)-7)) O O underlying92 sizeOf90<|Lm 3 U32 0 O O isAgg90 (by rw[ia];omega)<|Bnr O O (λ_=>be _ _ _)<|Mv O<|Bnr O O (λ_=>aV _ _ _ oi)<|Ia (((16+j)-15)) O O underlying92 sizeOf90<|Lm 3 U32 0 O O isAgg90 (by rw[ia];omega)<|Ca O (CI _)<|Bnr O O (λ_=>be _ _ _)<|Mv O<|Bnr O O (λ_=>aV _ _ _ oi)<|Ia (((16+j)-16)) O O underlying92 sizeOf90<|Lm 3 U32 0 O O isAgg90 (by rw[ia];omega)<|Bnr O O (λ_=>be _ _ _)<|Ia ((16+j)) O O underlying92 sizeOf90<|aX 3 U32 hGF O O O sizeOf90 O (by rw[ia];omega) O<|aa<|Xq<|Mv O<|Bnr O O (λ_=>aq _ _ _ oi)<|Asg O<|aa<|aB<|⟨rfl,⟨j+1,om⟩,_,by show 48-(j+1)<48-j;omega,rfl,trv,trv⟩
  ·obtain rfl:j=48:=by simp at hc;omega
   refine aU<|Xp<|Lw 3 O O KM (ia _ _)<|Sx 2 hGF O O O KM (ia _ _) (eH _)<|aa<|ak<|Rr<|?_;exact au 2 O O O isAgg92 sizeOf92 (by rw[List.length_map,ia]) (λw hw=>⟨rfl,ab hw⟩)
theorem gk{B:Bs}{L:Hl}{Y:Nat->Prop}(hw:Gt B.w0)(hM: ¬B.M 7)(k:Nat)(hk:k<64): ∀w,Hq B L Y w->w.cell? ⟨7,k,none⟩=some (U32 (KW.getD k 0)):=by
 have:=hw.g7 k _ (gm U32 KW 0 k hk);rw[Nat.zero_add]at this;exact lE this hM
structure V8 where
 (a b c d e f g h:BitVec 32)
def rnd(v:V8)(k w:BitVec 32):V8:=
 ⟨(v.h+qD v.e+(v.e &&& v.f^^^ ~~~v.e &&& v.g)+k+w)+(vv v.a+(v.a &&& v.b^^^v.a &&& v.c^^^v.b &&& v.c)),v.a,v.b,v.c,v.d+(v.h+qD v.e+(v.e &&& v.f^^^ ~~~v.e &&& v.g)+k+w),v.e,v.f,v.g⟩
def mO(v:V8)(ws:L3):Nat->V8
 |0=>v
 |k+1=>rnd (mO v ws k) (KW.getD k 0) (ws.getD k 0)
def v8(st:L3):V8:=⟨st.getD 0 0,st.getD 1 0,st.getD 2 0,st.getD 3 0,st.getD 4 0,st.getD 5 0,st.getD 6 0,st.getD 7 0⟩
def NS(st:L3)(v:V8):L3:=[st.getD 0 0+v.a,st.getD 1 0+v.b,st.getD 2 0+v.c,st.getD 3 0+v.d,st.getD 4 0+v.e,st.getD 5 0+v.f,st.getD 6 0+v.g,st.getD 7 0+v.h]
def rn(st:L3)(bl:L8):L3:=NS st (mO (v8 st) (W2 bl 48) 64)
theorem rX(st:L3)(bl:L8)(hs:st.length=8)(hb:bl.length=64):PUR 276 [.agg (st.map U32).toArray,.agg (bl.map U8).toArray] (.agg ((rn st bl).map U32).toArray):=by
 intro w hw;refine Hf func276 O hw<|λhGF=>Xp<|Bx 2 hGF O<|λb2=>Bx 3 hGF O<|λb3=>Al 4 hGF zv91<|λb4=>aa<|Xp<|Lw 3 O O Ab hb<|Ca O (wR _ hb)<|Al 5 hGF zv92<|λb5=>Sx 5 hGF O O O KM (ia _ _) (eH _)<|aa<|Xd []<|Ia (0) O O underlying91 sizeOf90<|Lm 2 U32 0 O O isAgg90 (by rw[hs];omega)<|Ia (1) O O underlying91 sizeOf90<|Lm 2 U32 0 O O isAgg90 (by rw[hs];omega)<|Ia (2) O O underlying91 sizeOf90<|Lm 2 U32 0 O O isAgg90 (by rw[hs];omega)<|Ia (3) O O underlying91 sizeOf90<|Lm 2 U32 0 O O isAgg90 (by rw[hs];omega)<|Asg O<|Asg O<|Asg O<|Asg O<|aa<|Xd []<|Ia (4) O O underlying91 sizeOf90<|Lm 2 U32 0 O O isAgg90 (by rw[hs];omega)<|Ia (5) O O underlying91 sizeOf90<|Lm 2 U32 0 O O isAgg90 (by rw[hs];omega)<|Ia (6) O O underlying91 sizeOf90<|Lm 2 U32 0 O O isAgg90 (by rw[hs];omega)<|Ia (7) O O underlying91 sizeOf90<|Lm 2 U32 0 O O isAgg90 (by rw[hs];omega)<|Asg O<|Asg O<|Asg O<|Asg O<|aa<|?_
 refine ae<|Xp<|Lw 5 O O KM (ia _ _)<|Mv O<|aa<|ah<|bG (ι:={i:Nat // i<=64}) (λx=>[(39,I (x.1:Int)),(2,pnt b2),(4,pnt b4),(6,U32 (mO (v8 st) (W2 bl 48) x.1).a),(7,U32 (mO (v8 st) (W2 bl 48) x.1).b),(8,U32 (mO (v8 st) (W2 bl 48) x.1).c),(9,U32 (mO (v8 st) (W2 bl 48) x.1).d),(10,U32 (mO (v8 st) (W2 bl 48) x.1).e),(11,U32 (mO (v8 st) (W2 bl 48) x.1).f),(12,U32 (mO (v8 st) (W2 bl 48) x.1).g),(13,U32 (mO (v8 st) (W2 bl 48) x.1).h),(38,.agg ((W2 bl 48).map U32).toArray)]) (λx=>[(2,b2,st.map U32,91),(4,b4,(List.replicate 8 (0#32)).map U32,91)]) (λx=>64-x.1) ⟨0,om⟩ hGF trv trv<|?_;rintro ⟨i,hi⟩;dsimp only;refine Xp<|Bnr O O (λ_=>av _ _ _)<|aa<|ae<|?_;refine bC O (λhc=> ?_) (λhc=> ?_)
 ·simp only[decide_eq_true_eq]at hc
  refine ap<|ae<|ah<|Xp<|Mv O<|i1 U32 0 (i) O O underlying92 sizeOf90 isAgg90 om om (ia _ _) O O<|Asg O<|Asg O<|aa<|Xp<|Mv O<|Mv O<|Bnr O O (λ_=>dq _ _ _)<|Mv O<|bi O (λ_=>pG _) O O<|Mv O<|Bnr O O (λ_=>dq _ _ _)<|Bnr O O (λ_=>bL _ _ _)<|Asg O<|aa<|Xd []<|Mv O<|Mv O<|Ca O (B8 _)<|Bnr O O (λ_=>be _ _ _)<|Mv O<|Bnr O O (λ_=>be _ _ _)<|Mv O<|Ia (i) O O underlying92 sizeOf90<|bN O isAgg90 (gk (B:=pl w) hw (λh=>h) (i) om) O O<|Bnr O O (λ_=>be _ _ _)<|Mv O<|Bnr O O (λ_=>be _ _ _)<|Asg O<|aa<|Xp<|Mv O<|Mv O<|Bnr O O (λ_=>dq _ _ _)<|Mv O<|?_;refine Mv O<|Bnr O O (λ_=>dq _ _ _)<|Bnr O O (λ_=>bL _ _ _)<|Mv O<|Mv O<|Bnr O O (λ_=>dq _ _ _)<|Bnr O O (λ_=>bL _ _ _)<|Asg O<|aa<|Xp<|Mv O<|Ca O (CH _)<|Mv O<|Bnr O O (λ_=>be _ _ _)<|Asg O<|aa<|Xp<|Mv O<|Mv O<|Mv O<|Mv O<|Mv O<|Bnr O O (λ_=>be _ _ _)<|Asg O<|Asg O<|Asg O<|Asg O<|aa<|Xq<|Mv O<|Mv O<|Mv O<|Mv O<|Mv O<|Bnr O O (λ_=>be _ _ _)<|Asg O<|Asg O<|Asg O<|Asg O<|aa<|?_;exact Xq<|Bnr O O (λ_=>aq _ _ _ oi)<|Mv O<|aa<|aB<|⟨rfl,⟨i+1,om⟩,_,by show 64-(i+1)<64-i;omega,rfl,trv,trv⟩
 ·obtain rfl:i=64:=by simp at hc;omega
  refine aU<|Xp<|Ia (0) O O underlying91 sizeOf90<|Lm 2 U32 0 O O isAgg90 (by rw[hs];omega)<|Mv O<|Bnr O O (λ_=>be _ _ _)<|Ia (1) O O underlying91 sizeOf90<|Lm 2 U32 0 O O isAgg90 (by rw[hs];omega)<|Mv O<|Bnr O O (λ_=>be _ _ _)<|Ia (2) O O underlying91 sizeOf90<|Lm 2 U32 0 O O isAgg90 (by rw[hs];omega)<|Mv O<|Bnr O O (λ_=>be _ _ _)<|Ia (3) O O underlying91 sizeOf90<|Lm 2 U32 0 O O isAgg90 (by rw[hs];omega)<|Mv O<|Bnr O O (λ_=>be _ _ _)<|Ia (4) O O underlying91 sizeOf90<|Lm 2 U32 0 O O isAgg90 (by rw[hs];omega)<|Mv O<|Bnr O O (λ_=>be _ _ _)<|Ia (5) O O underlying91 sizeOf90<|Lm 2 U32 0 O O isAgg90 (by rw[hs];omega)<|Mv O<|Bnr O O (λ_=>be _ _ _)<|Ia (6) O O underlying91 sizeOf90<|Lm 2 U32 0 O O isAgg90 (by rw[hs];omega)<|Mv O<|Bnr O O (λ_=>be _ _ _)<|Ia (7) O O underlying91 sizeOf90<|Lm 2 U32 0 O O isAgg90 (by rw[hs];omega)<|Mv O<|Bnr O O (λ_=>be _ _ _)<|bR (n:=8) O O underlying91 sizeOf90 zeroValue91 O O O O<|az 4 hGF O O O sizeOf91 O (by rw[List.length_map,List.length_replicate]) O O<|aa<|ak<|Rr<|?_
  exact au 4 O O O isAgg91 sizeOf91 O (λw hw=>⟨rfl,ab hw⟩)
def IV:L3:=[0x6a09e667#32,0xbb67ae85#32,0x3c6ef372#32,0xa54ff53a#32,0x510e527f#32,0x9b05688c#32,0x1f83d9ab#32,0x5be0cd19#32]
theorem yy  :PUR 281 [] (.agg (IV.map U32).toArray):=by
 intro w hw;refine Hf func281 O hw<|λhGF=>Xp<|Al 0 hGF zv91<|λb0=>aa<|Xp<|bR (n:=8) O O underlying91 sizeOf90 zeroValue91 O O O O<|az 0 hGF O O O sizeOf91 O (by rw[List.length_map,List.length_replicate]) O O<|aa<|ak<|Rr<|?_
 exact au 0 O O O isAgg91 sizeOf91 O (λw hw=>⟨rfl,ab hw⟩)
def DG(st:L3):Nat->L8
 |0=>List.replicate 32 0#8
 |k+1=>((((DG st k).set (4*k) ((st.getD k 0>>>24).setWidth 8)).set (4*k+1) ((st.getD k 0>>>16).setWidth 8)).set (4*k+2) ((st.getD k 0>>>8).setWidth 8)).set (4*k+3) ((st.getD k 0).setWidth 8)
theorem fB(st:L3): ∀k,(DG st k).length=32
 |0=>by simp[DG]
 |k+1=>by simp[DG,fB st k]
theorem u3(st:L3)(hs:st.length=8):PUR 277 [.agg (st.map U32).toArray] (.agg ((DG st 8).map U8).toArray):=by
 intro w hw;refine Hf func277 O hw<|λhGF=>Xp<|Bx 1 hGF O<|λb1=>Al 2 hGF zv98<|λb2=>aa<|Xp<|Al 3 hGF zv98<|λb3=>aa<|ae<|Xp<|Lw 1 O O re hs<|Mv O<|aa<|ah<|bG (ι:={i:Nat // i<=8}) (λx=>[(7,I (x.1:Int)),(2,pnt b2),(3,pnt b3),(6,.agg (st.map U32).toArray)]) (λx=>[(3,b3,(DG st x.1).map U8,98),(2,b2,(List.replicate 32 (0#8)).map U8,98)]) (λx=>8-x.1) ⟨0,om⟩ hGF trv trv<|?_;rintro ⟨i,hi⟩;dsimp only;refine Xp<|Bnr O O (λ_=>av _ _ _)<|aa<|ae<|?_;refine bC O (λhc=> ?_) (λhc=> ?_)
 ·simp only[decide_eq_true_eq]at hc
  refine ap<|ae<|ah<|Xp<|Mv O<|i1 U32 0 (i) O O underlying91 sizeOf90 isAgg90 om om (hs) O O<|Asg O<|Asg O<|aa<|Xp<|Mv O<|Bnr O O (λ_=>bp _ _ _ oi)<|Mv O<|Bnr O O (λ_=>ee _ _ _)<|bV O O (λ_=>gY underlying90 underlying5 _) O O<|Ia ((4*i)) O O underlying98 sizeOf5<|aX 3 U8 hGF O O O sizeOf5 O (by simp[fB];omega) O<|aa<|Xp<|Mv O<|Bnr O O (λ_=>bp _ _ _ oi)<|Bnr O O (λ_=>aq _ _ _ oi)<|Mv O<|Bnr O O (λ_=>ee _ _ _)<|bV O O (λ_=>gY underlying90 underlying5 _) O O<|Ia (((4*i)+1)) O O underlying98 sizeOf5<|aX 3 U8 hGF O O O sizeOf5 O (by simp[fB];omega) O<|aa<|Xp<|Mv O<|Bnr O O (λ_=>bp _ _ _ oi)<|Bnr O O (λ_=>aq _ _ _ oi)<|Mv O<|Bnr O O (λ_=>ee _ _ _)<|bV O O (λ_=>gY underlying90 underlying5 _) O O<|Ia (((4*i)+2)) O O underlying98 sizeOf5<|aX 3 U8 hGF O O O sizeOf5 O (by simp[fB];omega) O<|aa<|Xq<|Mv O<|?_
  exact Bnr O O (λ_=>bp _ _ _ oi)<|Bnr O O (λ_=>aq _ _ _ oi)<|Mv O<|bV O O (λ_=>gY underlying90 underlying5 _) O O<|Ia (((4*i)+3)) O O underlying98 sizeOf5<|aX 3 U8 hGF O O O sizeOf5 O (by simp[fB];omega) O<|aa<|Xq<|Bnr O O (λ_=>aq _ _ _ oi)<|Mv O<|aa<|aB<|⟨rfl,⟨i+1,om⟩,_,by show 8-(i+1)<8-i;omega,rfl,trv,trv⟩
 ·obtain rfl:i=8:=by simp at hc;omega
  refine aU<|Xp<|Lw 3 O O uK (fB _ _)<|Sx 2 hGF O O O uK (fB _ _) (bY _)<|aa<|ak<|Rr<|?_;exact au 2 O O O isAgg98 sizeOf98 (by rw[List.length_map,fB]) (λw hw=>⟨rfl,ab hw⟩)
end Sh
end
section
open Go.RowKit
namespace Sh
theorem G4:(prog.info? 5).map (·.size)=some 1:=kr
def e1(rs:L8):L8:=(rs++List.replicate (64-rs.length) 0#8).set rs.length 128#8
theorem yw(rs:L8)(h:rs.length<=64):(e1 rs).length=64:=by simp[e1];omega
def LB(bl:L8)(n:BitVec 64):Nat->L8
 |0=>bl
 |k+1=>(LB bl n k).set (56+k) (((8#64*n)>>>(56-8*(k:Int)).toNat).setWidth 8)
theorem y3(bl:L8)(n:BitVec 64): ∀k,(LB bl n k).length=bl.length
 |0=>rfl
 |k+1=>by simp[LB,y3 bl n k]
theorem s6(rs:L8)(n:BitVec 64)(h:rs.length<=64)(k:Nat):(LB (e1 rs) n k).length=64:=by rw[y3,yw rs h]
theorem tY(n:BitVec 64)(k:Nat):(LB (List.replicate 64 0#8) n k).length=64:=by rw[y3];simp
def sS(br bn:Nat)(a:Option Addr)(cap:Nat)(rs:L8)(n:BitVec 64):Cls:=λW=>W.cell? ⟨br,0,none⟩=some (.slice a rs.length cap)/\W.cell? ⟨bn,0,none⟩=some (U64 n)/\BytesAt W a rs
def enc(bl:L8):List Value:=[.agg (bl.map U8).toArray]
theorem bZ{J:(Nat->Prop)->World->Prop}(h:Rides J){L:Hl}{w:World}(hj:J (λb=>Yof L b\/False) w):J (λ_=>False) w:=h.less _ _ _ (λ_ h=>h.elim) hj
theorem CA(br bn:Nat)(a:Option Addr)(cap:Nat)(rs:L8)(n:BitVec 64)(h:rs.length<56):fD prog Gt 285 [pnt br,pnt bn] [enc (LB (e1 rs) n 8)] (sS br bn a cap rs n):=by
 intro l J Jx hJ hJx hRd hGx hY w hj;have okJ: ∀k,BOk Gt (Bi w (λY=>J Y k)):=λk=>⟨λ_ _ _ h=>(hRd _ _ _ h.rid).1,hJ k⟩;have okX: ∀k,BOk Gt (Bi w (λY=>Jx Y k)):=λk=>⟨λ_ _ _ h=>hGx _ _ _ h.rid,hJx k⟩;have c1: ∀k L w',Hp (Bi w (λY=>J Y k)) L w'->sS br bn a cap rs n w':=λk L w' h=>(hRd _ _ _ h.rid).2;refine cu (G:=Gt) func285 O O (Hp (Bi w (λY=>J Y 0)) []) (ci (Bi w _) hj (hJ 0)) (ay (okJ 0))<|Xp<|Al 4 (okJ _) zv289<|λb4=>aa<|Xd []<|bP (l:=0) (h':=64) O underlying289 sizeOf5 O O om om O O<|bN O isAgg22 (λw h=>(c1 _ _ w h).1) O O<|gK 4 (okJ _) O O O underlying22 G4 (by show rs.length=Nat.min rs.length 64;exact (Nat.min_eq_left om).symm) (λw h=>(c1 _ _ w h).2.2) (by simp;omega) O O<|?_
 rw[tf rs 64 om];refine aa<|Xp<|bN O isAgg22 (λw h=>(c1 _ _ w h).1) O O<|bc O (λ_=>aF underlying22 _ _ _ _) O O<|Ia (rs.length) O O underlying289 sizeOf5<|aX 4 U8 (okJ _) O O O sizeOf5 O (by simp;omega) O<|aa<|ae<|Xp<|bN O isAgg22 (λw h=>(c1 _ _ w h).1) O O<|bc O (λ_=>aF underlying22 _ _ _ _) O O<|Bnr O O (λ_=>dh _ _ _)<|aa<|aC (by show some (Value.bool (decide ((rs.length:Int)>=56)))=_;rw[decide_eq_false om])<|ap<|Xp<|bN O isAgg24 (λw h=>(c1 _ _ w h).2.1) O O<|Bnr O O (λ_=>cv _ _ _)<|Asg O<|aa<|ae<|Xp<|Mv O<|aa<|ah<|bG (ι:={i:Nat // i<=8}) (λx=>[(23,I (x.1:Int)),(0,.func (.yield l) #[] #[]),(4,pnt b4),(5,U64 (8#64*n))]) (λx=>[(4,b4,(LB (e1 rs) n x.1).map U8,289)]) (λx=>8-x.1) ⟨0,om⟩ (okJ _) trv trv<|?_
 rintro ⟨i,hi⟩;dsimp only;refine Xp<|Bnr O O (λ_=>av _ _ _)<|aa<|ae<|?_;refine bC O (λhc=> ?_) (λhc=> ?_)
 ·simp only[decide_eq_true_eq]at hc
  exact ap<|ae<|ah<|Xp<|Mv O<|Asg O<|aa<|Xq<|Mv O<|Bnr O O (λ_=>aq _ _ _ oi)<|Mv O<|Mv O<|Bnr O O (λ_=>bp _ _ _ oi)<|Bnr O O (λ_=>aV _ _ _ oi)<|Bnr O O (λ_=>da _ _ _ om)<|bV O O (λ_=>eJ underlying24 underlying5 _) O O<|Ia ((56+i)) O O underlying289 sizeOf5<|aX 4 U8 (okJ _) O O O sizeOf5 O (by rw[s6 rs n om];omega) O<|aa<|Xq<|Bnr O O (λ_=>aq _ _ _ oi)<|Mv O<|aa<|aB<|⟨rfl,⟨i+1,om⟩,_,by show 8-(i+1)<8-i;omega,rfl,trv,trv⟩
 ·obtain rfl:i=8:=by simp at hc;omega
  refine aU<|Xq<|Mv O<|Lw 4 O O Ab (by rw[s6 rs n om])<|?_
  refine dw (hY.b (k:=0) O w) (okJ _) (okX _) O O O O O ?_ ?_
  ·exact aa<|cS O (λw hw=>⟨⟨_,rfl⟩,.inl (bZ (hJ _) hw.rid)⟩)
  ·exact aa<|cS O (λw hw=>⟨⟨_,rfl⟩,.inr ⟨_,bZ (hJx _) hw.rid⟩⟩)
theorem Fl(br bn:Nat)(a:Option Addr)(cap:Nat)(rs:L8)(n:BitVec 64)(h:56<=rs.length)(h2:rs.length<64):fD prog Gt 285 [pnt br,pnt bn] [enc (e1 rs),enc (LB (List.replicate 64 0#8) n 8)] (sS br bn a cap rs n):=by
 intro l J Jx hJ hJx hRd hGx hY w hj;have okJ: ∀k,BOk Gt (Bi w (λY=>J Y k)):=λk=>⟨λ_ _ _ h=>(hRd _ _ _ h.rid).1,hJ k⟩;have okX: ∀k,BOk Gt (Bi w (λY=>Jx Y k)):=λk=>⟨λ_ _ _ h=>hGx _ _ _ h.rid,hJx k⟩;have c1: ∀k L w',Hp (Bi w (λY=>J Y k)) L w'->sS br bn a cap rs n w':=λk L w' h=>(hRd _ _ _ h.rid).2;refine cu (G:=Gt) func285 O O (Hp (Bi w (λY=>J Y 0)) []) (ci (Bi w _) hj (hJ 0)) (ay (okJ 0))<|Xp<|Al 4 (okJ _) zv289<|λb4=>aa<|Xd []<|bP (l:=0) (h':=64) O underlying289 sizeOf5 O O om om O O<|bN O isAgg22 (λw h=>(c1 _ _ w h).1) O O<|gK 4 (okJ _) O O O underlying22 G4 (by show rs.length=Nat.min rs.length 64;exact (Nat.min_eq_left om).symm) (λw h=>(c1 _ _ w h).2.2) (by simp;omega) O O<|?_
 rw[tf rs 64 om];refine aa<|Xp<|bN O isAgg22 (λw h=>(c1 _ _ w h).1) O O<|bc O (λ_=>aF underlying22 _ _ _ _) O O<|Ia (rs.length) O O underlying289 sizeOf5<|aX 4 U8 (okJ _) O O O sizeOf5 O (by simp;omega) O<|aa<|ae<|Xp<|bN O isAgg22 (λw h=>(c1 _ _ w h).1) O O<|bc O (λ_=>aF underlying22 _ _ _ _) O O<|Bnr O O (λ_=>dh _ _ _)<|aa<|aP (by show some (Value.bool (decide ((rs.length:Int)>=56)))=_;rw[decide_eq_true om])<|ae<|Xp<|Mv O<|bS 4 O O isAgg289 sizeOf289 (by simp;omega) O O<|?_
 refine dw (hY.b (k:=0) O w) (okJ _) (okX _) O O O O O ?_ ?_
 ·refine bi O (λ_=>a5 _) O O<|aa<|aC O<|ap<|Xq<|dX zv289 underlying289 sizeOf5 O O<|az 4 (okJ _) O O O sizeOf289 (by rw[List.length_map,List.length_replicate]) (by simp;omega) (bY _) O<|aa<|Xp<|bN O isAgg24 (λw h=>(c1 _ _ w h).2.1) O O<|Bnr O O (λ_=>cv _ _ _)<|Asg O<|aa<|ae<|Xp<|Mv O<|aa<|ah<|bG (ι:={i:Nat // i<=8}) (λx=>[(23,I (x.1:Int)),(0,.func (.yield l) #[] #[]),(4,pnt b4),(5,U64 (8#64*n))]) (λx=>[(4,b4,(LB (List.replicate 64 0#8) n x.1).map U8,289)]) (λx=>8-x.1) ⟨0,om⟩ (okJ _) trv trv<|?_
  rintro ⟨i,hi⟩;dsimp only;refine Xp<|Bnr O O (λ_=>av _ _ _)<|aa<|ae<|?_;refine bC O (λhc=> ?_) (λhc=> ?_)
  ·simp only[decide_eq_true_eq]at hc
   exact ap<|ae<|ah<|Xp<|Mv O<|Asg O<|aa<|Xq<|Mv O<|Bnr O O (λ_=>aq _ _ _ oi)<|Mv O<|Mv O<|Bnr O O (λ_=>bp _ _ _ oi)<|Bnr O O (λ_=>aV _ _ _ oi)<|Bnr O O (λ_=>da _ _ _ om)<|bV O O (λ_=>eJ underlying24 underlying5 _) O O<|Ia ((56+i)) O O underlying289 sizeOf5<|aX 4 U8 (okJ _) O O O sizeOf5 O (by rw[tY];omega) O<|aa<|Xq<|Bnr O O (λ_=>aq _ _ _ oi)<|Mv O<|aa<|aB<|⟨rfl,⟨i+1,om⟩,_,by show 8-(i+1)<8-i;omega,rfl,trv,trv⟩
  ·obtain rfl:i=8:=by simp at hc;omega
   refine aU<|Xq<|Mv O<|Lw 4 O O Ab (tY _ _)<|?_;refine dw (hY.b (k:=1) O w) (okJ _) (okX _) O O O O O ?_ ?_
   ·exact aa<|cS O (λw hw=>⟨⟨_,rfl⟩,.inl (bZ (hJ _) hw.rid)⟩)
   ·exact aa<|cS O (λw hw=>⟨⟨_,rfl⟩,.inr ⟨_,bZ (hJx _) hw.rid⟩⟩)
 ·refine bi O (λ_=>a5 _) O O<|aa<|aP O<|ak<|Rr<|?_
  exact dr O (λw hw=>⟨⟨_,rfl⟩,.inr ⟨_,bZ (hJx _) hw.rid⟩⟩)
end Sh
end
section
open Go.RowKit
namespace Sh
def fu(rs:L8)(n:BitVec 64):List L8:=if rs.length<56 then [LB (e1 rs) n 8]else [e1 rs,LB (List.replicate 64 0#8) n 8]
theorem nU(rs:L8)(n:BitVec 64)(h:rs.length<64): ∀bl∈fu rs n,bl.length=64:=by
 unfold fu;split
 ·intro bl hbl
  rcases List.mem_singleton.1 hbl with rfl
  exact s6 rs n om 8
 ·intro bl hbl
  rcases List.mem_cons.1 hbl with rfl|hbl
  ·exact yw rs om
  ·rcases List.mem_singleton.1 hbl with rfl
   exact tY n 8
theorem If(br bn:Nat)(a:Option Addr)(cap:Nat)(rs:L8)(n:BitVec 64)(h:rs.length<64):fD prog Gt 285 [pnt br,pnt bn] ((fu rs n).map enc) (sS br bn a cap rs n):=by
 unfold fu;split
 ·exact CA br bn a cap rs n (by assumption)
 ·exact Fl br bn a cap rs n om h
def iH(bs:L8):List L8:=(List.range (bs.length / 64)).map λk=>(bs.drop (64*k)).take 64
def pd(bs:L8):List L8:=iH bs++fu (bs.drop (64*(bs.length / 64))) (BitVec.ofInt 64 bs.length)
theorem Cs(bs:L8):(iH bs).length=bs.length / 64:=by simp[iH]
theorem wI(bs:L8):(bs.drop (64*(bs.length / 64))).length<64:=by simp;omega
theorem F4(bs:L8): ∀bl∈pd bs,bl.length=64:=by
 intro bl h;rcases List.mem_append.1 h with h|h
 ·obtain ⟨k,hk,rfl⟩:=List.mem_map.1 h
  have:=List.mem_range.1 hk;simp;omega
 ·exact nU _ _ (wI bs) bl h
theorem tR(sv:Value)(n:BitVec 64)(hs:sv.cells= #[sv])(w:World)(hw:Gt w):CLS 279 [sv,U64 n].toArray w (λe w'=> ∃b2 b3,e=.returned (.func (.func 285) #[] #[pnt b2,pnt b3])/\Grow w w'/\w.heap.size<=b2/\w.heap.size<=b3/\b2≠b3/\OwnB w' b2 [sv] 22/\OwnB w' b3 [U64 n] 24):=by
 refine Hf func279 O hw<|λhGF=>Xp<|iN 2 hGF O O O<|λb2=>iN 3 hGF O O O<|λb3=>Asg O<|aa<|Xp<|gj O O O O<|Asg O<|aa<|ak<|Rr<|?_;exact aE O O (λw hw=>⟨b2,b3,rfl,ab hw,(hw.own 2 b2 _ _ O).2.elim id False.elim,(hw.own 3 b3 _ _ O).2.elim id False.elim,(λe=>by subst e;exact absurd (hw.inj 2 3 _ _ _ _ _ O O) dc),(by have:=(hw.own 2 b2 _ _ O).1;rw[hs]at this;exact this),(hw.own 3 b3 _ _ O).1⟩)
theorem ux{n m:Nat}{b1 b2:Nat}{c1 c2:List Value}{t1 t2:TypeId}(hne:b1≠b2): ∀i j b c t c' t',lkB [(n,b1,c1,t1),(m,b2,c2,t2)] i=some (b,c,t)->lkB [(n,b1,c1,t1),(m,b2,c2,t2)] j=some (b,c',t')->i=j:=by
 intro i j b c t c' t' h1 h2;rcases aI h1 with ⟨e1,x1⟩|⟨_,h1⟩<;>rcases aI h2 with ⟨e2,x2⟩|⟨_,h2⟩
 ·exact e1.trans e2.symm
 ·rcases aI h2 with ⟨_,x2⟩|⟨_,h2⟩
  ·cases x1;cases x2;exact (hne O).elim
  ·cases h2
 ·rcases aI h1 with ⟨_,x1⟩|⟨_,h1⟩
  ·cases x1;cases x2;exact (hne O).elim
  ·cases h1
 ·rcases aI h1 with ⟨e1,x1⟩|⟨_,h1⟩
  ·rcases aI h2 with ⟨e2,x2⟩|⟨_,h2⟩
   ·exact e1.trans e2.symm
   ·cases h2
  ·cases h1
end Sh
end
section
open Go.RowKit
namespace Sh
def gM(st:L3)(bls:List L8):Nat->L3
 |0=>st
 |k+1=>rn (gM st bls k) (bls.getD k [])
theorem iE(st:L3)(bl:L8):(rn st bl).length=8:=rfl
theorem gP(st:L3)(bls:List L8)(h:st.length=8): ∀k,(gM st bls k).length=8
 |0=>h
 |_+1=>iE _ _
theorem BD(st:L3)(hs:st.length=8)(gf:Nat)(caps:List Value)(bls:List L8)(hb: ∀bl∈bls,bl.length=64)(Rd:Cls)(he:ai prog gf)(hseq:fD prog Gt gf caps (bls.map enc) Rd)(w:World)(hw:Gt w)(hRs: ∀w',Grow w w'->Rd w'):
 CLS 278 [.agg (st.map U32).toArray,.func (.func gf) #[] caps.toArray].toArray w (λe w'=>e=.returned (.agg ((gM st bls bls.length).map U32).toArray)/\Grow w w'):=by
 have hGF:BOk Gt (pl w):=gt_low.plain hw;refine cw (G:=Gt) func278 O O (Hp (pl w) []) (ci (pl w) trivial am) (ay hGF)<|Xp<|Bx 2 hGF O<|λb2=>Al 4 hGF zv91<|λb4=>aa<|ae<|Xp<|Mv O<|aa<|ah<|?_;refine fc (λ_=>pl w) (λ_ _=>pl w) (λ_=>hGF) (λ_ _=>hGF) (λ_=>rfl) (λ_ _=>rfl) O O he hseq (by simp[enc]) O (λk=>[(2,b2,(gM st bls k).map U32,91),(4,b4,(List.replicate 8 0#32).map U32,91)]) (λ_ _ _=>False) trv (λ_ _ w' h=>hRs w' (h.below (λ_ h=>h))) ?_ ?_ (λ_ _ _ _ _ h=>h.elim)
 ·intro k x hx R hR
  obtain ⟨hk,rfl⟩:k<bls.length/\enc (bls.getD k [])=x:=by
   rw[List.getElem?_map]at hx;rcases Nat.lt_or_ge k bls.length with h|h
   ·simp[h]at hx;exact ⟨h,by simpa [h]using hx⟩
   ·simp[h]at hx
  have hb64:(bls.getD k []).length=64:=hb _ (by rw[show bls.getD k []=bls[k]from by simp[hk]];exact List.getElem_mem hk)
  refine Xq<|dN 5 (hR (pl w) O hGF).1 zv289 O O<|λb5=>az 5 (hR (pl w) O hGF).1 O O O sizeOf289 (by rw[List.length_map,hb64]) (by rw[List.length_map,List.length_replicate]) (bY _) O<|aa<|?_
  refine ⟨rfl,_,rfl, ?_⟩;exact ah<|Xq<|Lw 2 O O re (by rw[gP st bls hs])<|Lw 5 O O Ab hb64<|Ca O (rX _ _ (gP _ _ hs _) hb64)<|az 2 (hR (pl w) O hGF).2.1 O O O sizeOf91 (by rw[List.length_map,iE]) (by rw[List.length_map,gP st bls hs]) (eH _) O<|aa<|⟨_,rfl,trv⟩
 ·intro D hD
  refine Xp<|Lw 2 O O re (by rw[gP st bls hs])<|Sx 4 hD O O O re (by rw[gP st bls hs]) (eH _)<|aa<|ak<|Rr<|?_
  refine dR (.inl O) am (au 4 O O O isAgg91 sizeOf91 (by rw[List.length_map,gP st bls hs]) (λw hw=>⟨?_,ab hw⟩))
  rw[List.length_map]
def SHA(bs:L8):L8:=DG (gM IV (pd bs) (pd bs).length) 8
theorem gH(bs:L8):(SHA bs).length=32:=fB _ 8
theorem bQ{n:Nat}{b1:Nat}{c1:List Value}{t1:TypeId}: ∀i j b c t c' t',lkB [(n,b1,c1,t1)] i=some (b,c,t)->lkB [(n,b1,c1,t1)] j=some (b,c',t')->i=j:=by
 intro i j b c t c' t' h1 h2;rcases aI h1 with ⟨e1,x1⟩|⟨_,h1⟩
 ·rcases aI h2 with ⟨e2,x2⟩|⟨_,h2⟩
  ·exact e1.trans e2.symm
  ·cases h2
 ·cases h1
end Sh
end
section
open Go.RowKit
namespace Sh
def hc(st:L3)(rs:L8)(n:BitVec 64):List Value:=st.map U32++(rs.map U8++[U64 n])
section
variable {st st':L3} {rs rs':L8} {n m:BitVec 64}
theorem sG(h1:st.length=8)(h2:rs.length=64):(hc st rs n).length=73:=by simp[hc,h1,h2]
theorem r7(h1:st.length=8)(h2:rs.length=64):(hc st rs n)[72]? =some (U64 n):=by
 unfold hc;rw[List.getElem?_append_right (by simp[h1]),List.getElem?_append_right (by simp[h1,h2])]
 simp[h1,h2]
theorem Wg: ∀j v,(st.map U32)[j]? =some v->(hc st rs n)[0+j]? =some v:=λj v hv=>by
 have:j<(st.map U32).length:=by
  rcases Nat.lt_or_ge j (st.map U32).length with h|h
  ·exact h
  ·rw[List.getElem?_eq_none h]at hv;cases hv
 unfold hc;rw[Nat.zero_add,List.getElem?_append_left this];exact hv
theorem LH(h1:st.length=8): ∀j v,(rs.map U8)[j]? =some v->(hc st rs n)[8+j]? =some v:=λj v hv=>by
 have:j<(rs.map U8).length:=by
  rcases Nat.lt_or_ge j (rs.map U8).length with h|h
  ·exact h
  ·rw[List.getElem?_eq_none h]at hv;cases hv
 unfold hc;rw[List.getElem?_append_right (by simp[h1]),List.getElem?_append_left (by simpa [h1]using this)]
 simpa [h1]using hv
theorem Qc(h1:st.length=8)(h1':st'.length=8):lay 0 (st'.map U32) (hc st rs n)=hc st' rs n:=by
 rw[jc _ _ _ (by simp[hc,h1,h1'])]
 simp[hc,h1',h1]
theorem vK(h1:st.length=8)(o:Nat)(xs:L8)(h:o+xs.length<=rs.length):lay (8+o) (xs.map U8) (hc st rs n)=hc st (rs.take o++xs++rs.drop (o+xs.length)) n:=by
 rw[jc _ _ _ (by simp[hc,h1];omega)]
 simp only[hc,List.take_append,List.drop_append,List.length_map,h1,List.map_append,List.map_take,List.map_drop];rw[List.take_of_length_le (by simp[h1]),List.drop_eq_nil_of_le (by simp[h1];omega)]
 rw[show 8+o-8=o from by omega,show o-rs.length=0 from by omega,show 8+o+xs.length-8=o+xs.length from by omega,show o+xs.length-rs.length=0 from by omega]
 simp
theorem Qq(h1:st.length=8)(h2:rs.length=64)(h2':rs'.length=64):lay 8 (rs'.map U8) (hc st rs n)=hc st rs' n:=by
 have:=vK (rs:=rs) (n:=n) h1 0 rs' om;rw[Nat.add_zero]at this;rw[this,Nat.zero_add,List.drop_eq_nil_of_le om];simp
theorem QU(h1:st.length=8)(h2:rs.length=64):(hc st rs n).set 72 (U64 m)=hc st rs m:=by
 unfold hc;rw[List.set_append_right _ _ (by simp[h1]),List.set_append_right _ _ (by simp[h1,h2])]
 simp[h1,h2]
end
def tl(T:L8):L8:=T.drop (64*(T.length / 64))
theorem lN(T:L8):(tl T).length=T.length % 64:=by simp[tl];omega
def nB(rs:L8):L8:=rs++List.replicate (64-rs.length) 0#8
theorem BU(rs:L8)(h:rs.length<=64):(nB rs).length=64:=by simp[nB];omega
def full(T:L8):L3:=gM IV (iH T) (T.length / 64)
structure HInv(T:L8)(st:L3)(rs:L8)(n:BitVec 64):Prop where
 len:T.length<9223372036854775808
 st8:st.length=8
 rest:rs=nB (tl T)
 num:n=BitVec.ofNat 64 T.length
 state:64<=T.length->st=full T
theorem HInv.zero:HInv [] (List.replicate 8 0#32) (List.replicate 64 0#8) 0:=⟨sm,sm,by simp[nB,tl],rfl,λh=>by simp at h⟩
theorem HInv.rs64{T:L8}{st:L3}{rs:L8}{n:BitVec 64}(h:HInv T st rs n):rs.length=64:=by rw[h.rest];exact BU _ (by rw[lN];omega)
theorem HInv.toNat{T:L8}{st:L3}{rs:L8}{n:BitVec 64}(h:HInv T st rs n):n.toNat=T.length:=by
 have:=h.len;rw[h.num,BitVec.toNat_ofNat];omega
def rch(st:L3)(n:BitVec 64):L3:=if n<64#64 then IV else st
theorem HInv.rch{T:L8}{st:L3}{rs:L8}{n:BitVec 64}(h:HInv T st rs n):rch st n=full T:=by
 unfold Sh.rch;by_cases hlt:n<64#64
 ·have:T.length<64:=by have h1:=BitVec.lt_def.1 hlt;rw[h.toNat]at h1;simpa using h1
  rw[if_pos hlt,full,Nat.div_eq_of_lt this];rfl
 ·have: ¬T.length<64:=λh'=>hlt (BitVec.lt_def.2 (by rw[h.toNat];simpa using h'))
  rw[if_neg hlt];exact h.state om
theorem mr{st:L3}{n:BitVec 64}(h:st.length=8):(rch st n).length=8:=by unfold rch;split;rfl;exact h
theorem jD(st:L3)(a b:List L8): ∀k,(∀i,i<k->a.getD i []=b.getD i [])->gM st a k=gM st b k
 |0,_=>rfl
 |k+1,h=>by rw[gM,gM,jD st a b k (λi hi=>h i om),h k om]
theorem nG(st:L3)(a b:List L8): ∀k,gM st (a++b) (a.length+k)=gM (gM st a a.length) b k
 |0=>by
  show gM st (a++b) a.length=gM st a a.length;exact jD st _ _ _ (λi hi=>by simp[List.getElem?_append_left hi])
 |k+1=>by
  rw[<-Nat.add_assoc,gM,nG st a b k,gM];congr 1;simp only[List.getD_eq_getElem?_getD];rw[List.getElem?_append_right om,Nat.add_sub_cancel_left]
theorem Gd(T:L8):SHA T=DG (gM (full T) (fu (tl T) (BitVec.ofInt 64 T.length)) (fu (tl T) (BitVec.ofInt 64 T.length)).length) 8:=by
 have:=nG IV (iH T) (fu (tl T) (BitVec.ofInt 64 T.length)) (fu (tl T) (BitVec.ofInt 64 T.length)).length;unfold SHA;rw[show pd T=iH T++fu (tl T) (BitVec.ofInt 64 T.length)from O,List.length_append,this,Cs];rfl
theorem HInv.part{T:L8}{st:L3}{rs:L8}{n:BitVec 64}(h:HInv T st rs n)(xs:L8)(hx:T.length % 64+xs.length<64)(hl:(T++xs).length<9223372036854775808):
 HInv (T++xs) st (rs.take (T.length % 64)++xs++rs.drop (T.length % 64+xs.length)) (n+BitVec.ofInt 64 xs.length):=by
 have hd:(T++xs).length / 64=T.length / 64:=by simp;omega
 have ht:tl (T++xs)=tl T++xs:=by
  unfold tl;rw[hd,List.drop_append_of_le_length om]
 refine ⟨hl,h.st8, ?_, ?_,λh64=> ?_⟩
 ·have e:=lN T
  rw[h.rest,ht,nB,nB];rw[List.take_append_of_le_length om,List.take_of_length_le om,List.drop_append,List.drop_eq_nil_of_le om];simp only[List.nil_append,List.append_assoc,List.drop_replicate,List.length_append];congr 3;omega
 ·apply BitVec.eq_of_toNat_eq
  rw[BitVec.toNat_add,h.toNat,BitVec.ofInt_natCast,BitVec.toNat_ofNat,BitVec.toNat_ofNat];simp
 ·have h64':64<=T.length:=by simp at h64;omega
  rw[h.state h64',full,full,hd];refine jD _ _ _ _ (λi hi=> ?_);have h1:i<T.length / 64:=hi;have h2:i<(T++xs).length / 64:=om;have e1:(iH T).getD i []=(T.drop (64*i)).take 64:=by simp[iH,h1]
  have e2:(iH (T++xs)).getD i []=((T++xs).drop (64*i)).take 64:=by
   unfold iH;simp[-List.length_append,h2]
  rw[e1,e2,List.drop_append_of_le_length om,List.take_append_of_le_length (by simp;omega)]
theorem HInv.fill{T:L8}{st:L3}{rs:L8}{n:BitVec 64}(h:HInv T st rs n)(xs:L8)(hx:T.length % 64+xs.length=64)(hl:(T++xs).length<9223372036854775808):
 HInv (T++xs) (rn (full T) (rs.take (T.length % 64)++xs++rs.drop (T.length % 64+xs.length))) (List.replicate 64 0#8) (n+BitVec.ofInt 64 xs.length):=by
 have hd:(T++xs).length / 64=T.length / 64+1:=by simp;omega
 have ht:tl (T++xs)=[]:=by
  unfold tl;rw[hd];apply List.drop_eq_nil_of_le;simp;omega
 refine ⟨hl,iE _ _,by rw[ht];rfl, ?_,λ_=> ?_⟩
 ·apply BitVec.eq_of_toNat_eq
  rw[BitVec.toNat_add,h.toNat,BitVec.ofInt_natCast,BitVec.toNat_ofNat,BitVec.toNat_ofNat];simp
 ·rw[full,full,hd,gM]
  have e2: ∀i,i<(T++xs).length / 64->(iH (T++xs)).getD i []=((T++xs).drop (64*i)).take 64:=λi hi=>by
   unfold iH;simp[-List.length_append,hi]
  congr 1
  ·refine jD _ _ _ _ (λi hi=> ?_)
   have e1:(iH T).getD i []=(T.drop (64*i)).take 64:=by simp[iH,hi]
   rw[e1,e2 i om,List.drop_append_of_le_length om,List.take_append_of_le_length (by simp;omega)]
  ·have e:=lN T
   rw[e2 _ om,h.rest,nB,List.take_append_of_le_length om,List.take_of_length_le om,List.drop_append,List.drop_eq_nil_of_le om];rw[List.drop_append_of_le_length om,show T.drop (64*(T.length / 64))=tl T from O,List.take_of_length_le (by simp;omega)]
   simp;omega
end Sh
end
end Go.Proofs.YtjookodjbjabbaaGreatDoor
