/-
 The walks of package fp2: sums and products.
 The walks of package fp2: signs and roots; the reference's elements.
-/
import Derived.Test.YtodgbdcjjhmnkaaGreatDoorX9
import Derived.Test.YtodgbdcjjhmnkaaGreatDoorX5
import Derived.Test.YtodgbdcjjhmnkaaGreatDoorX3
import Derived.Test.YtodgbdcjjhmnkaaGreatDoorQ1
set_option maxRecDepth 100000
set_option maxHeartbeats 1000000
namespace Go.Proofs.YtodgbdcjjhmnkaaGreatDoor
open Go.Proofs.Tryz
section
open Go.RowKit
attribute [local simp] a8 bG aE az a6 aY aQ aK a9 PLl d8 ec N1l d6 d9 dR bC bL bN bO ce
theorem ent83:ah Tryz.prog 83:=fun _ _=>by kernel_rfl
theorem ent52:ah Tryz.prog 52:=fun _ _=>by kernel_rfl
theorem ent91:ah Tryz.prog 91:=fun _ _=>by kernel_rfl
theorem ent75:ah Tryz.prog 75:=fun _ _=>by kernel_rfl
theorem ent98:ah Tryz.prog 98:=fun _ _=>by kernel_rfl
theorem ent37:ah Tryz.prog 37:=fun _ _=>by kernel_rfl
theorem ent73:ah Tryz.prog 73:=fun _ _=>by kernel_rfl
theorem ent49:ah Tryz.prog 49:=fun _ _=>by kernel_rfl
theorem ent51:ah Tryz.prog 51:=fun _ _=>by kernel_rfl
theorem ent94:ah Tryz.prog 94:=fun _ _=>by kernel_rfl
theorem ent53:ah Tryz.prog 53:=fun _ _=>by kernel_rfl
theorem ent79:ah Tryz.prog 79:=fun _ _=>by kernel_rfl
theorem ent78:ah Tryz.prog 78:=fun _ _=>by kernel_rfl
theorem ent81:ah Tryz.prog 81:=fun _ _=>by kernel_rfl
theorem ent146:ah Tryz.prog 146:=fun _ _=>by kernel_rfl
theorem ent82:ah Tryz.prog 82:=fun _ _=>by kernel_rfl
theorem ent70:ah Tryz.prog 70:=fun _ _=>by kernel_rfl
theorem ent68:ah Tryz.prog 68:=fun _ _=>by kernel_rfl
theorem ent114:ah Tryz.prog 114:=fun _ _=>by kernel_rfl
theorem ent67:ah Tryz.prog 67:=fun _ _=>by kernel_rfl
theorem ent72:ah Tryz.prog 72:=fun _ _=>by kernel_rfl
theorem ent66:ah Tryz.prog 66:=fun _ _=>by kernel_rfl
theorem ent154:ah Tryz.prog 154:=fun _ _=>by kernel_rfl
theorem ent112:ah Tryz.prog 112:=fun _ _=>by kernel_rfl
theorem ent157:ah Tryz.prog 157:=fun _ _=>by kernel_rfl
theorem ent119:ah Tryz.prog 119:=fun _ _=>by kernel_rfl
abbrev EV2(x:W2):Value:=.agg ((fe x.1++fe x.2).map U64).toArray
theorem zf27(w:World):(zeroValue 27).run Tryz.prog w=.ok (.agg ((fe 0).map U64).toArray) w:=by rw[gA];exact (zeroValue27 w).trans (by rfl)
theorem zv29(w:World):(zeroValue 29).run Tryz.prog w=.ok (.agg ((fe 0++fe 0).map U64).toArray) w:=by rw[gA];exact (zeroValue29 w).trans (by rfl)
theorem cO:Two Tryz.prog 29 ⟨ "C0",27,0,false, "", "",0⟩ ⟨ "C1",27,6,false, "", "",48⟩ 6 6 (fe 0) (fe 0):=⟨underlying29,rfl,rfl,sizeOf27,sizeOf27,zv29,a8 0,a8 0⟩
theorem zv39(w:World):(zeroValue 39).run Tryz.prog w=.ok (.agg ((fe 0++fe 0).map U64).toArray) w:=by rw[gA];exact (zeroValue39 w).trans (by rfl)
theorem DZ:Two Tryz.prog 39 ⟨ "A",37,0,false, "", "",0⟩ ⟨ "B",37,6,false, "", "",48⟩ 6 6 (fe 0) (fe 0):=⟨underlying39,rfl,rfl,sizeOf37,sizeOf37,zv39,a8 0,a8 0⟩
theorem e2{a b c d:Zp}(h1:a=c)(h2:b=d):Ending.returned (.agg ((fe a++fe b).map U64).toArray)=.returned (.agg ((fe c++fe d).map U64).toArray):=by rw[h1,h2]
theorem rb{a b:Bool}(h:a=b):Ending.returned (.bool a)=.returned (.bool b):=by rw[h]
def q3:Sh (Zp×Zp×Zp):=q1.two (q1.two q1 1) 1
theorem pE{f:FuncId}{fn:Func}{c:Code}(T:Tb Tryz.prog Gt)(hf:Tryz.prog.funcs[f]? =some fn)(a:List S0)(v:S1)(vc:S1×CB)(p:Pa)(h:xF T fn c a p=some vc)(hc:Ok vc.2)(e:vc.1=v)(hb:fn.body=some c:=by rfl)(hn:Nat.ble a.length fn.ntmps=true:=by rfl):Pure Tryz.prog Gt f (a.map (dn rid)) (dn1 rid v):=by rw[←e];exact Gn (v:=vc.1) (cs:=vc.2) T iq gtS hf hb h hc hn rid
theorem el2{a b c d:Zp}(h1:a=c)(h2:b=d):(Sum.inl (Sum.inl [a,b]):S1)=.inl (.inl [c,d]):=by rw[h1,h2]
theorem eb{a b:Bool}(h:a=b):(Sum.inl (.inr (.inl a)):S1)=.inl (.inr (.inl b)):=by rw[h]
theorem ei{a b:Int}(h:a=b):(Sum.inl (.inr (.inr (.inl (I a)))):S1)=.inl (.inr (.inr (.inl (I b)))):=by rw[h]
theorem ci{f:Nat}{g:Zp→Zp→Zp}(en:ah Tryz.prog f)(h: ∀a b,Pure Tryz.prog Gt f [EV a,EV b] (EV (g a b))):Snd Tryz.prog Gt f (c2 q1.ag q1.ag q1.rd g):=iT q1.ag q1.ag q1.rd en h
def TO1:Tb Tryz.prog Gt:=TB.add (ci (g:=fun x y=>x*y) ent40 fK)
theorem mN{f:Nat}{g:BitVec 64→Zp}(en:ah Tryz.prog f)(h: ∀a,Pure Tryz.prog Gt f [U64 a] (EV (g a))):Snd Tryz.prog Gt f (c1 agU q1.rd g):=fN agU q1.rd en h
def TO2:Tb Tryz.prog Gt:=TO1.add (mN (g:=fun n=>zp n.toNat) ent76 cU)
theorem lw{f:Nat}{g:Zp→Zp→Bool}(en:ah Tryz.prog f)(h: ∀a b,Pure Tryz.prog Gt f [EV a,EV b] (.bool (g a b))):Snd Tryz.prog Gt f (c2 q1.ag q1.ag rdB g):=iT q1.ag q1.ag rdB en h
def TO3:Tb Tryz.prog Gt:=TO2.add (lw (g:=fun x y=>decide (x=y)) ent93 jX)
theorem eO{f:Nat}{g:Zp→Bool}(en:ah Tryz.prog f)(h: ∀a,Pure Tryz.prog Gt f [EV a] (.bool (g a))):Snd Tryz.prog Gt f (c1 q1.ag rdB g):=fN q1.ag rdB en h
def TO4:Tb Tryz.prog Gt:=TO3.add (eO (g:=fun x=>decide (x=0)) ent77 nK)
def TO5:Tb Tryz.prog Gt:=TO4.add (ci (g:=fun x y=>x+y) ent41 mW)
def TO6:Tb Tryz.prog Gt:=TO5.add (ci (g:=fun x y=>x-y) ent92 m9)
theorem eV{f:Nat}{g:Zp→Zp}(en:ah Tryz.prog f)(h: ∀a,Pure Tryz.prog Gt f [EV a] (EV (g a))):Snd Tryz.prog Gt f (c1 q1.ag q1.rd g):=fN q1.ag q1.rd en h
def TO7:Tb Tryz.prog Gt:=TO6.add (eV (g:=fun x=> -x) ent74 c8)
def TO8:Tb Tryz.prog Gt:=TO7.add (eV (g:=fun x=>x*x) ent125 gq)
theorem kW{f:Nat}{g:Zp}(en:ah Tryz.prog f)(h:Pure Tryz.prog Gt f [U64 1#64] (EV g)):Snd Tryz.prog Gt f (c1 (agL 1) q1.rd (fun _=>g)):=fN (agL 1) q1.rd en (fun _=>h)
def TO9:Tb Tryz.prog Gt:=TO8.add (kW (g:=1) ent76 mR)
def TO10:Tb Tryz.prog Gt:=TO9.add (eV (g:=fun x=>x^(PP-2)) ent95 vl)
def TO11:Tb Tryz.prog Gt:=TO10.add (eO (g:=fun x=>decide (x.val % 2=1)) ent169 uV)
def TO12:Tb Tryz.prog Gt:=TO11.add (eO (g:=fun x=>decide (hf<x.val)) ent127 kj)
theorem ko{f:Nat}{g:Zp→Zp}{k:Zp→Bool}(en:ah Tryz.prog f)(h: ∀a,Pure Tryz.prog Gt f [EV a] (.tuple #[EV (g a),.bool (k a)])):Snd Tryz.prog Gt f (c1 q1.ag q1.rdB (fun a=>((g a),(k a)))):=fN q1.ag q1.rdB en h
def TO13:Tb Tryz.prog Gt:=TO12.add (ko (g:=SQ) (k:=fun x=>decide (SQr x*SQr x=x)) ent80 rV)
def TO14:Tb Tryz.prog Gt:=TO13.add (ci (g:=fun x y=>x*y) ent120 zz)
def TO15:Tb Tryz.prog Gt:=TO14.add (ci (g:=fun x y=>x+y) ent123 Jy)
def TO16:Tb Tryz.prog Gt:=TO15.add (ci (g:=fun x y=>x-y) ent122 JI)
def TO17:Tb Tryz.prog Gt:=TO16.add (eV (g:=fun x=> -x) ent111 vE)
def TO18:Tb Tryz.prog Gt:=TO17.add (eV (g:=fun x=>x^(PP-2)) ent155 It)
def TO19:Tb Tryz.prog Gt:=TO18.add (eO (g:=fun x=>decide (x=0)) ent121 yK)
def TO20:Tb Tryz.prog Gt:=TO19.add (eO (g:=fun x=>decide (x.val % 2=1)) ent158 Ih)
def TO21:Tb Tryz.prog Gt:=TO20.add (eO (g:=fun x=>decide (hf<x.val)) ent172 nj)
def TO22:Tb Tryz.prog Gt:=TO21.add (mN (g:=fun n=>zp n.toNat) ent110 i3)
def TO23:Tb Tryz.prog Gt:=TO22.add (ko (g:=SQ) (k:=fun x=>decide (SQr x*SQr x=x)) ent156 EM)
theorem wh  :Pure Tryz.prog Gt 83 [] (EV2 on2):=pE TO23 func83 [] (.inl (.inl [on2.1,on2.2])) (.inl (.inl [1,0]),[]) [] (by kernel_rfl) aD rfl
theorem oR{f:Nat}{g:W2}(en:ah Tryz.prog f)(h:Pure Tryz.prog Gt f [] (EV2 g)):Snd Tryz.prog Gt f (c0 q2.rd g):=DI q2.rd en h
def TO24:Tb Tryz.prog Gt:=TO23.add (oR (g:=on2) ent83 wh)
theorem sH(x y:W2):Pure Tryz.prog Gt 52 [EV2 x,EV2 y] (.bool (decide (x=y))):=by
 by_cases h:x.1=y.1
 ·exact pE TO24 func52 [.inl [x.1,x.2],.inl [y.1,y.2]] (.inl (.inr (.inl (decide (x=y))))) (.inl (.inr (.inl (decide (x.2=y.2)))),[(decide (x.1=y.1),true)]) [some true] (by kernel_rfl) (am (decide_eq_true h) aD) (eb (rP h))
 ·exact pE TO24 func52 [.inl [x.1,x.2],.inl [y.1,y.2]] (.inl (.inr (.inl (decide (x=y))))) (.inl (.inr (.inl false)),[(decide (x.1=y.1),false)]) [some false] (by kernel_rfl) (am (decide_eq_false h) aD) (eb (q8 h))
theorem lv{f:Nat}{g:W2→W2→Bool}(en:ah Tryz.prog f)(h: ∀a b,Pure Tryz.prog Gt f [EV2 a,EV2 b] (.bool (g a b))):Snd Tryz.prog Gt f (c2 q2.ag q2.ag rdB g):=iT q2.ag q2.ag rdB en h
def TO25:Tb Tryz.prog Gt:=TO24.add (lv (g:=fun x y=>decide (x=y)) ent52 sH)
theorem qt(x:W2):Pure Tryz.prog Gt 91 [EV2 x] (.bool (decide (x=ze2))):=by
 by_cases h:x.1=0
 ·exact pE TO25 func91 [.inl [x.1,x.2]] (.inl (.inr (.inl (decide (x=ze2))))) (.inl (.inr (.inl (decide (x.2=0)))),[(decide (x.1=0),true)]) [some true] (by kernel_rfl) (am (decide_eq_true h) aD) (eb (rP (y:=ze2) h))
 ·exact pE TO25 func91 [.inl [x.1,x.2]] (.inl (.inr (.inl (decide (x=ze2))))) (.inl (.inr (.inl false)),[(decide (x.1=0),false)]) [some false] (by kernel_rfl) (am (decide_eq_false h) aD) (eb (q8 (y:=ze2) h))
theorem g9{f:Nat}{g:W2→Bool}(en:ah Tryz.prog f)(h: ∀a,Pure Tryz.prog Gt f [EV2 a] (.bool (g a))):Snd Tryz.prog Gt f (c1 q2.ag rdB g):=fN q2.ag rdB en h
def TO26:Tb Tryz.prog Gt:=TO25.add (g9 (g:=fun x=>decide (x=ze2)) ent91 qt)
theorem uk(x y:W2):Pure Tryz.prog Gt 75 [EV2 x,EV2 y] (EV2 (ad2 x y)):=pE TO26 func75 [.inl [x.1,x.2],.inl [y.1,y.2]] (.inl (.inl [(ad2 x y).1,(ad2 x y).2])) (.inl (.inl [x.1+y.1,x.2+y.2]),[]) [] (by kernel_rfl) aD rfl
theorem bI{f:Nat}{g:W2→W2→W2}(en:ah Tryz.prog f)(h: ∀a b,Pure Tryz.prog Gt f [EV2 a,EV2 b] (EV2 (g a b))):Snd Tryz.prog Gt f (c2 q2.ag q2.ag q2.rd g):=iT q2.ag q2.ag q2.rd en h
def TO27:Tb Tryz.prog Gt:=TO26.add (bI (g:=ad2) ent75 uk)
theorem CR(x y:W2):Pure Tryz.prog Gt 98 [EV2 x,EV2 y] (EV2 (sb2 x y)):=pE TO27 func98 [.inl [x.1,x.2],.inl [y.1,y.2]] (.inl (.inl [(sb2 x y).1,(sb2 x y).2])) (.inl (.inl [x.1-y.1,x.2-y.2]),[]) [] (by kernel_rfl) aD rfl
def TO28:Tb Tryz.prog Gt:=TO27.add (bI (g:=sb2) ent98 CR)
theorem zh(x:W2):Pure Tryz.prog Gt 37 [EV2 x] (EV2 (ng2 x)):=pE TO28 func37 [.inl [x.1,x.2]] (.inl (.inl [(ng2 x).1,(ng2 x).2])) (.inl (.inl [-x.1,-x.2]),[]) [] (by kernel_rfl) aD rfl
theorem cE{f:Nat}{g:W2→W2}(en:ah Tryz.prog f)(h: ∀a,Pure Tryz.prog Gt f [EV2 a] (EV2 (g a))):Snd Tryz.prog Gt f (c1 q2.ag q2.rd g):=fN q2.ag q2.rd en h
def TO29:Tb Tryz.prog Gt:=TO28.add (cE (g:=ng2) ent37 zh)
theorem nA(x:W2):Pure Tryz.prog Gt 73 [EV2 x] (EV2 (cj2 x)):=pE TO29 func73 [.inl [x.1,x.2]] (.inl (.inl [(cj2 x).1,(cj2 x).2])) (.inl (.inl [x.1,-x.2]),[]) [] (by kernel_rfl) aD rfl
def TO30:Tb Tryz.prog Gt:=TO29.add (cE (g:=cj2) ent73 nA)
theorem fL(x y:W2):Pure Tryz.prog Gt 49 [EV2 x,EV2 y] (EV2 (ml2 x y)):=pE TO30 func49 [.inl [x.1,x.2],.inl [y.1,y.2]] (.inl (.inl [(ml2 x y).1,(ml2 x y).2])) (let t0:=(x.1+x.2)*(y.1+y.2);let t1:=(x.1*y.1)-(x.2*y.2);let t2:=t0-(x.1*y.1);let t3:=t2-(x.2*y.2);(.inl (.inl [t1,t3]),[])) [] (by kernel_rfl) aD (el2 (by first|(simp only[ml2];done)|(simp only[ml2];grind)) (by first|(simp only[ml2];done)|(simp only[ml2];grind)))
def TO31:Tb Tryz.prog Gt:=TO30.add (bI (g:=ml2) ent49 fL)
theorem jk(x:W2):Pure Tryz.prog Gt 51 [EV2 x] (EV2 (ml2 x x)):=pE TO31 func51 [.inl [x.1,x.2]] (.inl (.inl [(ml2 x x).1,(ml2 x x).2])) (let t0:=(x.1+x.2)*(x.1-x.2);let t1:=(x.1*x.2)+(x.1*x.2);(.inl (.inl [t0,t1]),[])) [] (by kernel_rfl) aD (el2 (by first|(simp only[ml2];done)|(simp only[ml2];grind)) (by first|(simp only[ml2];done)|(simp only[ml2];grind)))
def TO32:Tb Tryz.prog Gt:=TO31.add (cE (g:=fun x=>ml2 x x) ent51 jk)
theorem Cg(x:W2)(c:Zp):Pure Tryz.prog Gt 94 [EV2 x,EV c] (EV2 (sc2 x c)):=pE TO32 func94 [.inl [x.1,x.2],.inl [c]] (.inl (.inl [(sc2 x c).1,(sc2 x c).2])) (.inl (.inl [x.1*c,x.2*c]),[]) [] (by kernel_rfl) aD rfl
theorem gv{f:Nat}{g:W2→Zp→W2}(en:ah Tryz.prog f)(h: ∀a b,Pure Tryz.prog Gt f [EV2 a,EV b] (EV2 (g a b))):Snd Tryz.prog Gt f (c2 q2.ag q1.ag q2.rd g):=iT q2.ag q1.ag q2.rd en h
def TO33:Tb Tryz.prog Gt:=TO32.add (gv (g:=sc2) ent94 Cg)
theorem Fv(x:W2):Pure Tryz.prog Gt 79 [EV2 x] (EV (nm2 x)):=pE TO33 func79 [.inl [x.1,x.2]] (.inl (.inl [nm2 x])) (let t0:=(x.1*x.1)+(x.2*x.2);(.inl (.inl [t0]),[])) [] (by kernel_rfl) aD rfl
theorem l5{f:Nat}{g:W2→Zp}(en:ah Tryz.prog f)(h: ∀a,Pure Tryz.prog Gt f [EV2 a] (EV (g a))):Snd Tryz.prog Gt f (c1 q2.ag q1.rd g):=fN q2.ag q1.rd en h
def TO34:Tb Tryz.prog Gt:=TO33.add (l5 (g:=nm2) ent79 Fv)
theorem Dj(x:W2):Pure Tryz.prog Gt 53 [EV2 x] (EV2 (iv2 x)):=pE TO34 func53 [.inl [x.1,x.2]] (.inl (.inl [(iv2 x).1,(iv2 x).2])) (let t0:=cj2 x;let t1:=(nm2 x)^(PP-2);let t2:=sc2 (t0.1,t0.2) t1;(.inl (.inl [t2.1,t2.2]),[])) [] (by kernel_rfl) aD rfl
def TO35:Tb Tryz.prog Gt:=TO34.add (cE (g:=iv2) ent53 Dj)
end
section
open Go.RowKit
attribute [local simp] a8 bG aE az a6 aY aQ aK a9 PLl d8 ec N1l d6 d9 dR bC bL bN bO ce
theorem D1{x:W2}(h:x.2=0):decide (hf<x.1.val)=LG2 x:=by rw[LG2,if_pos h]
theorem wV{x:W2}(h: ¬x.2=0):decide (hf<x.2.val)=LG2 x:=by rw[LG2,if_neg h]
theorem Lf{x:W2}(h:hf<x.2.val):true=LG2 x:=by
 have h0: ¬x.2=0:=fun e=>by rw[e]at h;exact Nat.not_lt_zero _ h
 rw[←wV h0,decide_eq_true h]
theorem K1{x:W2}(h: ¬hf<x.2.val)(h0: ¬x.2=0):false=LG2 x:=by rw[←wV h0,decide_eq_false h]
theorem DE{x:W2}(h:x.1.val % 2=1):1=SG2 x:=by rw[SG2,if_pos h]
theorem D4{x:W2}(h: ¬x.1.val % 2=1)(h0:x.1=0)(h2:x.2.val % 2=1):1=SG2 x:=by rw[SG2,if_neg h,if_pos h0,if_pos h2]
theorem D3{x:W2}(h: ¬x.1.val % 2=1)(h0:x.1=0)(h2: ¬x.2.val % 2=1):0=SG2 x:=by rw[SG2,if_neg h,if_pos h0,if_neg h2]
theorem C2{x:W2}(h: ¬x.1.val % 2=1)(h0: ¬x.1=0):0=SG2 x:=by rw[SG2,if_neg h,if_neg h0]
theorem Cr:Pure Tryz.prog Gt 110 [U64 1#64] (EV 1):=i3 1#64
theorem AJ:Pure Tryz.prog Gt 110 [U64 2#64] (EV (zp 2)):=i3 2#64
def TO36:Tb Tryz.prog Gt:=TO35.add (kW (g:=1) ent110 Cr)
theorem rK{f:Nat}{g:Zp}(en:ah Tryz.prog f)(h:Pure Tryz.prog Gt f [U64 2#64] (EV g)):Snd Tryz.prog Gt f (c1 (agL 2) q1.rd (fun _=>g)):=fN (agL 2) q1.rd en (fun _=>h)
def TO37:Tb Tryz.prog Gt:=TO36.add (rK (g:=zp 2) ent110 AJ)
theorem BD(x:W2):Pure Tryz.prog Gt 82 [EV2 x] (.bool (LG2 x)):=by
 by_cases h:hf<x.2.val
 ·exact pE TO37 func82 [.inl [x.1,x.2]] (.inl (.inr (.inl (LG2 x)))) (.inl (.inr (.inl true)),[(decide (hf<x.2.val),true)]) [some true] (by kernel_rfl) (am (decide_eq_true h) aD) (eb (Lf h))
 ·by_cases h0:x.2=0
  ·exact pE TO37 func82 [.inl [x.1,x.2]] (.inl (.inr (.inl (LG2 x)))) (.inl (.inr (.inl (decide (hf<x.1.val)))),[(decide (hf<x.2.val),false),(decide (x.2=0),true)]) [some false,some true] (by kernel_rfl) (am (decide_eq_false h) (am (decide_eq_true h0) aD)) (eb (D1 h0))
  ·exact pE TO37 func82 [.inl [x.1,x.2]] (.inl (.inr (.inl (LG2 x)))) (.inl (.inr (.inl false)),[(decide (hf<x.2.val),false),(decide (x.2=0),false)]) [some false,some false] (by kernel_rfl) (am (decide_eq_false h) (am (decide_eq_false h0) aD)) (eb (K1 h h0))
def TO38:Tb Tryz.prog Gt:=TO37.add (g9 (g:=LG2) ent82 BD)
theorem qf(x:W2):Pure Tryz.prog Gt 146 [EV2 x] (I (SG2 x)):=by
 by_cases h:x.1.val % 2=1
 ·exact pE TO38 func146 [.inl [x.1,x.2]] (.inl (.inr (.inr (.inl (I (SG2 x)))))) (.inl (.inr (.inr (.inl (I 1)))),[(decide (x.1.val % 2=1),true)]) [some true] (by kernel_rfl) (am (decide_eq_true h) aD) (ei (DE h))
 ·by_cases h0:x.1=0
  ·by_cases h2:x.2.val % 2=1
   ·exact pE TO38 func146 [.inl [x.1,x.2]] (.inl (.inr (.inr (.inl (I (SG2 x)))))) (.inl (.inr (.inr (.inl (I 1)))),[(decide (x.1.val % 2=1),false),(decide (x.1=0),true),(decide (x.2.val % 2=1),true)]) [some false,some true,some true] (by kernel_rfl) (am (decide_eq_false h) (am (decide_eq_true h0) (am (decide_eq_true h2) aD))) (ei (D4 h h0 h2))
   ·exact pE TO38 func146 [.inl [x.1,x.2]] (.inl (.inr (.inr (.inl (I (SG2 x)))))) (.inl (.inr (.inr (.inl (I 0)))),[(decide (x.1.val % 2=1),false),(decide (x.1=0),true),(decide (x.2.val % 2=1),false)]) [some false,some true,some false] (by kernel_rfl) (am (decide_eq_false h) (am (decide_eq_true h0) (am (decide_eq_false h2) aD))) (ei (D3 h h0 h2))
  ·exact pE TO38 func146 [.inl [x.1,x.2]] (.inl (.inr (.inr (.inl (I (SG2 x)))))) (.inl (.inr (.inr (.inl (I 0)))),[(decide (x.1.val % 2=1),false),(decide (x.1=0),false)]) [some false,some false] (by kernel_rfl) (am (decide_eq_false h) (am (decide_eq_false h0) aD)) (ei (C2 h h0))
theorem mP{f:Nat}{g:W2→Value}(en:ah Tryz.prog f)(h: ∀a,Pure Tryz.prog Gt f [EV2 a] ((g a))):Snd Tryz.prog Gt f (c1 q2.ag rdV g):=fN q2.ag rdV en h
def TO39:Tb Tryz.prog Gt:=TO38.add (mP (g:=fun x=>I (SG2 x)) ent146 qf)
theorem Ll(x:W2):Pure Tryz.prog Gt 119 [EV2 x] (I (SG2 x)):=by
 by_cases h:x.1.val % 2=1
 ·exact pE TO39 func119 [.inl [x.1,x.2]] (.inl (.inr (.inr (.inl (I (SG2 x)))))) (.inl (.inr (.inr (.inl (I 1)))),[(decide (x.1.val % 2=1),true)]) [some true] (by kernel_rfl) (am (decide_eq_true h) aD) (ei (DE h))
 ·by_cases h0:x.1=0
  ·by_cases h2:x.2.val % 2=1
   ·exact pE TO39 func119 [.inl [x.1,x.2]] (.inl (.inr (.inr (.inl (I (SG2 x)))))) (.inl (.inr (.inr (.inl (I 1)))),[(decide (x.1.val % 2=1),false),(decide (x.1=0),true),(decide (x.2.val % 2=1),true)]) [some false,some true,some true] (by kernel_rfl) (am (decide_eq_false h) (am (decide_eq_true h0) (am (decide_eq_true h2) aD))) (ei (D4 h h0 h2))
   ·exact pE TO39 func119 [.inl [x.1,x.2]] (.inl (.inr (.inr (.inl (I (SG2 x)))))) (.inl (.inr (.inr (.inl (I 0)))),[(decide (x.1.val % 2=1),false),(decide (x.1=0),true),(decide (x.2.val % 2=1),false)]) [some false,some true,some false] (by kernel_rfl) (am (decide_eq_false h) (am (decide_eq_true h0) (am (decide_eq_false h2) aD))) (ei (D3 h h0 h2))
  ·exact pE TO39 func119 [.inl [x.1,x.2]] (.inl (.inr (.inr (.inl (I (SG2 x)))))) (.inl (.inr (.inr (.inl (I 0)))),[(decide (x.1.val % 2=1),false),(decide (x.1=0),false)]) [some false,some false] (by kernel_rfl) (am (decide_eq_false h) (am (decide_eq_false h0) aD)) (ei (C2 h h0))
def TO40:Tb Tryz.prog Gt:=TO39.add (mP (g:=fun x=>I (SG2 x)) ent119 Ll)
theorem Lu  :Pure Tryz.prog Gt 70 [] (EV2 on2):=pE TO40 func70 [] (.inl (.inl [on2.1,on2.2])) (.inl (.inl [1,0]),[]) [] (by kernel_rfl) aD rfl
def TO41:Tb Tryz.prog Gt:=TO40.add (oR (g:=on2) ent70 Lu)
theorem wd(x:W2):Pure Tryz.prog Gt 68 [EV2 x] (.bool (decide (x=ze2))):=by
 by_cases h:x.1=0
 ·exact pE TO41 func68 [.inl [x.1,x.2]] (.inl (.inr (.inl (decide (x=ze2))))) (.inl (.inr (.inl (decide (x.2=0)))),[(decide (x.1=0),true)]) [some true] (by kernel_rfl) (am (decide_eq_true h) aD) (eb (rP (y:=ze2) h))
 ·exact pE TO41 func68 [.inl [x.1,x.2]] (.inl (.inr (.inl (decide (x=ze2))))) (.inl (.inr (.inl false)),[(decide (x.1=0),false)]) [some false] (by kernel_rfl) (am (decide_eq_false h) aD) (eb (q8 (y:=ze2) h))
def TO42:Tb Tryz.prog Gt:=TO41.add (g9 (g:=fun x=>decide (x=ze2)) ent68 wd)
theorem LO(x y:W2):Pure Tryz.prog Gt 114 [EV2 x,EV2 y] (EV2 (ad2 x y)):=pE TO42 func114 [.inl [x.1,x.2],.inl [y.1,y.2]] (.inl (.inl [(ad2 x y).1,(ad2 x y).2])) (.inl (.inl [x.1+y.1,x.2+y.2]),[]) [] (by kernel_rfl) aD rfl
def TO43:Tb Tryz.prog Gt:=TO42.add (bI (g:=ad2) ent114 LO)
theorem Dn(x y:W2):Pure Tryz.prog Gt 67 [EV2 x,EV2 y] (EV2 (sb2 x y)):=pE TO43 func67 [.inl [x.1,x.2],.inl [y.1,y.2]] (.inl (.inl [(sb2 x y).1,(sb2 x y).2])) (.inl (.inl [x.1-y.1,x.2-y.2]),[]) [] (by kernel_rfl) aD rfl
def TO44:Tb Tryz.prog Gt:=TO43.add (bI (g:=sb2) ent67 Dn)
theorem IA(x:W2):Pure Tryz.prog Gt 72 [EV2 x] (EV2 (ng2 x)):=pE TO44 func72 [.inl [x.1,x.2]] (.inl (.inl [(ng2 x).1,(ng2 x).2])) (.inl (.inl [-x.1,-x.2]),[]) [] (by kernel_rfl) aD rfl
def TO45:Tb Tryz.prog Gt:=TO44.add (cE (g:=ng2) ent72 IA)
theorem IU(x y:W2):Pure Tryz.prog Gt 66 [EV2 x,EV2 y] (EV2 (ml2 x y)):=by
 by_cases h:x.2=0
 ·by_cases h2:y.2=0
  ·exact pE TO45 func66 [.inl [x.1,x.2],.inl [y.1,y.2]] (.inl (.inl [(ml2 x y).1,(ml2 x y).2])) (.inl (.inl [x.1*y.1,0]),[(decide (x.2=0),true),(decide (y.2=0),true)]) [some true,some true] (by kernel_rfl) (am (decide_eq_true h) (am (decide_eq_true h2) aD)) (el2 (by simp only[ml2];rw[h];grind) (by simp only[ml2];rw[h,h2,fW,n0,Cx]))
  ·exact pE TO45 func66 [.inl [x.1,x.2],.inl [y.1,y.2]] (.inl (.inl [(ml2 x y).1,(ml2 x y).2])) (let t0:=(x.1*y.1)-(x.2*y.2);let t1:=(x.1+x.2)*(y.1+y.2);let t2:=t1-(x.1*y.1);let t3:=t2-(x.2*y.2);(.inl (.inl [t0,t3]),[(decide (x.2=0),true),(decide (y.2=0),false)])) [some true,some false] (by kernel_rfl) (am (decide_eq_true h) (am (decide_eq_false h2) aD)) (el2 (by first|(simp only[ml2];done)|(simp only[ml2];grind)) (by first|(simp only[ml2];done)|(simp only[ml2];grind)))
 ·exact pE TO45 func66 [.inl [x.1,x.2],.inl [y.1,y.2]] (.inl (.inl [(ml2 x y).1,(ml2 x y).2])) (let t0:=(x.1*y.1)-(x.2*y.2);let t1:=(x.1+x.2)*(y.1+y.2);let t2:=t1-(x.1*y.1);let t3:=t2-(x.2*y.2);(.inl (.inl [t0,t3]),[(decide (x.2=0),false)])) [some false] (by kernel_rfl) (am (decide_eq_false h) aD) (el2 (by first|(simp only[ml2];done)|(simp only[ml2];grind)) (by first|(simp only[ml2];done)|(simp only[ml2];grind)))
def TO46:Tb Tryz.prog Gt:=TO45.add (bI (g:=ml2) ent66 IU)
theorem GJ(x:W2):Pure Tryz.prog Gt 154 [EV2 x] (EV (nm2 x)):=pE TO46 func154 [.inl [x.1,x.2]] (.inl (.inl [nm2 x])) (let t0:=(x.1*x.1)+(x.2*x.2);(.inl (.inl [t0]),[])) [] (by kernel_rfl) aD rfl
def TO47:Tb Tryz.prog Gt:=TO46.add (l5 (g:=nm2) ent154 GJ)
theorem JV(x:W2):Pure Tryz.prog Gt 112 [EV2 x] (EV2 (iv2 x)):=pE TO47 func112 [.inl [x.1,x.2]] (.inl (.inl [(iv2 x).1,(iv2 x).2])) (let t0:=(nm2 x)^(PP-2);(.inl (.inl [x.1*t0,(-x.2)*t0]),[])) [] (by kernel_rfl) aD rfl
def TO48:Tb Tryz.prog Gt:=TO47.add (cE (g:=iv2) ent112 JV)
theorem B6(x:W2):Pure Tryz.prog Gt 157 [EV2 x] (.bool (LG2 x)):=by
 by_cases h:x.2=0
 ·exact pE TO48 func157 [.inl [x.1,x.2]] (.inl (.inr (.inl (LG2 x)))) (.inl (.inr (.inl (decide (hf<x.1.val)))),[(decide (x.2=0),true)]) [some true] (by kernel_rfl) (am (decide_eq_true h) aD) (eb (D1 h))
 ·exact pE TO48 func157 [.inl [x.1,x.2]] (.inl (.inr (.inl (LG2 x)))) (.inl (.inr (.inl (decide (hf<x.2.val)))),[(decide (x.2=0),false)]) [some false] (by kernel_rfl) (am (decide_eq_false h) aD) (eb (wV h))
def TO49:Tb Tryz.prog Gt:=TO48.add (g9 (g:=LG2) ent157 B6)
theorem n7(c:Zp):Pure Tryz.prog Gt 78 [EV c] (EV2 (RO c)):=by
 by_cases h:SQr c*SQr c=c
 ·exact pE TO49 func78 [.inl [c]] (.inl (.inl [(RO c).1,(RO c).2])) (.inl (.inl [SQ c,0]),[(decide (SQr c*SQr c=c),true)]) [some true] (by kernel_rfl) (am (decide_eq_true h) aD) (by rw[show RO c=(SQ c,0)from if_pos h]<;>exact rfl)
 ·exact pE TO49 func78 [.inl [c]] (.inl (.inl [(RO c).1,(RO c).2])) (.inl (.inl [0,SQ (-c)]),[(decide (SQr c*SQr c=c),false)]) [some false] (by kernel_rfl) (am (decide_eq_false h) aD) (by rw[show RO c=(0,SQ (-c))from if_neg h]<;>exact rfl)
theorem qP{f:Nat}{g:Zp→W2}(en:ah Tryz.prog f)(h: ∀a,Pure Tryz.prog Gt f [EV a] (EV2 (g a))):Snd Tryz.prog Gt f (c1 q1.ag q2.rd g):=fN q1.ag q2.rd en h
def TO50:Tb Tryz.prog Gt:=TO49.add (qP (g:=RO) ent78 n7)
theorem xZ(x:W2)(n:Zp):Pure Tryz.prog Gt 81 [EV2 x,EV n] (EV2 (RB x n)):=by
 by_cases h:SQr (RBs x n)*SQr (RBs x n)=RBs x n
 ·exact pE TO50 func81 [.inl [x.1,x.2],.inl [n]] (.inl (.inl [(RB x n).1,(RB x n).2])) (let t0:=(x.1+n)+(x.1+n);let t1:=(SQ t0)^(PP-2);let t2:=(x.1+n)*t1;(.inl (.inl [t2,x.2*t1]),[(decide (SQr t0*SQr t0=t0),true)])) [some true] (by kernel_rfl) (am (decide_eq_true h) aD) (by rw[show RB x n=_ from if_pos h]<;>exact rfl)
 ·exact pE TO50 func81 [.inl [x.1,x.2],.inl [n]] (.inl (.inl [(RB x n).1,(RB x n).2])) (let t0:=(x.1+n)+(x.1+n);let t1:=(SQ (-t0))^(PP-2);let t2:=(-(x.1+n))*t1;(.inl (.inl [x.2*t1,t2]),[(decide (SQr t0*SQr t0=t0),false)])) [some false] (by kernel_rfl) (am (decide_eq_false h) aD) (by rw[show RB x n=_ from if_neg h]<;>exact rfl)
def TO51:Tb Tryz.prog Gt:=TO50.add (gv (g:=RB) ent81 xZ)
theorem G0{α:Type}(f:W2→α)(x:W2):f (x.1,x.2)=f x:=rfl
theorem kG(x r:W2)(hr:ml2 r r=x)(hl:LG2 r=false):Pure Tryz.prog Gt 36 [EV2 x] (.tuple #[EV2 r,.bool true]):=by
 by_cases h:x.2=0
 ·exact pE TO51 func36 [.inl [x.1,x.2]] (.inr [.inl [r.1,r.2],.inr (.inl true)]) (let t0:=RO x.1;(.inr [.inl [t0.1,t0.2],.inr (.inl true)],[(decide (x.2=0),true)])) [some true] (by kernel_rfl) (am (decide_eq_true h) aD) (by rw[←CG hr hl h]<;>exact rfl)
 ·by_cases hc:LG2 (RB x (SQ (nm2 x)))=true
  ·exact pE TO51 func36 [.inl [x.1,x.2]] (.inr [.inl [r.1,r.2],.inr (.inl true)]) (let t0:=RB x (SQ (nm2 x));let t1:=ng2 (t0.1,t0.2);(.inr [.inl [t1.1,t1.2],.inr (.inl true)],[(decide (x.2=0),false),(decide (SQr (nm2 x)*SQr (nm2 x)=(nm2 x)),true),(LG2 (t0.1,t0.2),true)])) [some false,some true,some true] (by kernel_rfl) (am (decide_eq_false h) (am (decide_eq_true (jL hr)) (am ((G0 LG2 (RB x (SQ (nm2 x)))).trans hc) aD))) (by rw[←sY hr hl h,NL,if_pos hc,←G0 ng2 (RB x (SQ (nm2 x)))]<;>exact rfl)
  ·exact pE TO51 func36 [.inl [x.1,x.2]] (.inr [.inl [r.1,r.2],.inr (.inl true)]) (let t0:=RB x (SQ (nm2 x));(.inr [.inl [t0.1,t0.2],.inr (.inl true)],[(decide (x.2=0),false),(decide (SQr (nm2 x)*SQr (nm2 x)=(nm2 x)),true),(LG2 (t0.1,t0.2),false)])) [some false,some true,some false] (by kernel_rfl) (am (decide_eq_false h) (am (decide_eq_true (jL hr)) (am ((G0 LG2 (RB x (SQ (nm2 x)))).trans (Bool.eq_false_iff.2 hc)) aD))) (by rw[←sY hr hl h,NL,if_neg hc]<;>exact rfl)
theorem nd(x:W2)(hq: ¬IsQ (nm2 x)):Pure Tryz.prog Gt 36 [EV2 x] (.tuple #[EV2 ze2,.bool false]):=by
 exact pE TO51 func36 [.inl [x.1,x.2]] (.inr [.inl [ze2.1,ze2.2],.inr (.inl false)]) (.inr [.inl [0,0],.inr (.inl false)],[(decide (x.2=0),false),(decide (SQr (nm2 x)*SQr (nm2 x)=(nm2 x)),false)]) [some false,some false] (by kernel_rfl) (am (decide_eq_false (Lr hq)) (am (decide_eq_false hq) aD)) rfl
end
end Go.Proofs.YtodgbdcjjhmnkaaGreatDoor
