/-
 The walks of package fp2: sums and products.
 The walks of package fp2: signs and roots; the reference's elements.
-/
import Derived.Test.YtodgbdcjjhmnkaaGreatDoorX9
import Derived.Test.YtodgbdcjjhmnkaaGreatDoorX5
import Derived.Test.YtodgbdcjjhmnkaaGreatDoorX3
import Derived.Test.YtodgbdcjjhmnkaaGreatDoorQ1
set_option maxRecDepth 100000
set_option maxHeartbeats 1000000
namespace Go.Proofs.YtodgbdcjjhmnkaaGreatDoor
open Go.Proofs.Tryz
section
open Go.RowKit
attribute [local simp] bp bQ aI aB bj bc aX aW bv PLl eK eI N1l eP eU eW bJ bV bY bX cH
theorem ent83:am Tryz.prog 83:=fun _ _=>by kernel_rfl
theorem ent52:am Tryz.prog 52:=fun _ _=>by kernel_rfl
theorem ent91:am Tryz.prog 91:=fun _ _=>by kernel_rfl
theorem ent75:am Tryz.prog 75:=fun _ _=>by kernel_rfl
theorem ent98:am Tryz.prog 98:=fun _ _=>by kernel_rfl
theorem ent37:am Tryz.prog 37:=fun _ _=>by kernel_rfl
theorem ent73:am Tryz.prog 73:=fun _ _=>by kernel_rfl
theorem ent49:am Tryz.prog 49:=fun _ _=>by kernel_rfl
theorem ent51:am Tryz.prog 51:=fun _ _=>by kernel_rfl
theorem ent94:am Tryz.prog 94:=fun _ _=>by kernel_rfl
theorem ent53:am Tryz.prog 53:=fun _ _=>by kernel_rfl
theorem ent79:am Tryz.prog 79:=fun _ _=>by kernel_rfl
theorem ent78:am Tryz.prog 78:=fun _ _=>by kernel_rfl
theorem ent81:am Tryz.prog 81:=fun _ _=>by kernel_rfl
theorem ent146:am Tryz.prog 146:=fun _ _=>by kernel_rfl
theorem ent82:am Tryz.prog 82:=fun _ _=>by kernel_rfl
theorem ent70:am Tryz.prog 70:=fun _ _=>by kernel_rfl
theorem ent68:am Tryz.prog 68:=fun _ _=>by kernel_rfl
theorem ent114:am Tryz.prog 114:=fun _ _=>by kernel_rfl
theorem ent67:am Tryz.prog 67:=fun _ _=>by kernel_rfl
theorem ent72:am Tryz.prog 72:=fun _ _=>by kernel_rfl
theorem ent66:am Tryz.prog 66:=fun _ _=>by kernel_rfl
theorem ent154:am Tryz.prog 154:=fun _ _=>by kernel_rfl
theorem ent112:am Tryz.prog 112:=fun _ _=>by kernel_rfl
theorem ent157:am Tryz.prog 157:=fun _ _=>by kernel_rfl
theorem ent119:am Tryz.prog 119:=fun _ _=>by kernel_rfl
abbrev EV2(x:W2):Value:=.agg ((fe x.1++fe x.2).map U64).toArray
theorem zf27(w:World):(zeroValue 27).run Tryz.prog w=.ok (.agg ((fe 0).map U64).toArray) w:=by rw[ij];exact (zeroValue27 w).trans (by rfl)
theorem zv29(w:World):(zeroValue 29).run Tryz.prog w=.ok (.agg ((fe 0++fe 0).map U64).toArray) w:=by rw[ij];exact (zeroValue29 w).trans (by rfl)
theorem eF:Two Tryz.prog 29 ⟨ "C0",27,0,false, "", "",0⟩ ⟨ "C1",27,6,false, "", "",48⟩ 6 6 (fe 0) (fe 0):=⟨underlying29,rfl,rfl,sizeOf27,sizeOf27,zv29,bp 0,bp 0⟩
theorem zv39(w:World):(zeroValue 39).run Tryz.prog w=.ok (.agg ((fe 0++fe 0).map U64).toArray) w:=by rw[ij];exact (zeroValue39 w).trans (by rfl)
theorem n8:Two Tryz.prog 39 ⟨ "A",37,0,false, "", "",0⟩ ⟨ "B",37,6,false, "", "",48⟩ 6 6 (fe 0) (fe 0):=⟨underlying39,rfl,rfl,sizeOf37,sizeOf37,zv39,bp 0,bp 0⟩
theorem e2{a b c d:Zp}(h1:a=c)(h2:b=d):Ending.returned (.agg ((fe a++fe b).map U64).toArray)=.returned (.agg ((fe c++fe d).map U64).toArray):=by rw[h1,h2]
theorem rb{a b:Bool}(h:a=b):Ending.returned (.bool a)=.returned (.bool b):=by rw[h]
def q3:Sh (Zp×Zp×Zp):=q1.two (q1.two q1 1) 1
theorem pE{f:FuncId}{fn:Func}{c:Code}(T:Tb Tryz.prog Gt)(hf:Tryz.prog.funcs[f]? =some fn)(a:List S0)(v:S1)(vc:S1×CB)(p:Pa)(h:xF T fn c a p=some vc)(hc:Ok vc.2)(e:vc.1=v)(hb:fn.body=some c:=by rfl)(hn:Nat.ble a.length fn.ntmps=true:=by rfl):Pure Tryz.prog Gt f (a.map (dn rid)) (dn1 rid v):=by rw[←e];exact IF (v:=vc.1) (cs:=vc.2) T eH gtS hf hb h hc hn rid
theorem el2{a b c d:Zp}(h1:a=c)(h2:b=d):(Sum.inl (Sum.inl [a,b]):S1)=.inl (.inl [c,d]):=by rw[h1,h2]
theorem eb{a b:Bool}(h:a=b):(Sum.inl (.inr (.inl a)):S1)=.inl (.inr (.inl b)):=by rw[h]
theorem ei{a b:Int}(h:a=b):(Sum.inl (.inr (.inr (.inl (I a)))):S1)=.inl (.inr (.inr (.inl (I b)))):=by rw[h]
theorem cK{f:Nat}{g:Zp→Zp→Zp}(en:am Tryz.prog f)(h: ∀a b,Pure Tryz.prog Gt f [EV a,EV b] (EV (g a b))):Snd Tryz.prog Gt f (c2 q1.ag q1.ag q1.rd g):=kq q1.ag q1.ag q1.rd en h
def TO1:Tb Tryz.prog Gt:=TB.add (cK (g:=fun x y=>x*y) ent40 go)
theorem n5{f:Nat}{g:BitVec 64→Zp}(en:am Tryz.prog f)(h: ∀a,Pure Tryz.prog Gt f [U64 a] (EV (g a))):Snd Tryz.prog Gt f (c1 agU q1.rd g):=gy agU q1.rd en h
def TO2:Tb Tryz.prog Gt:=TO1.add (n5 (g:=fun n=>zp n.toNat) ent76 dk)
theorem mb{f:Nat}{g:Zp→Zp→Bool}(en:am Tryz.prog f)(h: ∀a b,Pure Tryz.prog Gt f [EV a,EV b] (.bool (g a b))):Snd Tryz.prog Gt f (c2 q1.ag q1.ag rdB g):=kq q1.ag q1.ag rdB en h
def TO3:Tb Tryz.prog Gt:=TO2.add (mb (g:=fun x y=>decide (x=y)) ent93 kU)
theorem fH{f:Nat}{g:Zp→Bool}(en:am Tryz.prog f)(h: ∀a,Pure Tryz.prog Gt f [EV a] (.bool (g a))):Snd Tryz.prog Gt f (c1 q1.ag rdB g):=gy q1.ag rdB en h
def TO4:Tb Tryz.prog Gt:=TO3.add (fH (g:=fun x=>decide (x=0)) ent77 pR)
def TO5:Tb Tryz.prog Gt:=TO4.add (cK (g:=fun x y=>x+y) ent41 nK)
def TO6:Tb Tryz.prog Gt:=TO5.add (cK (g:=fun x y=>x-y) ent92 nN)
theorem fL{f:Nat}{g:Zp→Zp}(en:am Tryz.prog f)(h: ∀a,Pure Tryz.prog Gt f [EV a] (EV (g a))):Snd Tryz.prog Gt f (c1 q1.ag q1.rd g):=gy q1.ag q1.rd en h
def TO7:Tb Tryz.prog Gt:=TO6.add (fL (g:=fun x=> -x) ent74 dK)
def TO8:Tb Tryz.prog Gt:=TO7.add (fL (g:=fun x=>x*x) ent125 gL)
theorem l8{f:Nat}{g:Zp}(en:am Tryz.prog f)(h:Pure Tryz.prog Gt f [U64 1#64] (EV g)):Snd Tryz.prog Gt f (c1 (agL 1) q1.rd (fun _=>g)):=gy (agL 1) q1.rd en (fun _=>h)
def TO9:Tb Tryz.prog Gt:=TO8.add (l8 (g:=1) ent76 nT)
def TO10:Tb Tryz.prog Gt:=TO9.add (fL (g:=fun x=>x^(PP-2)) ent95 wD)
def TO11:Tb Tryz.prog Gt:=TO10.add (fH (g:=fun x=>decide (x.val % 2=1)) ent169 wJ)
def TO12:Tb Tryz.prog Gt:=TO11.add (fH (g:=fun x=>decide (hf<x.val)) ent127 lf)
theorem k8{f:Nat}{g:Zp→Zp}{k:Zp→Bool}(en:am Tryz.prog f)(h: ∀a,Pure Tryz.prog Gt f [EV a] (.tuple #[EV (g a),.bool (k a)])):Snd Tryz.prog Gt f (c1 q1.ag q1.rdB (fun a=>((g a),(k a)))):=gy q1.ag q1.rdB en h
def TO13:Tb Tryz.prog Gt:=TO12.add (k8 (g:=SQ) (k:=fun x=>decide (SQr x*SQr x=x)) ent80 tZ)
def TO14:Tb Tryz.prog Gt:=TO13.add (cK (g:=fun x y=>x*y) ent120 zU)
def TO15:Tb Tryz.prog Gt:=TO14.add (cK (g:=fun x y=>x+y) ent123 Ld)
def TO16:Tb Tryz.prog Gt:=TO15.add (cK (g:=fun x y=>x-y) ent122 KN)
def TO17:Tb Tryz.prog Gt:=TO16.add (fL (g:=fun x=> -x) ent111 sp)
def TO18:Tb Tryz.prog Gt:=TO17.add (fL (g:=fun x=>x^(PP-2)) ent155 MT)
def TO19:Tb Tryz.prog Gt:=TO18.add (fH (g:=fun x=>decide (x=0)) ent121 xS)
def TO20:Tb Tryz.prog Gt:=TO19.add (fH (g:=fun x=>decide (x.val % 2=1)) ent158 LK)
def TO21:Tb Tryz.prog Gt:=TO20.add (fH (g:=fun x=>decide (hf<x.val)) ent172 pf)
def TO22:Tb Tryz.prog Gt:=TO21.add (n5 (g:=fun n=>zp n.toNat) ent110 fE)
def TO23:Tb Tryz.prog Gt:=TO22.add (k8 (g:=SQ) (k:=fun x=>decide (SQr x*SQr x=x)) ent156 GR)
theorem yY  :Pure Tryz.prog Gt 83 [] (EV2 on2):=pE TO23 func83 [] (.inl (.inl [on2.1,on2.2])) (.inl (.inl [1,0]),[]) [] (by kernel_rfl) aD rfl
theorem kX{f:Nat}{g:W2}(en:am Tryz.prog f)(h:Pure Tryz.prog Gt f [] (EV2 g)):Snd Tryz.prog Gt f (c0 q2.rd g):=Fi q2.rd en h
def TO24:Tb Tryz.prog Gt:=TO23.add (kX (g:=on2) ent83 yY)
theorem uJ(x y:W2):Pure Tryz.prog Gt 52 [EV2 x,EV2 y] (.bool (decide (x=y))):=by
 by_cases h:x.1=y.1
 ·exact pE TO24 func52 [.inl [x.1,x.2],.inl [y.1,y.2]] (.inl (.inr (.inl (decide (x=y))))) (.inl (.inr (.inl (decide (x.2=y.2)))),[(decide (x.1=y.1),true)]) [some true] (by kernel_rfl) (ak (decide_eq_true h) aD) (eb (sN h))
 ·exact pE TO24 func52 [.inl [x.1,x.2],.inl [y.1,y.2]] (.inl (.inr (.inl (decide (x=y))))) (.inl (.inr (.inl false)),[(decide (x.1=y.1),false)]) [some false] (by kernel_rfl) (ak (decide_eq_false h) aD) (eb (su h))
theorem mI{f:Nat}{g:W2→W2→Bool}(en:am Tryz.prog f)(h: ∀a b,Pure Tryz.prog Gt f [EV2 a,EV2 b] (.bool (g a b))):Snd Tryz.prog Gt f (c2 q2.ag q2.ag rdB g):=kq q2.ag q2.ag rdB en h
def TO25:Tb Tryz.prog Gt:=TO24.add (mI (g:=fun x y=>decide (x=y)) ent52 uJ)
theorem qZ(x:W2):Pure Tryz.prog Gt 91 [EV2 x] (.bool (decide (x=ze2))):=by
 by_cases h:x.1=0
 ·exact pE TO25 func91 [.inl [x.1,x.2]] (.inl (.inr (.inl (decide (x=ze2))))) (.inl (.inr (.inl (decide (x.2=0)))),[(decide (x.1=0),true)]) [some true] (by kernel_rfl) (ak (decide_eq_true h) aD) (eb (sN (y:=ze2) h))
 ·exact pE TO25 func91 [.inl [x.1,x.2]] (.inl (.inr (.inl (decide (x=ze2))))) (.inl (.inr (.inl false)),[(decide (x.1=0),false)]) [some false] (by kernel_rfl) (ak (decide_eq_false h) aD) (eb (su (y:=ze2) h))
theorem iX{f:Nat}{g:W2→Bool}(en:am Tryz.prog f)(h: ∀a,Pure Tryz.prog Gt f [EV2 a] (.bool (g a))):Snd Tryz.prog Gt f (c1 q2.ag rdB g):=gy q2.ag rdB en h
def TO26:Tb Tryz.prog Gt:=TO25.add (iX (g:=fun x=>decide (x=ze2)) ent91 qZ)
theorem wl(x y:W2):Pure Tryz.prog Gt 75 [EV2 x,EV2 y] (EV2 (ad2 x y)):=pE TO26 func75 [.inl [x.1,x.2],.inl [y.1,y.2]] (.inl (.inl [(ad2 x y).1,(ad2 x y).2])) (.inl (.inl [x.1+y.1,x.2+y.2]),[]) [] (by kernel_rfl) aD rfl
theorem bS{f:Nat}{g:W2→W2→W2}(en:am Tryz.prog f)(h: ∀a b,Pure Tryz.prog Gt f [EV2 a,EV2 b] (EV2 (g a b))):Snd Tryz.prog Gt f (c2 q2.ag q2.ag q2.rd g):=kq q2.ag q2.ag q2.rd en h
def TO27:Tb Tryz.prog Gt:=TO26.add (bS (g:=ad2) ent75 wl)
theorem EY(x y:W2):Pure Tryz.prog Gt 98 [EV2 x,EV2 y] (EV2 (sb2 x y)):=pE TO27 func98 [.inl [x.1,x.2],.inl [y.1,y.2]] (.inl (.inl [(sb2 x y).1,(sb2 x y).2])) (.inl (.inl [x.1-y.1,x.2-y.2]),[]) [] (by kernel_rfl) aD rfl
def TO28:Tb Tryz.prog Gt:=TO27.add (bS (g:=sb2) ent98 EY)
theorem Ff(x:W2):Pure Tryz.prog Gt 37 [EV2 x] (EV2 (ng2 x)):=pE TO28 func37 [.inl [x.1,x.2]] (.inl (.inl [(ng2 x).1,(ng2 x).2])) (.inl (.inl [-x.1,-x.2]),[]) [] (by kernel_rfl) aD rfl
theorem cY{f:Nat}{g:W2→W2}(en:am Tryz.prog f)(h: ∀a,Pure Tryz.prog Gt f [EV2 a] (EV2 (g a))):Snd Tryz.prog Gt f (c1 q2.ag q2.rd g):=gy q2.ag q2.rd en h
def TO29:Tb Tryz.prog Gt:=TO28.add (cY (g:=ng2) ent37 Ff)
theorem pI(x:W2):Pure Tryz.prog Gt 73 [EV2 x] (EV2 (cj2 x)):=pE TO29 func73 [.inl [x.1,x.2]] (.inl (.inl [(cj2 x).1,(cj2 x).2])) (.inl (.inl [x.1,-x.2]),[]) [] (by kernel_rfl) aD rfl
def TO30:Tb Tryz.prog Gt:=TO29.add (cY (g:=cj2) ent73 pI)
theorem gt(x y:W2):Pure Tryz.prog Gt 49 [EV2 x,EV2 y] (EV2 (ml2 x y)):=pE TO30 func49 [.inl [x.1,x.2],.inl [y.1,y.2]] (.inl (.inl [(ml2 x y).1,(ml2 x y).2])) (let t0:=(x.1+x.2)*(y.1+y.2);let t1:=(x.1*y.1)-(x.2*y.2);let t2:=t0-(x.1*y.1);let t3:=t2-(x.2*y.2);(.inl (.inl [t1,t3]),[])) [] (by kernel_rfl) aD (el2 (by first|(simp only[ml2];done)|(simp only[ml2];grind)) (by first|(simp only[ml2];done)|(simp only[ml2];grind)))
def TO31:Tb Tryz.prog Gt:=TO30.add (bS (g:=ml2) ent49 gt)
theorem ka(x:W2):Pure Tryz.prog Gt 51 [EV2 x] (EV2 (ml2 x x)):=pE TO31 func51 [.inl [x.1,x.2]] (.inl (.inl [(ml2 x x).1,(ml2 x x).2])) (let t0:=(x.1+x.2)*(x.1-x.2);let t1:=(x.1*x.2)+(x.1*x.2);(.inl (.inl [t0,t1]),[])) [] (by kernel_rfl) aD (el2 (by first|(simp only[ml2];done)|(simp only[ml2];grind)) (by first|(simp only[ml2];done)|(simp only[ml2];grind)))
def TO32:Tb Tryz.prog Gt:=TO31.add (cY (g:=fun x=>ml2 x x) ent51 ka)
theorem CN(x:W2)(c:Zp):Pure Tryz.prog Gt 94 [EV2 x,EV c] (EV2 (sc2 x c)):=pE TO32 func94 [.inl [x.1,x.2],.inl [c]] (.inl (.inl [(sc2 x c).1,(sc2 x c).2])) (.inl (.inl [x.1*c,x.2*c]),[]) [] (by kernel_rfl) aD rfl
theorem ia{f:Nat}{g:W2→Zp→W2}(en:am Tryz.prog f)(h: ∀a b,Pure Tryz.prog Gt f [EV2 a,EV b] (EV2 (g a b))):Snd Tryz.prog Gt f (c2 q2.ag q1.ag q2.rd g):=kq q2.ag q1.ag q2.rd en h
def TO33:Tb Tryz.prog Gt:=TO32.add (ia (g:=sc2) ent94 CN)
theorem Hb(x:W2):Pure Tryz.prog Gt 79 [EV2 x] (EV (nm2 x)):=pE TO33 func79 [.inl [x.1,x.2]] (.inl (.inl [nm2 x])) (let t0:=(x.1*x.1)+(x.2*x.2);(.inl (.inl [t0]),[])) [] (by kernel_rfl) aD rfl
theorem mJ{f:Nat}{g:W2→Zp}(en:am Tryz.prog f)(h: ∀a,Pure Tryz.prog Gt f [EV2 a] (EV (g a))):Snd Tryz.prog Gt f (c1 q2.ag q1.rd g):=gy q2.ag q1.rd en h
def TO34:Tb Tryz.prog Gt:=TO33.add (mJ (g:=nm2) ent79 Hb)
theorem Gn(x:W2):Pure Tryz.prog Gt 53 [EV2 x] (EV2 (iv2 x)):=pE TO34 func53 [.inl [x.1,x.2]] (.inl (.inl [(iv2 x).1,(iv2 x).2])) (let t0:=cj2 x;let t1:=(nm2 x)^(PP-2);let t2:=sc2 (t0.1,t0.2) t1;(.inl (.inl [t2.1,t2.2]),[])) [] (by kernel_rfl) aD rfl
def TO35:Tb Tryz.prog Gt:=TO34.add (cY (g:=iv2) ent53 Gn)
end
section
open Go.RowKit
attribute [local simp] bp bQ aI aB bj bc aX aW bv PLl eK eI N1l eP eU eW bJ bV bY bX cH
theorem F7{x:W2}(h:x.2=0):decide (hf<x.1.val)=LG2 x:=by rw[LG2,if_pos h]
theorem xZ{x:W2}(h: ¬x.2=0):decide (hf<x.2.val)=LG2 x:=by rw[LG2,if_neg h]
theorem ME{x:W2}(h:hf<x.2.val):true=LG2 x:=by
 have h0: ¬x.2=0:=fun e=>by rw[e]at h;exact Nat.not_lt_zero _ h
 rw[←xZ h0,decide_eq_true h]
theorem L8{x:W2}(h: ¬hf<x.2.val)(h0: ¬x.2=0):false=LG2 x:=by rw[←xZ h0,decide_eq_false h]
theorem Ga{x:W2}(h:x.1.val % 2=1):1=SG2 x:=by rw[SG2,if_pos h]
theorem Fq{x:W2}(h: ¬x.1.val % 2=1)(h0:x.1=0)(h2:x.2.val % 2=1):1=SG2 x:=by rw[SG2,if_neg h,if_pos h0,if_pos h2]
theorem Fj{x:W2}(h: ¬x.1.val % 2=1)(h0:x.1=0)(h2: ¬x.2.val % 2=1):0=SG2 x:=by rw[SG2,if_neg h,if_pos h0,if_neg h2]
theorem E6{x:W2}(h: ¬x.1.val % 2=1)(h0: ¬x.1=0):0=SG2 x:=by rw[SG2,if_neg h,if_neg h0]
theorem EB:Pure Tryz.prog Gt 110 [U64 1#64] (EV 1):=fE 1#64
theorem Ea:Pure Tryz.prog Gt 110 [U64 2#64] (EV (zp 2)):=fE 2#64
def TO36:Tb Tryz.prog Gt:=TO35.add (l8 (g:=1) ent110 EB)
theorem tR{f:Nat}{g:Zp}(en:am Tryz.prog f)(h:Pure Tryz.prog Gt f [U64 2#64] (EV g)):Snd Tryz.prog Gt f (c1 (agL 2) q1.rd (fun _=>g)):=gy (agL 2) q1.rd en (fun _=>h)
def TO37:Tb Tryz.prog Gt:=TO36.add (tR (g:=zp 2) ent110 Ea)
theorem DT(x:W2):Pure Tryz.prog Gt 82 [EV2 x] (.bool (LG2 x)):=by
 by_cases h:hf<x.2.val
 ·exact pE TO37 func82 [.inl [x.1,x.2]] (.inl (.inr (.inl (LG2 x)))) (.inl (.inr (.inl true)),[(decide (hf<x.2.val),true)]) [some true] (by kernel_rfl) (ak (decide_eq_true h) aD) (eb (ME h))
 ·by_cases h0:x.2=0
  ·exact pE TO37 func82 [.inl [x.1,x.2]] (.inl (.inr (.inl (LG2 x)))) (.inl (.inr (.inl (decide (hf<x.1.val)))),[(decide (hf<x.2.val),false),(decide (x.2=0),true)]) [some false,some true] (by kernel_rfl) (ak (decide_eq_false h) (ak (decide_eq_true h0) aD)) (eb (F7 h0))
  ·exact pE TO37 func82 [.inl [x.1,x.2]] (.inl (.inr (.inl (LG2 x)))) (.inl (.inr (.inl false)),[(decide (hf<x.2.val),false),(decide (x.2=0),false)]) [some false,some false] (by kernel_rfl) (ak (decide_eq_false h) (ak (decide_eq_false h0) aD)) (eb (L8 h h0))
def TO38:Tb Tryz.prog Gt:=TO37.add (iX (g:=LG2) ent82 DT)
theorem rN(x:W2):Pure Tryz.prog Gt 146 [EV2 x] (I (SG2 x)):=by
 by_cases h:x.1.val % 2=1
 ·exact pE TO38 func146 [.inl [x.1,x.2]] (.inl (.inr (.inr (.inl (I (SG2 x)))))) (.inl (.inr (.inr (.inl (I 1)))),[(decide (x.1.val % 2=1),true)]) [some true] (by kernel_rfl) (ak (decide_eq_true h) aD) (ei (Ga h))
 ·by_cases h0:x.1=0
  ·by_cases h2:x.2.val % 2=1
   ·exact pE TO38 func146 [.inl [x.1,x.2]] (.inl (.inr (.inr (.inl (I (SG2 x)))))) (.inl (.inr (.inr (.inl (I 1)))),[(decide (x.1.val % 2=1),false),(decide (x.1=0),true),(decide (x.2.val % 2=1),true)]) [some false,some true,some true] (by kernel_rfl) (ak (decide_eq_false h) (ak (decide_eq_true h0) (ak (decide_eq_true h2) aD))) (ei (Fq h h0 h2))
   ·exact pE TO38 func146 [.inl [x.1,x.2]] (.inl (.inr (.inr (.inl (I (SG2 x)))))) (.inl (.inr (.inr (.inl (I 0)))),[(decide (x.1.val % 2=1),false),(decide (x.1=0),true),(decide (x.2.val % 2=1),false)]) [some false,some true,some false] (by kernel_rfl) (ak (decide_eq_false h) (ak (decide_eq_true h0) (ak (decide_eq_false h2) aD))) (ei (Fj h h0 h2))
  ·exact pE TO38 func146 [.inl [x.1,x.2]] (.inl (.inr (.inr (.inl (I (SG2 x)))))) (.inl (.inr (.inr (.inl (I 0)))),[(decide (x.1.val % 2=1),false),(decide (x.1=0),false)]) [some false,some false] (by kernel_rfl) (ak (decide_eq_false h) (ak (decide_eq_false h0) aD)) (ei (E6 h h0))
theorem n0{f:Nat}{g:W2→Value}(en:am Tryz.prog f)(h: ∀a,Pure Tryz.prog Gt f [EV2 a] ((g a))):Snd Tryz.prog Gt f (c1 q2.ag rdV g):=gy q2.ag rdV en h
def TO39:Tb Tryz.prog Gt:=TO38.add (n0 (g:=fun x=>I (SG2 x)) ent146 rN)
theorem qx(x:W2):Pure Tryz.prog Gt 119 [EV2 x] (I (SG2 x)):=by
 by_cases h:x.1.val % 2=1
 ·exact pE TO39 func119 [.inl [x.1,x.2]] (.inl (.inr (.inr (.inl (I (SG2 x)))))) (.inl (.inr (.inr (.inl (I 1)))),[(decide (x.1.val % 2=1),true)]) [some true] (by kernel_rfl) (ak (decide_eq_true h) aD) (ei (Ga h))
 ·by_cases h0:x.1=0
  ·by_cases h2:x.2.val % 2=1
   ·exact pE TO39 func119 [.inl [x.1,x.2]] (.inl (.inr (.inr (.inl (I (SG2 x)))))) (.inl (.inr (.inr (.inl (I 1)))),[(decide (x.1.val % 2=1),false),(decide (x.1=0),true),(decide (x.2.val % 2=1),true)]) [some false,some true,some true] (by kernel_rfl) (ak (decide_eq_false h) (ak (decide_eq_true h0) (ak (decide_eq_true h2) aD))) (ei (Fq h h0 h2))
   ·exact pE TO39 func119 [.inl [x.1,x.2]] (.inl (.inr (.inr (.inl (I (SG2 x)))))) (.inl (.inr (.inr (.inl (I 0)))),[(decide (x.1.val % 2=1),false),(decide (x.1=0),true),(decide (x.2.val % 2=1),false)]) [some false,some true,some false] (by kernel_rfl) (ak (decide_eq_false h) (ak (decide_eq_true h0) (ak (decide_eq_false h2) aD))) (ei (Fj h h0 h2))
  ·exact pE TO39 func119 [.inl [x.1,x.2]] (.inl (.inr (.inr (.inl (I (SG2 x)))))) (.inl (.inr (.inr (.inl (I 0)))),[(decide (x.1.val % 2=1),false),(decide (x.1=0),false)]) [some false,some false] (by kernel_rfl) (ak (decide_eq_false h) (ak (decide_eq_false h0) aD)) (ei (E6 h h0))
def TO40:Tb Tryz.prog Gt:=TO39.add (n0 (g:=fun x=>I (SG2 x)) ent119 qx)
theorem rA  :Pure Tryz.prog Gt 70 [] (EV2 on2):=pE TO40 func70 [] (.inl (.inl [on2.1,on2.2])) (.inl (.inl [1,0]),[]) [] (by kernel_rfl) aD rfl
def TO41:Tb Tryz.prog Gt:=TO40.add (kX (g:=on2) ent70 rA)
theorem iD(x:W2):Pure Tryz.prog Gt 68 [EV2 x] (.bool (decide (x=ze2))):=by
 by_cases h:x.1=0
 ·exact pE TO41 func68 [.inl [x.1,x.2]] (.inl (.inr (.inl (decide (x=ze2))))) (.inl (.inr (.inl (decide (x.2=0)))),[(decide (x.1=0),true)]) [some true] (by kernel_rfl) (ak (decide_eq_true h) aD) (eb (sN (y:=ze2) h))
 ·exact pE TO41 func68 [.inl [x.1,x.2]] (.inl (.inr (.inl (decide (x=ze2))))) (.inl (.inr (.inl false)),[(decide (x.1=0),false)]) [some false] (by kernel_rfl) (ak (decide_eq_false h) aD) (eb (su (y:=ze2) h))
def TO42:Tb Tryz.prog Gt:=TO41.add (iX (g:=fun x=>decide (x=ze2)) ent68 iD)
theorem oh(x y:W2):Pure Tryz.prog Gt 114 [EV2 x,EV2 y] (EV2 (ad2 x y)):=pE TO42 func114 [.inl [x.1,x.2],.inl [y.1,y.2]] (.inl (.inl [(ad2 x y).1,(ad2 x y).2])) (.inl (.inl [x.1+y.1,x.2+y.2]),[]) [] (by kernel_rfl) aD rfl
def TO43:Tb Tryz.prog Gt:=TO42.add (bS (g:=ad2) ent114 oh)
theorem Fk(x y:W2):Pure Tryz.prog Gt 67 [EV2 x,EV2 y] (EV2 (sb2 x y)):=pE TO43 func67 [.inl [x.1,x.2],.inl [y.1,y.2]] (.inl (.inl [(sb2 x y).1,(sb2 x y).2])) (.inl (.inl [x.1-y.1,x.2-y.2]),[]) [] (by kernel_rfl) aD rfl
def TO44:Tb Tryz.prog Gt:=TO43.add (bS (g:=sb2) ent67 Fk)
theorem nX(x:W2):Pure Tryz.prog Gt 72 [EV2 x] (EV2 (ng2 x)):=pE TO44 func72 [.inl [x.1,x.2]] (.inl (.inl [(ng2 x).1,(ng2 x).2])) (.inl (.inl [-x.1,-x.2]),[]) [] (by kernel_rfl) aD rfl
def TO45:Tb Tryz.prog Gt:=TO44.add (cY (g:=ng2) ent72 nX)
theorem ek(x y:W2):Pure Tryz.prog Gt 66 [EV2 x,EV2 y] (EV2 (ml2 x y)):=by
 by_cases h:x.2=0
 ·by_cases h2:y.2=0
  ·exact pE TO45 func66 [.inl [x.1,x.2],.inl [y.1,y.2]] (.inl (.inl [(ml2 x y).1,(ml2 x y).2])) (.inl (.inl [x.1*y.1,0]),[(decide (x.2=0),true),(decide (y.2=0),true)]) [some true,some true] (by kernel_rfl) (ak (decide_eq_true h) (ak (decide_eq_true h2) aD)) (el2 (by simp only[ml2];rw[h];grind) (by simp only[ml2];rw[h,h2,gD,pL,Cx]))
  ·exact pE TO45 func66 [.inl [x.1,x.2],.inl [y.1,y.2]] (.inl (.inl [(ml2 x y).1,(ml2 x y).2])) (let t0:=(x.1*y.1)-(x.2*y.2);let t1:=(x.1+x.2)*(y.1+y.2);let t2:=t1-(x.1*y.1);let t3:=t2-(x.2*y.2);(.inl (.inl [t0,t3]),[(decide (x.2=0),true),(decide (y.2=0),false)])) [some true,some false] (by kernel_rfl) (ak (decide_eq_true h) (ak (decide_eq_false h2) aD)) (el2 (by first|(simp only[ml2];done)|(simp only[ml2];grind)) (by first|(simp only[ml2];done)|(simp only[ml2];grind)))
 ·exact pE TO45 func66 [.inl [x.1,x.2],.inl [y.1,y.2]] (.inl (.inl [(ml2 x y).1,(ml2 x y).2])) (let t0:=(x.1*y.1)-(x.2*y.2);let t1:=(x.1+x.2)*(y.1+y.2);let t2:=t1-(x.1*y.1);let t3:=t2-(x.2*y.2);(.inl (.inl [t0,t3]),[(decide (x.2=0),false)])) [some false] (by kernel_rfl) (ak (decide_eq_false h) aD) (el2 (by first|(simp only[ml2];done)|(simp only[ml2];grind)) (by first|(simp only[ml2];done)|(simp only[ml2];grind)))
def TO46:Tb Tryz.prog Gt:=TO45.add (bS (g:=ml2) ent66 ek)
theorem Kc(x:W2):Pure Tryz.prog Gt 154 [EV2 x] (EV (nm2 x)):=pE TO46 func154 [.inl [x.1,x.2]] (.inl (.inl [nm2 x])) (let t0:=(x.1*x.1)+(x.2*x.2);(.inl (.inl [t0]),[])) [] (by kernel_rfl) aD rfl
def TO47:Tb Tryz.prog Gt:=TO46.add (mJ (g:=nm2) ent154 Kc)
theorem kj(x:W2):Pure Tryz.prog Gt 112 [EV2 x] (EV2 (iv2 x)):=pE TO47 func112 [.inl [x.1,x.2]] (.inl (.inl [(iv2 x).1,(iv2 x).2])) (let t0:=(nm2 x)^(PP-2);(.inl (.inl [x.1*t0,(-x.2)*t0]),[])) [] (by kernel_rfl) aD rfl
def TO48:Tb Tryz.prog Gt:=TO47.add (cY (g:=iv2) ent112 kj)
theorem Eg(x:W2):Pure Tryz.prog Gt 157 [EV2 x] (.bool (LG2 x)):=by
 by_cases h:x.2=0
 ·exact pE TO48 func157 [.inl [x.1,x.2]] (.inl (.inr (.inl (LG2 x)))) (.inl (.inr (.inl (decide (hf<x.1.val)))),[(decide (x.2=0),true)]) [some true] (by kernel_rfl) (ak (decide_eq_true h) aD) (eb (F7 h))
 ·exact pE TO48 func157 [.inl [x.1,x.2]] (.inl (.inr (.inl (LG2 x)))) (.inl (.inr (.inl (decide (hf<x.2.val)))),[(decide (x.2=0),false)]) [some false] (by kernel_rfl) (ak (decide_eq_false h) aD) (eb (xZ h))
def TO49:Tb Tryz.prog Gt:=TO48.add (iX (g:=LG2) ent157 Eg)
theorem oJ(c:Zp):Pure Tryz.prog Gt 78 [EV c] (EV2 (RO c)):=by
 by_cases h:SQr c*SQr c=c
 ·exact pE TO49 func78 [.inl [c]] (.inl (.inl [(RO c).1,(RO c).2])) (.inl (.inl [SQ c,0]),[(decide (SQr c*SQr c=c),true)]) [some true] (by kernel_rfl) (ak (decide_eq_true h) aD) (by rw[show RO c=(SQ c,0)from if_pos h]<;>exact rfl)
 ·exact pE TO49 func78 [.inl [c]] (.inl (.inl [(RO c).1,(RO c).2])) (.inl (.inl [0,SQ (-c)]),[(decide (SQr c*SQr c=c),false)]) [some false] (by kernel_rfl) (ak (decide_eq_false h) aD) (by rw[show RO c=(0,SQ (-c))from if_neg h]<;>exact rfl)
theorem sP{f:Nat}{g:Zp→W2}(en:am Tryz.prog f)(h: ∀a,Pure Tryz.prog Gt f [EV a] (EV2 (g a))):Snd Tryz.prog Gt f (c1 q1.ag q2.rd g):=gy q1.ag q2.rd en h
def TO50:Tb Tryz.prog Gt:=TO49.add (sP (g:=RO) ent78 oJ)
theorem Ah(x:W2)(n:Zp):Pure Tryz.prog Gt 81 [EV2 x,EV n] (EV2 (RB x n)):=by
 by_cases h:SQr (RBs x n)*SQr (RBs x n)=RBs x n
 ·exact pE TO50 func81 [.inl [x.1,x.2],.inl [n]] (.inl (.inl [(RB x n).1,(RB x n).2])) (let t0:=(x.1+n)+(x.1+n);let t1:=(SQ t0)^(PP-2);let t2:=(x.1+n)*t1;(.inl (.inl [t2,x.2*t1]),[(decide (SQr t0*SQr t0=t0),true)])) [some true] (by kernel_rfl) (ak (decide_eq_true h) aD) (by rw[show RB x n=_ from if_pos h]<;>exact rfl)
 ·exact pE TO50 func81 [.inl [x.1,x.2],.inl [n]] (.inl (.inl [(RB x n).1,(RB x n).2])) (let t0:=(x.1+n)+(x.1+n);let t1:=(SQ (-t0))^(PP-2);let t2:=(-(x.1+n))*t1;(.inl (.inl [x.2*t1,t2]),[(decide (SQr t0*SQr t0=t0),false)])) [some false] (by kernel_rfl) (ak (decide_eq_false h) aD) (by rw[show RB x n=_ from if_neg h]<;>exact rfl)
def TO51:Tb Tryz.prog Gt:=TO50.add (ia (g:=RB) ent81 Ah)
theorem JV{α:Type}(f:W2→α)(x:W2):f (x.1,x.2)=f x:=rfl
theorem vz(x r:W2)(hr:ml2 r r=x)(hl:LG2 r=false):Pure Tryz.prog Gt 36 [EV2 x] (.tuple #[EV2 r,.bool true]):=by
 by_cases h:x.2=0
 ·exact pE TO51 func36 [.inl [x.1,x.2]] (.inr [.inl [r.1,r.2],.inr (.inl true)]) (let t0:=RO x.1;(.inr [.inl [t0.1,t0.2],.inr (.inl true)],[(decide (x.2=0),true)])) [some true] (by kernel_rfl) (ak (decide_eq_true h) aD) (by rw[←pG hr hl h]<;>exact rfl)
 ·by_cases hc:LG2 (RB x (SQ (nm2 x)))=true
  ·exact pE TO51 func36 [.inl [x.1,x.2]] (.inr [.inl [r.1,r.2],.inr (.inl true)]) (let t0:=RB x (SQ (nm2 x));let t1:=ng2 (t0.1,t0.2);(.inr [.inl [t1.1,t1.2],.inr (.inl true)],[(decide (x.2=0),false),(decide (SQr (nm2 x)*SQr (nm2 x)=(nm2 x)),true),(LG2 (t0.1,t0.2),true)])) [some false,some true,some true] (by kernel_rfl) (ak (decide_eq_false h) (ak (decide_eq_true (d9 hr)) (ak ((JV LG2 (RB x (SQ (nm2 x)))).trans hc) aD))) (by rw[←uK hr hl h,NL,if_pos hc,←JV ng2 (RB x (SQ (nm2 x)))]<;>exact rfl)
  ·exact pE TO51 func36 [.inl [x.1,x.2]] (.inr [.inl [r.1,r.2],.inr (.inl true)]) (let t0:=RB x (SQ (nm2 x));(.inr [.inl [t0.1,t0.2],.inr (.inl true)],[(decide (x.2=0),false),(decide (SQr (nm2 x)*SQr (nm2 x)=(nm2 x)),true),(LG2 (t0.1,t0.2),false)])) [some false,some true,some false] (by kernel_rfl) (ak (decide_eq_false h) (ak (decide_eq_true (d9 hr)) (ak ((JV LG2 (RB x (SQ (nm2 x)))).trans (Bool.eq_false_iff.2 hc)) aD))) (by rw[←uK hr hl h,NL,if_neg hc]<;>exact rfl)
theorem DO(x:W2)(hq: ¬IsQ (nm2 x)):Pure Tryz.prog Gt 36 [EV2 x] (.tuple #[EV2 ze2,.bool false]):=by
 exact pE TO51 func36 [.inl [x.1,x.2]] (.inr [.inl [ze2.1,ze2.2],.inr (.inl false)]) (.inr [.inl [0,0],.inr (.inl false)],[(decide (x.2=0),false),(decide (SQr (nm2 x)*SQr (nm2 x)=(nm2 x)),false)]) [some false,some false] (by kernel_rfl) (ak (decide_eq_false (FP hq)) (ak (decide_eq_false hq) aD)) rfl
theorem M8{x:W2}(h:LG2 x=true):ng2 x=NL x:=by rw[NL,if_pos h]
theorem Kv{x:W2}(h: ¬LG2 x=true):x=NL x:=by rw[NL,if_neg h]
theorem nf2{y x:W2}(h:y=x):(!decide ([y.1,y.2]=[x.1,x.2]))=false:=by rw[h,decide_eq_true rfl];rfl
theorem uP(x r:W2)(hr:ml2 r r=x)(hl:LG2 r=false):Pure Tryz.prog Gt 118 [EV2 x] (.tuple #[EV2 r,.bool true]):=by
 by_cases h:x.2=0
 ·by_cases q:SQr x.1*SQr x.1=x.1
  ·have e:r=(SQ x.1,0):=(pG hr hl h).symm.trans (if_pos q)
   exact pE TO51 func118 [.inl [x.1,x.2]] (.inr [.inl [r.1,r.2],.inr (.inl true)]) (let t0:=ml2 (SQ x.1,0) (SQ x.1,0);(.inr [.inl [SQ x.1,0],.inr (.inl true)],[(decide (x.2=0),true),(decide (SQr x.1*SQr x.1=x.1),true),(!decide ([t0.1,t0.2]=[x.1,x.2]),false),(LG2 (SQ x.1,0),false)])) [some true,some true,some false,some false] (by kernel_rfl) (ak (decide_eq_true h) (ak (decide_eq_true q) (ak (nf2 (y:=ml2 (SQ x.1,0) (SQ x.1,0)) (x:=x) (e▸hr)) (ak (e▸hl) aD)))) (by rw[e]<;>exact rfl)
  ·have e:r=(0,SQ (-x.1)):=(pG hr hl h).symm.trans (if_neg q)
   exact pE TO51 func118 [.inl [x.1,x.2]] (.inr [.inl [r.1,r.2],.inr (.inl true)]) (let t0:=ml2 (0,SQ (-x.1)) (0,SQ (-x.1));(.inr [.inl [0,SQ (-x.1)],.inr (.inl true)],[(decide (x.2=0),true),(decide (SQr x.1*SQr x.1=x.1),false),(!decide ([t0.1,t0.2]=[x.1,x.2]),false),(LG2 (0,SQ (-x.1)),false)])) [some true,some false,none,some false,some false] (by kernel_rfl) (ak (decide_eq_true h) (ak (decide_eq_false q) (ak (nf2 (y:=ml2 (0,SQ (-x.1)) (0,SQ (-x.1))) (x:=x) (e▸hr)) (ak (e▸hl) aD)))) (by rw[e]<;>exact rfl)
 ·by_cases q:SQr ((x.1+(SQ (nm2 x)))*(zp 2^(PP-2)))*SQr ((x.1+(SQ (nm2 x)))*(zp 2^(PP-2)))=(x.1+(SQ (nm2 x)))*(zp 2^(PP-2))
  ·by_cases hc:LG2 (SQ ((x.1+(SQ (nm2 x)))*(zp 2^(PP-2))),x.2*(zp 2^(PP-2))*SQ ((x.1+(SQ (nm2 x)))*(zp 2^(PP-2)))^(PP-2))=true
   ·have e1:RF x (SQ (nm2 x)) (zp 2^(PP-2))=(SQ ((x.1+(SQ (nm2 x)))*(zp 2^(PP-2))),x.2*(zp 2^(PP-2))*SQ ((x.1+(SQ (nm2 x)))*(zp 2^(PP-2)))^(PP-2)):=if_pos q
    have e:NL (SQ ((x.1+(SQ (nm2 x)))*(zp 2^(PP-2))),x.2*(zp 2^(PP-2))*SQ ((x.1+(SQ (nm2 x)))*(zp 2^(PP-2)))^(PP-2))=r:=e1▸lQ hr hl fb h
    have e0:ml2 (SQ ((x.1+(SQ (nm2 x)))*(zp 2^(PP-2))),x.2*(zp 2^(PP-2))*SQ ((x.1+(SQ (nm2 x)))*(zp 2^(PP-2)))^(PP-2)) (SQ ((x.1+(SQ (nm2 x)))*(zp 2^(PP-2))),x.2*(zp 2^(PP-2))*SQ ((x.1+(SQ (nm2 x)))*(zp 2^(PP-2)))^(PP-2))=x:=e1▸rK (ig (d9 hr)) fb h
    exact pE TO51 func118 [.inl [x.1,x.2]] (.inr [.inl [r.1,r.2],.inr (.inl true)]) (let t0:=(zp 2)^(PP-2);let t1:=x.1+(SQ (nm2 x));let t2:=(SQ (t1*t0))^(PP-2);let t3:=(x.2*t0)*t2;let t4:=ml2 (SQ (t1*t0),t3) (SQ (t1*t0),t3);let t5:=ng2 (SQ (t1*t0),t3);(.inr [.inl [t5.1,t5.2],.inr (.inl true)],[(decide (x.2=0),false),(decide (SQr (nm2 x)*SQr (nm2 x)=(nm2 x)),true),(decide (SQr (t1*t0)*SQr (t1*t0)=(t1*t0)),true),(!decide ([t4.1,t4.2]=[x.1,x.2]),false),(LG2 (SQ (t1*t0),t3),true)])) [some false,some true,some true,some false,some true] (by kernel_rfl) (ak (decide_eq_false h) (ak (decide_eq_true (d9 hr)) (ak (decide_eq_true q) (ak (nf2 (y:=ml2 (SQ ((x.1+(SQ (nm2 x)))*(zp 2^(PP-2))),x.2*(zp 2^(PP-2))*SQ ((x.1+(SQ (nm2 x)))*(zp 2^(PP-2)))^(PP-2)) (SQ ((x.1+(SQ (nm2 x)))*(zp 2^(PP-2))),x.2*(zp 2^(PP-2))*SQ ((x.1+(SQ (nm2 x)))*(zp 2^(PP-2)))^(PP-2))) (x:=x) e0) (ak (hc) aD))))) (by rw[←e,←M8 hc]<;>exact rfl)
   ·have e1:RF x (SQ (nm2 x)) (zp 2^(PP-2))=(SQ ((x.1+(SQ (nm2 x)))*(zp 2^(PP-2))),x.2*(zp 2^(PP-2))*SQ ((x.1+(SQ (nm2 x)))*(zp 2^(PP-2)))^(PP-2)):=if_pos q
    have e:NL (SQ ((x.1+(SQ (nm2 x)))*(zp 2^(PP-2))),x.2*(zp 2^(PP-2))*SQ ((x.1+(SQ (nm2 x)))*(zp 2^(PP-2)))^(PP-2))=r:=e1▸lQ hr hl fb h
    have e0:ml2 (SQ ((x.1+(SQ (nm2 x)))*(zp 2^(PP-2))),x.2*(zp 2^(PP-2))*SQ ((x.1+(SQ (nm2 x)))*(zp 2^(PP-2)))^(PP-2)) (SQ ((x.1+(SQ (nm2 x)))*(zp 2^(PP-2))),x.2*(zp 2^(PP-2))*SQ ((x.1+(SQ (nm2 x)))*(zp 2^(PP-2)))^(PP-2))=x:=e1▸rK (ig (d9 hr)) fb h
    exact pE TO51 func118 [.inl [x.1,x.2]] (.inr [.inl [r.1,r.2],.inr (.inl true)]) (let t0:=(zp 2)^(PP-2);let t1:=x.1+(SQ (nm2 x));let t2:=(SQ (t1*t0))^(PP-2);let t3:=(x.2*t0)*t2;let t4:=ml2 (SQ (t1*t0),t3) (SQ (t1*t0),t3);(.inr [.inl [SQ (t1*t0),t3],.inr (.inl true)],[(decide (x.2=0),false),(decide (SQr (nm2 x)*SQr (nm2 x)=(nm2 x)),true),(decide (SQr (t1*t0)*SQr (t1*t0)=(t1*t0)),true),(!decide ([t4.1,t4.2]=[x.1,x.2]),false),(LG2 (SQ (t1*t0),t3),false)])) [some false,some true,some true,some false,some false] (by kernel_rfl) (ak (decide_eq_false h) (ak (decide_eq_true (d9 hr)) (ak (decide_eq_true q) (ak (nf2 (y:=ml2 (SQ ((x.1+(SQ (nm2 x)))*(zp 2^(PP-2))),x.2*(zp 2^(PP-2))*SQ ((x.1+(SQ (nm2 x)))*(zp 2^(PP-2)))^(PP-2)) (SQ ((x.1+(SQ (nm2 x)))*(zp 2^(PP-2))),x.2*(zp 2^(PP-2))*SQ ((x.1+(SQ (nm2 x)))*(zp 2^(PP-2)))^(PP-2))) (x:=x) e0) (ak (Bool.eq_false_iff.2 hc) aD))))) (by rw[←e,←Kv hc]<;>exact rfl)
  ·by_cases hc:LG2 (SQ ((x.1-(SQ (nm2 x)))*(zp 2^(PP-2))),x.2*(zp 2^(PP-2))*SQ ((x.1-(SQ (nm2 x)))*(zp 2^(PP-2)))^(PP-2))=true
   ·have e1:RF x (SQ (nm2 x)) (zp 2^(PP-2))=(SQ ((x.1-(SQ (nm2 x)))*(zp 2^(PP-2))),x.2*(zp 2^(PP-2))*SQ ((x.1-(SQ (nm2 x)))*(zp 2^(PP-2)))^(PP-2)):=if_neg q
    have e:NL (SQ ((x.1-(SQ (nm2 x)))*(zp 2^(PP-2))),x.2*(zp 2^(PP-2))*SQ ((x.1-(SQ (nm2 x)))*(zp 2^(PP-2)))^(PP-2))=r:=e1▸lQ hr hl fb h
    have e0:ml2 (SQ ((x.1-(SQ (nm2 x)))*(zp 2^(PP-2))),x.2*(zp 2^(PP-2))*SQ ((x.1-(SQ (nm2 x)))*(zp 2^(PP-2)))^(PP-2)) (SQ ((x.1-(SQ (nm2 x)))*(zp 2^(PP-2))),x.2*(zp 2^(PP-2))*SQ ((x.1-(SQ (nm2 x)))*(zp 2^(PP-2)))^(PP-2))=x:=e1▸rK (ig (d9 hr)) fb h
    exact pE TO51 func118 [.inl [x.1,x.2]] (.inr [.inl [r.1,r.2],.inr (.inl true)]) (let t0:=(zp 2)^(PP-2);let t1:=x.1+(SQ (nm2 x));let t2:=x.1-(SQ (nm2 x));let t3:=(SQ (t2*t0))^(PP-2);let t4:=(x.2*t0)*t3;let t5:=ml2 (SQ (t2*t0),t4) (SQ (t2*t0),t4);let t6:=ng2 (SQ (t2*t0),t4);(.inr [.inl [t6.1,t6.2],.inr (.inl true)],[(decide (x.2=0),false),(decide (SQr (nm2 x)*SQr (nm2 x)=(nm2 x)),true),(decide (SQr (t1*t0)*SQr (t1*t0)=(t1*t0)),false),(!decide ([t5.1,t5.2]=[x.1,x.2]),false),(LG2 (SQ (t2*t0),t4),true)])) [some false,some true,some false,none,some false,some true] (by kernel_rfl) (ak (decide_eq_false h) (ak (decide_eq_true (d9 hr)) (ak (decide_eq_false q) (ak (nf2 (y:=ml2 (SQ ((x.1-(SQ (nm2 x)))*(zp 2^(PP-2))),x.2*(zp 2^(PP-2))*SQ ((x.1-(SQ (nm2 x)))*(zp 2^(PP-2)))^(PP-2)) (SQ ((x.1-(SQ (nm2 x)))*(zp 2^(PP-2))),x.2*(zp 2^(PP-2))*SQ ((x.1-(SQ (nm2 x)))*(zp 2^(PP-2)))^(PP-2))) (x:=x) e0) (ak (hc) aD))))) (by rw[←e,←M8 hc]<;>exact rfl)
   ·have e1:RF x (SQ (nm2 x)) (zp 2^(PP-2))=(SQ ((x.1-(SQ (nm2 x)))*(zp 2^(PP-2))),x.2*(zp 2^(PP-2))*SQ ((x.1-(SQ (nm2 x)))*(zp 2^(PP-2)))^(PP-2)):=if_neg q
    have e:NL (SQ ((x.1-(SQ (nm2 x)))*(zp 2^(PP-2))),x.2*(zp 2^(PP-2))*SQ ((x.1-(SQ (nm2 x)))*(zp 2^(PP-2)))^(PP-2))=r:=e1▸lQ hr hl fb h
    have e0:ml2 (SQ ((x.1-(SQ (nm2 x)))*(zp 2^(PP-2))),x.2*(zp 2^(PP-2))*SQ ((x.1-(SQ (nm2 x)))*(zp 2^(PP-2)))^(PP-2)) (SQ ((x.1-(SQ (nm2 x)))*(zp 2^(PP-2))),x.2*(zp 2^(PP-2))*SQ ((x.1-(SQ (nm2 x)))*(zp 2^(PP-2)))^(PP-2))=x:=e1▸rK (ig (d9 hr)) fb h
    exact pE TO51 func118 [.inl [x.1,x.2]] (.inr [.inl [r.1,r.2],.inr (.inl true)]) (let t0:=(zp 2)^(PP-2);let t1:=x.1+(SQ (nm2 x));let t2:=x.1-(SQ (nm2 x));let t3:=(SQ (t2*t0))^(PP-2);let t4:=(x.2*t0)*t3;let t5:=ml2 (SQ (t2*t0),t4) (SQ (t2*t0),t4);(.inr [.inl [SQ (t2*t0),t4],.inr (.inl true)],[(decide (x.2=0),false),(decide (SQr (nm2 x)*SQr (nm2 x)=(nm2 x)),true),(decide (SQr (t1*t0)*SQr (t1*t0)=(t1*t0)),false),(!decide ([t5.1,t5.2]=[x.1,x.2]),false),(LG2 (SQ (t2*t0),t4),false)])) [some false,some true,some false,none,some false,some false] (by kernel_rfl) (ak (decide_eq_false h) (ak (decide_eq_true (d9 hr)) (ak (decide_eq_false q) (ak (nf2 (y:=ml2 (SQ ((x.1-(SQ (nm2 x)))*(zp 2^(PP-2))),x.2*(zp 2^(PP-2))*SQ ((x.1-(SQ (nm2 x)))*(zp 2^(PP-2)))^(PP-2)) (SQ ((x.1-(SQ (nm2 x)))*(zp 2^(PP-2))),x.2*(zp 2^(PP-2))*SQ ((x.1-(SQ (nm2 x)))*(zp 2^(PP-2)))^(PP-2))) (x:=x) e0) (ak (Bool.eq_false_iff.2 hc) aD))))) (by rw[←e,←Kv hc]<;>exact rfl)
theorem EN(x:W2)(hq: ¬IsQ (nm2 x)):Pure Tryz.prog Gt 118 [EV2 x] (.tuple #[EV2 ze2,.bool false]):=by
 exact pE TO51 func118 [.inl [x.1,x.2]] (.inr [.inl [ze2.1,ze2.2],.inr (.inl false)]) (.inr [.inl [0,0],.inr (.inl false)],[(decide (x.2=0),false),(decide (SQr (nm2 x)*SQr (nm2 x)=(nm2 x)),false)]) [some false,some false] (by kernel_rfl) (ak (decide_eq_false (FP hq)) (ak (decide_eq_false hq) aD)) rfl
end
end Go.Proofs.YtodgbdcjjhmnkaaGreatDoor
