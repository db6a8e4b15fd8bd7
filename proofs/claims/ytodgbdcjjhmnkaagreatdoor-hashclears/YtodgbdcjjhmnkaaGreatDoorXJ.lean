/-
 Numbers made points: the other curve, its map to the second curve. Nothing here names a program.
 What is reckoned of the other curve by other ways; signs; its points have no x where a denominator is 0. Nothing here names a program.
 Sums of any things in any order; so many times one, and turned: what is turned four times is what is turned twice, less it. Nothing here names a program.
 Curves y y = x x x + b: points as numbers made of x and y; what is so at many points is so at all. Nothing here names a program.
 Curves y y = x x x + b: two maps that keep sums and are the same at many points are the same. Nothing here names a program.
 The powers of p in the field of p^6 elements. Nothing here names a program.
 Powers of p in the field of p^6 elements by a third root of 1. Nothing here names a program.
 The powers of p in the field of p^12 elements, its conjugates. Nothing here names a program.
 Powers of p in the field of p^12 elements, part by part, and by those of p^6. Nothing here names a program.
 Curves y y = x x x + b: lines, at other points. Nothing here names a program.
 Curves y y = x x x + b: lines under a map of products that upright lines vanish by. Nothing here names a program.
 The long power of the pairing; that it takes all of p^6 elements to 1, and has the order r. Nothing here names a program.
 The pairing is linear on both sides. Nothing here names a program.
 The second curve: turned, a point is so many times it and it turned twice: of every point. Nothing here names a program.
 The second curve: turned, a point is so many times it and it turned twice: by the points of the order r over p^12 elements. Nothing here names a program.
 The second curve: turned, a point is so many times it and it turned twice. Nothing here names a program.
 The second curve: so many times any point is a point of the order r; so many times, by turns. Nothing here names a program.
 How a message's point is reckoned by literals. Nothing here names a program.
 A known message's point. Nothing here names a program.
-/
import Derived.Test.YtodgbdcjjhmnkaaGreatDoorX5
import Derived.Test.YtodgbdcjjhmnkaaGreatDoorX4
set_option maxRecDepth 100000
set_option maxHeartbeats 1000000
namespace Go.Proofs.YtodgbdcjjhmnkaaGreatDoor
section
/-! ### Products of what has no root -/
theorem tf{a b:Zp}(ha:IsQ a)(hb:IsQ b):IsQ (a*b):=oC (s:=SQr a*SQr b) (by
 have ha:SQr a*SQr a=a:=ha
 have hb:SQr b*SQr b=b:=hb
 generalize SQr a=s at*
 generalize SQr b=t at*
 subst ha hb
 grind)
theorem BF{a b:Zp}(ha: ¬IsQ a)(hb: ¬IsQ b):IsQ (a*b):=by
 have h:=tf ((nu a).resolve_left ha) ((nu b).resolve_left hb)
 rw[show-a* -b=a*b by grind]at h
 exact h
def S5:Zp:=zp 0x186417302d5a65347a88b0f999ab2b504614aa5e2eebdeb1a014c40bceb7d2306c12a6d436befcf94d39c9db7b263cd4
theorem Kt:S5*S5= -(zp 5):=by decide+kernel
theorem JP: ¬IsQ (zp 5):=by
 rcases kT (a:=zp 5) (b:= -(zp 5)) (c:=zp 5) (by generalize zp 5=a;grind) (by decide+kernel)with h|h
 ·exact absurd (oC Kt) h.2
 ·exact h.1
/-! ### The other curve -/
def OA:W2:=(0,zp 240)
def OB:W2:=(zp 1012,zp 1012)
def OZ:W2:=ng2 (zp 2,zp 1)
def gO(x:W2):W2:=ad2 (ad2 (ml2 (ml2 x x) x) (ml2 OA x)) OB
def zu2(u:W2):W2:=ml2 (ml2 OZ u) u
def tu2(u:W2):W2:=ad2 (ml2 (zu2 u) (zu2 u)) (zu2 u)
def X1c:W2:=(zp 0x1a59d4b6bbf912a32d63b43028e2deeebe8d5d97ca64b6d66f64ac7a265a9305e1a40da5edb81b4e3ac4f5c28f5bd27,zp 0x15103a07f641331bb298f5ed3ba1230aa0bcc9f87d923077324df24a0f7ffa93045d3d6f94c17ae10efa11eb851e7336)
def R1c:W2:=(zp 0x28a5c165c0f2b6f84373bd5beb9a30d9ffef84fe5dc9a01a5e6825ee681d72252e4afbaf882c28f1c2935d806d2f71b,zp 0x17407d2938baedf8f3a537708747853994282b0535a8c4d8ffd7c0ebe3e31b581e4adea8190ec4a4a8ecaae9fd615d8a)
theorem Co:ml2 X1c (ml2 OZ OA)=OB:=by decide+kernel
theorem xp:ml2 R1c R1c=gO X1c:=by decide+kernel
theorem Jb:ml2 OZ OA≠ze2:=by decide+kernel
theorem sK:OA≠ze2:=by decide+kernel
theorem uW(a b c:W2):ml2 (ml2 a b) c=ml2 a (ml2 b c):=R2.mul_assoc a b c
theorem ym:ml2 OB (iv2 (ml2 OZ OA))=X1c:=by
 rw[←Co,uW,bV Jb]
 exact R2.mul_one X1c
def x1O(u:W2):W2:=if tu2 u=ze2 then ml2 OB (iv2 (ml2 OZ OA))else ml2 (ml2 (ng2 OB) (iv2 OA)) (ad2 on2 (iv2 (tu2 u)))
theorem DC{u:W2}(h:tu2 u≠ze2):ml2 (ml2 OA (x1O u)) (tu2 u)=ml2 (ng2 OB) (ad2 (tu2 u) on2):=by
 have e1:=bV sK
 have e2:=bV h
 rw[show x1O u=ml2 (ml2 (ng2 OB) (iv2 OA)) (ad2 on2 (iv2 (tu2 u)))from if_neg h]
 generalize tu2 u=t at*
 generalize iv2 t=s at*
 generalize iv2 OA=a' at*
 generalize OA=a at*
 generalize ng2 OB=b at*
 exact Rg.lc (R:=R2) (zq R2 [a,a',b,t,s] (ta (tm (tm j0 (tm (tm j2 j1) (ta to1 j4))) j3) (ta (tm (tm (tm j2 j3) (ta to1 j4)) to1) (tm j2 to1))) (ta (tm j2 (ta j3 to1)) (ta (tm (tm (tm j2 j3) (ta to1 j4)) (tm j0 j1)) (tm j2 (tm j3 j4))))) (lca (lcm e1) (lcm e2))
theorem g_x2{u:W2}(h:tu2 u≠ze2):gO (ml2 (zu2 u) (x1O u))=ml2 (ml2 (ml2 (zu2 u) (zu2 u)) (zu2 u)) (gO (x1O u)):=by
 have k:=DC h
 unfold tu2 at k
 unfold gO
 generalize zu2 u=z at*
 generalize x1O u=x at*
 generalize OA=a at*
 generalize OB=b at*
 exact Rg.lc (R:=R2) (zq R2 [a,b,z,x] (ta (ta (ta (tm (tm (tm j2 j3) (tm j2 j3)) (tm j2 j3)) (tm j0 (tm j2 j3))) j1) (tm (ta to1 (tn j2)) (tm (tn j1) (ta (ta (tm j2 j2) j2) to1)))) (ta (tm (tm (tm j2 j2) j2) (ta (ta (tm (tm j3 j3) j3) (tm j0 j3)) j1)) (tm (ta to1 (tn j2)) (tm (tm j0 j3) (ta (tm j2 j2) j2))))) (lcm k)
theorem J0(u:W2):nm2 (zu2 u)=zp 5*(nm2 u*nm2 u):=by
 rw[zu2,ef,ef,show nm2 OZ=zp 5 by decide+kernel]
 generalize zp 5=a
 generalize nm2 u=n
 grind
theorem Ap{u:W2}(h: ¬IsQ (nm2 (gO (x1O u)))):IsQ (nm2 (gO (ml2 (zu2 u) (x1O u)))):=by
 by_cases ht:tu2 u=ze2
 ·refine absurd ((ff _).1 ⟨R1c, ?_⟩) h
  rw[xp,show x1O u=ml2 OB (iv2 (ml2 OZ OA))from if_pos ht,ym]
 ·rw[g_x2 ht,ef,ef,ef,J0]
  have k:=tf (BF JP h) (kg (zp 5*(nm2 u*nm2 u)*(nm2 u)))
  generalize nm2 (gO (x1O u))=g at*
  generalize nm2 u=n at*
  generalize zp 5=a at*
  rw[show a*(n*n)*(a*(n*n))*(a*(n*n))*g=a*g*(a*(n*n)*n*(a*(n*n)*n)) by grind]
  exact k
/-! ### The map to the second curve -/
def iXN:List W2:=[(zp 0x5c759507e8e333ebb5b7a9a47d7ed8532c52d39fd3a042a88b58423c50ae15d5c2638e343d9c71c6238aaaaaaaa97d6,zp 0x5c759507e8e333ebb5b7a9a47d7ed8532c52d39fd3a042a88b58423c50ae15d5c2638e343d9c71c6238aaaaaaaa97d6),(0,zp 0x11560bf17baa99bc32126fced787c88f984f87adf7ae0c7f9a208c6b4f20a4181472aaa9cb8d555526a9ffffffffc71a),(zp 0x11560bf17baa99bc32126fced787c88f984f87adf7ae0c7f9a208c6b4f20a4181472aaa9cb8d555526a9ffffffffc71e,zp 0x8ab05f8bdd54cde190937e76bc3e447cc27c3d6fbd7063fcd104635a790520c0a395554e5c6aaaa9354ffffffffe38d),(zp 0x171d6541fa38ccfaed6dea691f5fb614cb14b4e7f4e810aa22d6108f142b85757098e38d0f671c7188e2aaaaaaaa5ed1,0)]
def iXD:List W2:=[(0,-zp 72),(zp 0xc,-zp 12),(zp 0x1,0)]
def iYN:List W2:=[(zp 0x1530477c7ab4113b59a4c18b076d11930f7da5d4a07f649bf54439d87d27e500fc8c25ebf8c92f6812cfc71c71c6d706,zp 0x1530477c7ab4113b59a4c18b076d11930f7da5d4a07f649bf54439d87d27e500fc8c25ebf8c92f6812cfc71c71c6d706),(0,zp 0x5c759507e8e333ebb5b7a9a47d7ed8532c52d39fd3a042a88b58423c50ae15d5c2638e343d9c71c6238aaaaaaaa97be),(zp 0x11560bf17baa99bc32126fced787c88f984f87adf7ae0c7f9a208c6b4f20a4181472aaa9cb8d555526a9ffffffffc71c,zp 0x8ab05f8bdd54cde190937e76bc3e447cc27c3d6fbd7063fcd104635a790520c0a395554e5c6aaaa9354ffffffffe38f),(zp 0x124c9ad43b6cf79bfbf7043de3811ad0761b0f37a1e26286b0e977c69aa274524e79097a56dc4bd9e1b371c71c718b10,0)]
def iYD:List W2:=[(-zp 432,-zp 432),(0,-zp 216),(zp 0x12,-zp 18),(zp 0x1,0)]
theorem zW:R2.pp (R2.pp iYN iYN) (R2.pp [OB,OA,ze2,on2] (R2.pp iXD (R2.pp iXD iXD)))=R2.pp (R2.pp iYD iYD) (R2.pa (R2.pp iXN (R2.pp iXN iXN)) (R2.pk (zp 4,zp 4) (R2.pp iXD (R2.pp iXD iXD)))):=by decide+kernel
theorem FP(x:W2):R2.pev [OB,OA,ze2,on2] x=gO x:=by
 show ad2 OB (ml2 x (ad2 OA (ml2 x (ad2 ze2 (ml2 x (ad2 on2 (ml2 x ze2)))))))=ad2 (ad2 (ml2 (ml2 x x) x) (ml2 OA x)) OB
 generalize OA=a
 generalize OB=b
 exact zq R2 [a,b,x] (ta j1 (tm j2 (ta j0 (tm j2 (ta tz0 (tm j2 (ta to1 (tm j2 tz0)))))))) (ta (ta (tm (tm j2 j2) j2) (tm j0 j2)) j1)
theorem F7(x:W2):ml2 (ml2 (R2.pev iYN x) (R2.pev iYN x)) (ml2 (gO x) (ml2 (R2.pev iXD x) (ml2 (R2.pev iXD x) (R2.pev iXD x))))=ml2 (ml2 (R2.pev iYD x) (R2.pev iYD x)) (ad2 (ml2 (R2.pev iXN x) (ml2 (R2.pev iXN x) (R2.pev iXN x))) (ml2 (zp 4,zp 4) (ml2 (R2.pev iXD x) (ml2 (R2.pev iXD x) (R2.pev iXD x))))):=by
 have h:=congrArg (fun l=>R2.pev l x) zW
 simp only[R2.pev_pp,R2.pev_pa,R2.pev_pk,FP]at h
 exact h
theorem En{x y:W2}(h:ml2 y y=gO x)(hx:R2.pev iXD x≠ze2)(hy:R2.pev iYD x≠ze2):E2w.on (ml2 (R2.pev iXN x) (iv2 (R2.pev iXD x)),ml2 (ml2 y (R2.pev iYN x)) (iv2 (R2.pev iYD x))):=by
 have e:=F7 x
 rw[←h]at e
 have e1:=bV hx
 have e2:=bV hy
 show ml2 (ml2 (ml2 y (R2.pev iYN x)) (iv2 (R2.pev iYD x))) (ml2 (ml2 y (R2.pev iYN x)) (iv2 (R2.pev iYD x)))=ad2 (ml2 (ml2 (R2.pev iXN x) (iv2 (R2.pev iXD x))) (ml2 (ml2 (R2.pev iXN x) (iv2 (R2.pev iXD x))) (ml2 (R2.pev iXN x) (iv2 (R2.pev iXD x))))) (zp 4,zp 4)
 generalize R2.pev iXN x=xn at*
 generalize R2.pev iXD x=xd at*
 generalize R2.pev iYN x=yn at*
 generalize R2.pev iYD x=yd at*
 generalize iv2 xd=s at*
 generalize iv2 yd=t at*
 generalize ((zp 4,zp 4):W2)=b at*
 exact Rg.lc (R:=R2) (zq R2 [y,xn,xd,yn,yd,s,t,b] (ta (tm (tm (tm j0 j3) j6) (tm (tm j0 j3) j6)) (ta (ta (tm (tm (tm (tm j5 j5) j5) (tm j6 j6)) (tm (tm j4 j4) (ta (tm j1 (tm j1 j1)) (tm j7 (tm j2 (tm j2 j2)))))) (tm (tm (ta (tn (tm (tm (tm j0 j0) (tm j3 j3)) (tm j6 j6))) j7) (ta (ta (tm (tm j2 j5) (tm j2 j5)) (tm j2 j5)) to1)) to1)) (tm (tm (ta (tm (tm j1 (tm j1 j1)) (tm (tm j5 j5) j5)) (tm j7 (tm (tm (tm j2 j5) (tm j2 j5)) (tm j2 j5)))) (ta (tm j4 j6) to1)) to1))) (ta (ta (tm (tm j1 j5) (tm (tm j1 j5) (tm j1 j5))) j7) (ta (ta (tm (tm (tm (tm j5 j5) j5) (tm j6 j6)) (tm (tm j3 j3) (tm (tm j0 j0) (tm j2 (tm j2 j2))))) (tm (tm (ta (tn (tm (tm (tm j0 j0) (tm j3 j3)) (tm j6 j6))) j7) (ta (ta (tm (tm j2 j5) (tm j2 j5)) (tm j2 j5)) to1)) (tm j2 j5))) (tm (tm (ta (tm (tm j1 (tm j1 j1)) (tm (tm j5 j5) j5)) (tm j7 (tm (tm (tm j2 j5) (tm j2 j5)) (tm j2 j5)))) (ta (tm j4 j6) to1)) (tm j4 j6))))) (lca (lca (lcm e) (lcm e1)) (lcm e2))
end
section
theorem wS{a b:W2}(ha:a≠ze2)(hb:b≠ze2):iv2 (ml2 a b)=ml2 (iv2 a) (iv2 b):=by
 have e0:=bV (x:=ml2 a b) (fun h=>(dI h).elim ha hb)
 have e1:=bV ha
 have e2:=bV hb
 generalize iv2 (ml2 a b)=w at*
 generalize iv2 a=s at*
 generalize iv2 b=t at*
 exact Rg.lc (R:=R2) (zq R2 [a,b,s,t,w] (ta j4 (ta (ta (tm (tm j2 j3) to1) (tm (tn (tm j4 (tm j1 j3))) to1)) (tm (tn j4) to1))) (ta (tm j2 j3) (ta (ta (tm (tm j2 j3) (tm (tm j0 j1) j4)) (tm (tn (tm j4 (tm j1 j3))) (tm j0 j2))) (tm (tn j4) (tm j1 j3))))) (lca (lca (lcm e0) (lcm e1)) (lcm e2))
theorem HF{x:W2}(h:x≠ze2):ng2 x≠ze2:=fun e=>h (by
 have:=congrArg ng2 e
 rw[wZ]at this
 exact (R2.neg_neg x).symm.trans this)
/-! ### The first x -/
theorem D8(x:W2):ad2 (ml2 (ad2 (ml2 x x) OA) x) OB=gO x:=by
 unfold gO
 generalize OA=a
 generalize OB=b
 exact zq R2 [x,a,b] (ta (tm (ta (tm j0 j0) j1) j0) j2) (ta (ta (tm (tm j0 j0) j0) (tm j1 j0)) j2)
theorem Ie(u:W2):ml2 (ml2 u u) OZ=zu2 u:=by
 unfold zu2
 generalize OZ=z
 exact zq R2 [u,z] (tm (tm j0 j0) j1) (tm (tm j1 j0) j0)
theorem DX(u:W2):zu2 (ng2 u)=zu2 u:=by
 unfold zu2
 generalize OZ=z
 exact zq R2 [u,z] (tm (tm j1 (tn j0)) (tn j0)) (tm (tm j1 j0) j0)
theorem Js(u:W2):tu2 (ng2 u)=tu2 u:=by rw[tu2,tu2,DX]
theorem LF(u:W2):x1O (ng2 u)=x1O u:=by rw[x1O,x1O,Js]
theorem AH{u:W2}(h:tu2 u=ze2):ml2 (ml2 OB (ad2 (tu2 u) on2)) (iv2 (ml2 OZ OA))=x1O u:=by
 rw[show x1O u=ml2 OB (iv2 (ml2 OZ OA))from if_pos h,h,show ad2 ze2 on2=on2 from R2.zero_add on2,show ml2 OB on2=OB from R2.mul_one OB]
theorem A0{u:W2}(h: ¬tu2 u=ze2):ml2 (ml2 OB (ad2 (tu2 u) on2)) (iv2 (ml2 (ng2 (tu2 u)) OA))=x1O u:=by
 rw[show x1O u=ml2 (ml2 (ng2 OB) (iv2 OA)) (ad2 on2 (iv2 (tu2 u)))from if_neg h]
 have e0:=bV (x:=ml2 (ng2 (tu2 u)) OA) (fun k=>(dI k).elim (HF h) sK)
 have e1:=bV sK
 have e2:=bV h
 generalize iv2 (ml2 (ng2 (tu2 u)) OA)=w at*
 generalize tu2 u=t at*
 generalize iv2 t=s at*
 generalize iv2 OA=a' at*
 generalize OA=a at*
 generalize OB=b at*
 exact Rg.lc (R:=R2) (zq R2 [a,a',b,t,s,w] (ta (tm (tm j2 (ta j3 to1)) j5) (ta (ta (tm (tm (tn j2) (tm j1 (ta to1 j4))) to1) (tm (tn (tm j2 (tm j5 (tm j3 (ta to1 j4))))) to1)) (tm (tn (tm j2 j5)) to1))) (ta (tm (tm (tn j2) j1) (ta to1 j4)) (ta (ta (tm (tm (tn j2) (tm j1 (ta to1 j4))) (tm (tm (tn j3) j0) j5)) (tm (tn (tm j2 (tm j5 (tm j3 (ta to1 j4))))) (tm j0 j1))) (tm (tn (tm j2 j5)) (tm j3 j4))))) (lca (lca (lcm e0) (lcm e1)) (lcm e2))
/-! ### Signs -/
def sgS(r u:W2):W2:=if SG2 r=SG2 u then r else ng2 r
theorem E0(r u:W2):ml2 (sgS r u) (sgS r u)=ml2 r r:=by
 unfold sgS
 split
 ·rfl
 ·exact xg r
structure SwR(u x r:W2):Prop where
 sq:ml2 r r=gO x
 lg:LG2 r=false
 at1:x=x1O u∨(¬IsQ (nm2 (gO (x1O u)))∧x=ml2 (zu2 u) (x1O u))
theorem HU(u:W2): ∃x r,SwR u x r:=by
 by_cases h:IsQ (nm2 (gO (x1O u)))
 ·obtain ⟨r,hr⟩:=(ff _).2 h
  exact ⟨_,NL r,(tW r).trans hr,iO r,.inl rfl⟩
 ·obtain ⟨r,hr⟩:=(ff _).2 (Ap h)
  exact ⟨_,NL r,(tW r).trans hr,iO r,.inr ⟨h,rfl⟩⟩
theorem SwR.neg{u x r:W2}(h:SwR u x r):SwR (ng2 u) x r:=⟨h.sq,h.lg,by rw[LF,DX];exact h.at1⟩
theorem SwR.on{u x r:W2}(h:SwR u x r):ml2 (sgS r u) (sgS r u)=gO x:=(E0 r u).trans h.sq
theorem KZ:tu2 ze2=ze2:=by decide+kernel
theorem Hk:X1c≠ze2:=by decide+kernel
theorem SwR.ze{x r:W2}(h:SwR ze2 x r):x≠ze2:=by
 have e:x1O ze2=X1c:=(if_pos KZ).trans ym
 rcases h.at1 with k|k
 ·rw[k,e];exact Hk
 ·refine absurd ((ff _).1 ⟨R1c, ?_⟩) k.1
  rw[xp,e]
/-! ### The map to the second curve -/
def C6:W2:=(zp 6,-zp 6)
theorem JK:iXD=[ml2 C6 C6,ad2 C6 C6,on2]:=by decide+kernel
theorem Jk:iYD=[ml2 C6 (ml2 C6 C6),ad2 (ml2 C6 C6) (ad2 (ml2 C6 C6) (ml2 C6 C6)),ad2 C6 (ad2 C6 C6),on2]:=by decide+kernel
theorem IG(x:W2):R2.pev iXD x=ml2 (ad2 x C6) (ad2 x C6):=by
 rw[JK]
 generalize C6=c
 exact zq R2 [x,c] (ta (tm j1 j1) (tm j0 (ta (ta j1 j1) (tm j0 (ta to1 (tm j0 tz0)))))) (tm (ta j0 j1) (ta j0 j1))
theorem Ld(x:W2):R2.pev iYD x=ml2 (ad2 x C6) (ml2 (ad2 x C6) (ad2 x C6)):=by
 rw[Jk]
 generalize C6=c
 exact zq R2 [x,c] (ta (tm j1 (tm j1 j1)) (tm j0 (ta (ta (tm j1 j1) (ta (tm j1 j1) (tm j1 j1))) (tm j0 (ta (ta j1 (ta j1 j1)) (tm j0 (ta to1 (tm j0 tz0)))))))) (tm (ta j0 j1) (tm (ta j0 j1) (ta j0 j1)))
def R32:Zp:=zp 0x1764c4d4cfa3326ab57cbfed7f4a64378dc56542f8ff574f159cb76173021e735e4c97e34b82fa6cc8627df6f1f0af2
theorem HR:R32*R32= -(zp 32):=by decide+kernel
theorem El: ¬IsQ (zp 32):=by
 rcases kT (a:=zp 32) (b:= -(zp 32)) (c:=zp 32) (by generalize zp 32=a;grind) (by decide+kernel)with h|h
 ·exact absurd (oC HR) h.2
 ·exact h.1
theorem Gd:nm2 (gO (ng2 C6))=zp 32:=by decide+kernel
theorem jl{x y:W2}(h:ml2 y y=gO x):ad2 x C6≠ze2:=fun k=>by
 have e:x=ng2 C6:=by
  have h:=k
  generalize C6=c at*
  exact Rg.lc (R:=R2) (zq R2 [x,c] (ta j0 (tm to1 tz0)) (ta (tn j1) (tm to1 (ta j0 j1)))) (lcm h)
 have q:=jL h
 rw[e,Gd]at q
 exact El q
theorem tM{x y:W2}(h:ml2 y y=gO x):R2.pev iXD x≠ze2:=fun e=>(dI ((IG x).symm.trans e)).elim (jl h) (jl h)
theorem r7{x y:W2}(h:ml2 y y=gO x):R2.pev iYD x≠ze2:=fun e=>(dI ((Ld x).symm.trans e)).elim (jl h) (fun e=>(dI e).elim (jl h) (jl h))
def XIs(x:W2):W2:=ml2 (R2.pev iXN x) (iv2 (R2.pev iXD x))
def YIs(x y:W2):W2:=ml2 (ml2 y (R2.pev iYN x)) (iv2 (R2.pev iYD x))
theorem K7{n d e:W2}(hd:d≠ze2)(he:e≠ze2):ml2 (ml2 n e) (iv2 (ml2 d e))=ml2 n (iv2 d):=by
 rw[wS hd he]
 have e2:=bV he
 generalize iv2 d=s at*
 generalize iv2 e=t at*
 exact Rg.lc (R:=R2) (zq R2 [n,d,e,s,t] (ta (tm (tm j0 j2) (tm j3 j4)) (tm (tm j0 j3) to1)) (ta (tm j0 j3) (tm (tm j0 j3) (tm j2 j4)))) (lcm e2)
theorem LA{n d e:W2}(hd:d≠ze2)(he:e≠ze2):ml2 (ml2 n d) (iv2 (ml2 d e))=ml2 n (iv2 e):=by
 rw[wS hd he]
 have e1:=bV hd
 generalize iv2 d=s at*
 generalize iv2 e=t at*
 exact Rg.lc (R:=R2) (zq R2 [n,d,e,s,t] (ta (tm (tm j0 j1) (tm j3 j4)) (tm (tm j0 j4) to1)) (ta (tm j0 j4) (tm (tm j0 j4) (tm j1 j3)))) (lcm e1)
theorem rU{x y:W2}(h:ml2 y y=gO x):E2w.on (XIs x,YIs x y):=En h (tM h) (r7 h)
/-! ### Coefficients, the highest first -/
def HK(f:Nat→W2)(x:W2):Nat→W2
 |0=>ze2
 |k+1=>ad2 (ml2 (HK f x k) x) (f k)
theorem FR(f:Nat→W2)(x:W2):HK f x 4=R2.pev [f 3,f 2,f 1,f 0] x:=by
 show ad2 (ml2 (ad2 (ml2 (ad2 (ml2 (ad2 (ml2 ze2 x) (f 0)) x) (f 1)) x) (f 2)) x) (f 3)=R2.pev [f 3,f 2,f 1,f 0] x
 generalize f 0=a3
 generalize f 1=a2
 generalize f 2=a1
 generalize f 3=a0
 exact zq R2 [a0,a1,a2,a3,x] (ta (tm (ta (tm (ta (tm (ta (tm tz0 j4) j3) j4) j2) j4) j1) j4) j0) (ta j0 (tm j4 (ta j1 (tm j4 (ta j2 (tm j4 (ta j3 (tm j4 tz0))))))))
theorem HK_z(f:Nat→W2)(x:W2)(h:f 0=ze2):HK f x 4=R2.pev [f 3,f 2,f 1] x:=by
 show ad2 (ml2 (ad2 (ml2 (ad2 (ml2 (ad2 (ml2 ze2 x) (f 0)) x) (f 1)) x) (f 2)) x) (f 3)=R2.pev [f 3,f 2,f 1] x
 rw[h]
 generalize f 1=a2
 generalize f 2=a1
 generalize f 3=a0
 exact zq R2 [a0,a1,a2,x] (ta (tm (ta (tm (ta (tm (ta (tm tz0 j3) tz0) j3) j2) j3) j1) j3) j0) (ta j0 (tm j3 (ta j1 (tm j3 (ta j2 (tm j3 tz0))))))
/-! ### What the laws ask besides -/
end
section
structure Ab(γ:Type) where
 ad:γ→γ→γ
 ng:γ→γ
 ze:γ
 assoc: ∀a b c,ad (ad a b) c=ad a (ad b c)
 comm: ∀a b,ad a b=ad b a
 zl: ∀a,ad ze a=a
 nr: ∀a,ad a (ng a)=ze
section
variable {γ:Type} (G:Ab γ)
theorem Ab.zr(a:γ):G.ad a G.ze=a:=by rw[G.comm,G.zl]
theorem Ab.can{a b c:γ}(h:G.ad a b=G.ad a c):b=c:=by
 have e:=congrArg (G.ad (G.ng a)) h
 rw[←G.assoc,←G.assoc,G.comm (G.ng a) a,G.nr,G.zl,G.zl]at e
 exact e
theorem Ab.ng_of{a b:γ}(h:G.ad a b=G.ze):b=G.ng a:=G.can (a:=a) (by rw[h,G.nr])
theorem Ab.four(a b c d:γ):G.ad (G.ad a b) (G.ad c d)=G.ad (G.ad a c) (G.ad b d):=by
 have:Std.Associative G.ad:=⟨G.assoc⟩
 have:Std.Commutative G.ad:=⟨G.comm⟩
 ac_rfl
theorem Ab.ng_ad(a b:γ):G.ng (G.ad a b)=G.ad (G.ng a) (G.ng b):=(G.ng_of (by rw[G.four,G.nr,G.nr,G.zl])).symm
theorem Ab.ng_ng(a:γ):G.ng (G.ng a)=a:=(G.ng_of (by rw[G.comm,G.nr])).symm
theorem Ab.ng_ze:G.ng G.ze=G.ze:=(G.ng_of (G.zl _)).symm
def Ab.nm(a:γ):Nat→γ
 |0=>G.ze
 |n+1=>G.ad (Ab.nm a n) a
theorem Ab.nm_add(a:γ)(m:Nat): ∀n,G.nm a (m+n)=G.ad (G.nm a m) (G.nm a n)
 |0=>(G.zr _).symm
 |n+1=>by rw[←Nat.add_assoc,Ab.nm,Ab.nm_add a m n,G.assoc,Ab.nm]
theorem Ab.nm_ze: ∀n,G.nm G.ze n=G.ze
 |0=>rfl
 |n+1=>by rw[Ab.nm,Ab.nm_ze n,G.zl]
theorem Ab.nm_ad(a b:γ): ∀n,G.nm (G.ad a b) n=G.ad (G.nm a n) (G.nm b n)
 |0=>(G.zl _).symm
 |n+1=>by rw[Ab.nm,Ab.nm_ad a b n,G.four,Ab.nm,Ab.nm]
theorem Ab.nm_ng(a:γ)(n:Nat):G.nm (G.ng a) n=G.ng (G.nm a n):=G.ng_of (by rw[←G.nm_ad,G.nr,G.nm_ze])
theorem Ab.nm_mul(a:γ)(m:Nat): ∀n,G.nm a (m*n)=G.nm (G.nm a m) n
 |0=>rfl
 |n+1=>by rw[Nat.mul_succ,G.nm_add,Ab.nm_mul a m n,Ab.nm]
def Ab.zm(a:γ)(n:Int):γ:=G.ad (G.nm a n.toNat) (G.ng (G.nm a (-n).toNat))
theorem Ab.zm_sub(a:γ)(m n:Nat):G.zm a ((m:Int)-n)=G.ad (G.nm a m) (G.ng (G.nm a n)):=by
 have key: ∀x y k:Nat,G.ad (G.nm a (x+k)) (G.ng (G.nm a (y+k)))=G.ad (G.nm a x) (G.ng (G.nm a y)):=fun x y k=>by
  rw[G.nm_add,G.nm_add,G.ng_ad,G.four,G.nr,G.zr]
 rcases Nat.le_total m n with h|h
 ·rw[Ab.zm,show ((m:Int)-n).toNat=0 by omega,show (-((m:Int)-n)).toNat=n-m by omega,←key 0 (n-m) m]
  rw[Nat.zero_add,Nat.sub_add_cancel h]
 ·rw[Ab.zm,show ((m:Int)-n).toNat=m-n by omega,show (-((m:Int)-n)).toNat=0 by omega,←key (m-n) 0 n]
  rw[Nat.zero_add,Nat.sub_add_cancel h]
theorem Ab.zm_nat(a:γ)(n:Nat):G.zm a n=G.nm a n:=by
 have h:=G.zm_sub a n 0
 rw[show ((n:Int)-(0:Nat))=n by omega]at h
 rw[h,show G.nm a 0=G.ze from rfl,G.ng_ze,G.zr]
theorem int_sub(n:Int):n=(n.toNat:Int)-((-n).toNat:Int):=by omega
theorem Ab.zm_add(a:γ)(m n:Int):G.zm a (m+n)=G.ad (G.zm a m) (G.zm a n):=by
 have e:m+n=((m.toNat+n.toNat:Nat):Int)-(((-m).toNat+(-n).toNat:Nat):Int):=by omega
 rw[e,G.zm_sub,G.nm_add,G.nm_add,G.ng_ad,G.four,Ab.zm,Ab.zm]
theorem Ab.zm_ng(a:γ)(n:Int):G.zm a (-n)=G.ng (G.zm a n):=by
 refine G.ng_of ?_
 rw[←G.zm_add,Int.add_right_neg]
 exact G.zm_nat a 0
theorem Ab.zm_ad(a b:γ)(n:Int):G.zm (G.ad a b) n=G.ad (G.zm a n) (G.zm b n):=by
 rw[Ab.zm,Ab.zm,Ab.zm,G.nm_ad,G.nm_ad,G.ng_ad,G.four]
theorem Ab.zm_of_ng(a:γ)(n:Int):G.zm (G.ng a) n=G.ng (G.zm a n):=by
 refine G.ng_of ?_
 rw[←G.zm_ad,G.nr,Ab.zm,G.nm_ze,G.nm_ze,G.nr]
theorem Ab.zm_ze(n:Int):G.zm G.ze n=G.ze:=by rw[Ab.zm,G.nm_ze,G.nm_ze,G.nr]
theorem Ab.zm_mulN(a:γ)(m:Int): ∀n:Nat,G.zm a (m*n)=G.nm (G.zm a m) n
 |0=>by rw[show m*((0:Nat):Int)=((0:Nat):Int) by omega,G.zm_nat];rfl
 |n+1=>by rw[show m*((n+1:Nat):Int)=m*n+m by rw[Int.natCast_succ,Int.mul_add,Int.mul_one],G.zm_add,Ab.zm_mulN a m n,Ab.nm]
theorem Ab.zm_mul(a:γ)(m n:Int):G.zm a (m*n)=G.zm (G.zm a m) n:=by
 have e:m*n=m*(n.toNat:Int)+ -(m*((-n).toNat:Int)):=by
  conv=>lhs;rw[int_sub n,Int.mul_sub]
  omega
 rw[e,G.zm_add,G.zm_ng,G.zm_mulN,G.zm_mulN];rfl
theorem Ab.zm_mod{a:γ}{r:Nat}(h:G.nm a r=G.ze){m n:Int}(k:Int)(e:m=n+k*r):G.zm a m=G.zm a n:=by
 rw[e,G.zm_add,Int.mul_comm,G.zm_mul,G.zm_nat,h,G.zm_ze,G.zr]
/-! ### Turned -/
abbrev Q4:=Int×Int×Int×Int
def Q4.add(u v:Q4):Q4:=(u.1+v.1,u.2.1+v.2.1,u.2.2.1+v.2.2.1,u.2.2.2+v.2.2.2)
def Q4.sm(k:Int)(v:Q4):Q4:=(k*v.1,k*v.2.1,k*v.2.2.1,k*v.2.2.2)
def Q4.sh(v:Q4):Q4:=(-v.2.2.2,v.1,v.2.1+v.2.2.2,v.2.2.1)
def Q4.mul(u v:Q4):Q4:=Q4.add (Q4.sm u.1 v) (Q4.add (Q4.sm u.2.1 (Q4.sh v)) (Q4.add (Q4.sm u.2.2.1 (Q4.sh (Q4.sh v))) (Q4.sm u.2.2.2 (Q4.sh (Q4.sh (Q4.sh v))))))
structure Ab.Tn where
 f:γ→γ
 fa: ∀a b,f (G.ad a b)=G.ad (f a) (f b)
 f4: ∀a,f (f (f (f a)))=G.ad (f (f a)) (G.ng a)
variable {G} (T:G.Tn)
theorem Ab.Tn.fz:T.f G.ze=G.ze:=G.can (a:=T.f G.ze) (by rw[←T.fa,G.zl,G.zr])
theorem Ab.Tn.fn(a:γ):T.f (G.ng a)=G.ng (T.f a):=G.ng_of (by rw[←T.fa,G.nr,T.fz])
theorem Ab.Tn.fm(a:γ): ∀n,T.f (G.nm a n)=G.nm (T.f a) n
 |0=>T.fz
 |n+1=>by rw[Ab.nm,T.fa,Ab.Tn.fm a n,Ab.nm]
theorem Ab.Tn.fzm(a:γ)(n:Int):T.f (G.zm a n)=G.zm (T.f a) n:=by rw[Ab.zm,T.fa,T.fn,T.fm,T.fm];rfl
def Ab.Tn.act(v:Q4)(a:γ):γ:=G.ad (G.ad (G.zm a v.1) (G.zm (T.f a) v.2.1)) (G.ad (G.zm (T.f (T.f a)) v.2.2.1) (G.zm (T.f (T.f (T.f a))) v.2.2.2))
theorem Ab.Tn.act_ad(u v:Q4)(a:γ):T.act (u.add v) a=G.ad (T.act u a) (T.act v a):=by
 unfold Ab.Tn.act Q4.add
 simp only[G.zm_add]
 have:Std.Associative G.ad:=⟨G.assoc⟩
 have:Std.Commutative G.ad:=⟨G.comm⟩
 ac_rfl
theorem Ab.Tn.act_sm(k:Int)(v:Q4)(a:γ):T.act (v.sm k) a=G.zm (T.act v a) k:=by
 unfold Ab.Tn.act Q4.sm
 simp only[G.zm_ad,Int.mul_comm k,G.zm_mul]
theorem Ab.Tn.act_sh(v:Q4)(a:γ):T.act v.sh a=T.f (T.act v a):=by
 unfold Ab.Tn.act Q4.sh
 simp only[T.fa,T.fzm,T.f4,G.zm_ad,G.zm_add,G.zm_ng,G.zm_of_ng]
 have:Std.Associative G.ad:=⟨G.assoc⟩
 have:Std.Commutative G.ad:=⟨G.comm⟩
 ac_rfl
theorem Ab.Tn.act_mul(u v:Q4)(a:γ):T.act (u.mul v) a=T.act u (T.act v a):=by
 unfold Q4.mul
 simp only[T.act_ad,T.act_sm,T.act_sh]
 generalize T.act v a=b
 unfold Ab.Tn.act
 have:Std.Associative G.ad:=⟨G.assoc⟩
 have:Std.Commutative G.ad:=⟨G.comm⟩
 ac_rfl
theorem Ab.Tn.act_ze(u:Q4):T.act u G.ze=G.ze:=by
 unfold Ab.Tn.act
 simp only[T.fz,G.zm_ze,G.zl]
theorem Ab.Tn.act_nm(n:Nat)(a:γ):T.act ((n:Int),0,0,0) a=G.nm a n:=by
 have z: ∀b:γ,G.zm b 0=G.ze:=fun b=>G.zm_nat b 0
 unfold Ab.Tn.act
 simp only[z,G.zr,G.zm_nat]
theorem Ab.Tn.act_same{z:Q4}(hz: ∀a,T.act z a=G.ze){u v g:Q4}(h:u=v.add (g.mul z))(a:γ):T.act u a=T.act v a:=by
 rw[h,T.act_ad,T.act_mul,hz,T.act_ze,G.zr]
end
/-! ### The points of a curve -/
section
variable {α:Type} [DecidableEq α] (C:Ec α)
abbrev Ec.On:={P:Pt α // C.onP P}
def Ec.ab:Ab C.On where
 ad:=fun a b=>⟨C.ad a.1 b.1,C.ad_on a.2 b.2⟩
 ng:=fun a=>⟨C.ne a.1,C.ne_on a.2⟩
 ze:=⟨none,True.intro⟩
 assoc:=fun a b c=>Subtype.ext (C.ad_assoc a.2 b.2 c.2)
 comm:=fun a b=>Subtype.ext (C.ad_comm a.2 b.2)
 zl:=fun _=>rfl
 nr:=fun a=>Subtype.ext (C.ad_ne a.1)
theorem Ec.ab_nm(a:C.On): ∀n,(C.ab.nm a n).1=C.times a.1 n
 |0=>rfl
 |n+1=>by
  show C.ad (C.ab.nm a n).1 a.1=_
  rw[Ec.ab_nm a n];rfl
end
end
section
section
variable {α:Type} (C:Ec α)
theorem Ec.DW.const(c:α):C.DW 0 (fun _ _=>c):=⟨[c],[],Nat.le_refl _,Nat.zero_le _,fun x y _=>by
 show c=C.R.add (C.R.add c (C.R.mul x C.R.zero)) (C.R.mul y C.R.zero)
 rw[C.R.mul_zero,C.R.mul_zero,C.R.add_zero,C.R.add_zero]⟩
variable {C}
theorem Ec.DW.sm{d:Nat}{F:α→α→α}(c:α)(h:C.DW d F):C.DW d (fun x y=>C.R.mul c (F x y)):=by
 have k:=(Ec.DW.const C c).mul h
 rw[Nat.zero_add]at k
 exact k
theorem Ec.DW.pw{d:Nat}{F:α→α→α}(h:C.DW d F): ∀n,C.DW (d*n) (fun x y=>C.R.pw (F x y) n)
 |0=>Ec.DW.one C
 |n+1=>(Ec.DW.pw h n).mul h
theorem Ec.DJ.ad{m n:Nat}{A B:α→α→α×α×α}(h:C.DJ m A)(k:C.DJ n B):C.DJ (3*(m+n)) (fun x y=>C.ja (A x y).1 (A x y).2.1 (A x y).2.2 (B x y).1 (B x y).2.1 (B x y).2.2):=by
 have ZZ:=h.Z.mul h.Z
 have ZZ':=k.Z.mul k.Z
 have hx:=k.X.mul ZZ
 have hX:=h.X.mul ZZ'
 have H:=(hx.up (e:=2*(m+n)) (by omega)).sub (hX.up (by omega))
 have hy:=(k.Y.mul ZZ).mul h.Z
 have hY:=(h.Y.mul ZZ').mul k.Z
 have Q:=(hy.up (e:=3*(m+n)) (by omega)).sub (hY.up (by omega))
 have HH:=H.mul H
 have HHH:=HH.mul H
 have W:=hX.mul HH
 have X':=(((Q.mul Q).up (e:=2*(3*(m+n))) (by omega)).sub (HHH.up (by omega))).sub (W.up (by omega))|>.sub (W.up (by omega))
 refine ⟨X', ?_,((h.Z.mul k.Z).mul H).up (by omega)⟩
 exact ((Q.mul ((W.up (e:=2*(3*(m+n))) (by omega)).sub X')).up (by omega)).sub ((hY.mul HHH).up (by omega))
theorem Ec.DJ.n{m:Nat}{A:α→α→α×α×α}(h:C.DJ m A):C.DJ m (fun x y=>((A x y).1,C.R.neg (A x y).2.1,(A x y).2.2)):=⟨h.X,h.Y.neg,h.Z⟩
theorem Ec.DJ.w{m:Nat}{A:α→α→α×α×α}(c:α)(h:C.DJ m A):C.DJ m (fun x y=>(C.R.mul c (A x y).1,(A x y).2.1,(A x y).2.2)):=⟨h.X.sm c,h.Y,h.Z⟩
variable (C)
def Ec.jA(A B:α×α×α):α×α×α:=C.ja A.1 A.2.1 A.2.2 B.1 B.2.1 B.2.2
def Ec.jD(A:α×α×α):α×α×α:=C.jd A.1 A.2.1 A.2.2
def Ec.jN(A:α×α×α):α×α×α:=(A.1,C.R.neg A.2.1,A.2.2)
def Ec.jW(c:α)(A:α×α×α):α×α×α:=(C.R.mul c A.1,A.2.1,A.2.2)
def Ec.jx(B:α×α×α):List Bool→α×α×α→α×α×α
 |[],A=>A
 |false::r,A=>Ec.jx B r (C.jD A)
 |true::r,A=>Ec.jx B r (C.jA (C.jD A) B)
def nB(k:Nat):List Bool→Nat→Nat
 |[],m=>m
 |false::r,m=>nB k r (4*m)
 |true::r,m=>nB k r (3*(4*m+k))
variable {C}
theorem Ec.DJ.x{k:Nat}{B:α→α→α×α×α}(hB:C.DJ k B): ∀(l:List Bool) (m:Nat) (A:α→α→α×α×α),C.DJ m A→C.DJ (nB k l m) (fun x y=>C.jx (B x y) l (A x y))
 |[],_,_,h=>h
 |false::r,_,_,h=>Ec.DJ.x hB r _ _ h.d
 |true::r,_,_,h=>Ec.DJ.x hB r _ _ (h.d.ad hB)
theorem Ec.DW.norm{d:Nat}{F:α→α→α}(h:C.DW d F): ∃N:List α,N.length≤2*d+1∧∀x y,C.on (x,y)→C.R.pev N x=C.R.mul (F x y) (F x (C.R.neg y)):=by
 obtain ⟨a,b,l1,l2,hZ⟩:=h
 obtain ⟨A,lA,_,_,hA⟩:=C.R.mul_ex a a
 obtain ⟨B,lB,lB1,_,hB⟩:=C.R.mul_ex b b
 obtain ⟨c,hc,h4⟩: ∃c:List α,c.length=4∧∀x,C.R.pev c x=C.R.mul (C.R.neg C.R.one) (C.R.add C.b (C.R.mul x (C.R.add C.R.zero (C.R.mul x (C.R.add C.R.zero (C.R.mul x (C.R.add C.R.one (C.R.mul x C.R.zero)))))))):=⟨C.R.pk (C.R.neg C.R.one) [C.b,C.R.zero,C.R.zero,C.R.one],rfl,fun x=>C.R.pev_pk _ x _⟩
 obtain ⟨D,lD,_,lD2,hD⟩:=C.R.mul_ex c B
 have dD:D.length≤2*d+1:=by
  have:=yq l2 l2 lB lB1 lB1 (by rw[hc]at lD;exact lD) lD2
  rw[Nat.two_mul];exact this
 have dA:A.length≤2*d+1:=by
  have:=z9 l1 l1 lA
  rw[Nat.two_mul];exact this
 obtain ⟨N,lN,hN'⟩:=C.R.add_ex A D (2*d+1) dA dD
 refine ⟨N,lN,fun x y hxy=> ?_⟩
 have hy:C.R.mul y y=C.R.add (C.R.mul x (C.R.mul x x)) C.b:=hxy
 rw[hN',hA,hD,h4,hB,hZ x y hxy,hZ x _ (C.ng_on (p:=(x,y)) hxy)]
 generalize C.R.pev a x=s
 generalize C.R.pev b x=t
 exact Rg.lc (R:=C.R) (zq C.R [s,t,x,y,C.b] (ta (ta (tm j0 j0) (tm (tm (tn to1) (ta j4 (tm j2 (ta tz0 (tm j2 (ta tz0 (tm j2 (ta to1 (tm j2 tz0))))))))) (tm j1 j1))) (tm (tm j1 j1) (ta (tm j2 (tm j2 j2)) j4))) (ta (tm (ta j0 (tm j3 j1)) (ta j0 (tm (tn j3) j1))) (tm (tm j1 j1) (tm j3 j3)))) (lcm hy)
variable (C)
def Ec.V(A:α×α×α)(P:Pt α):Prop:=A.2.2=C.R.zero∨C.jr A P
theorem Ec.two_x(a:α)(K:List (α×α))(hd:K.Pairwise (·≠ ·))(hk: ∀q,q∈K→C.on q∧q.1=a):K.length≤2:=by
 match K,hd,hk with
 |[],_,_=>exact Nat.zero_le _
 |[_],_,_=>exact Nat.le_succ _
 |[_,_],_,_=>exact Nat.le_refl _
 |p::q::s::t,hd,hk=>
  exfalso
  have hp:=hk p (by simp)
  have hq:=hk q (by simp)
  have hs:=hk s (by simp)
  simp only[List.pairwise_cons,List.mem_cons]at hd
  have h1:p≠q:=hd.1 q (.inl rfl)
  have h2:p≠s:=hd.1 s (.inr (.inl rfl))
  have h3:q≠s:=hd.2.1 s (.inl rfl)
  have e1:q=C.ng p:=(C.x_two hq.1 hp.1 (hq.2.trans hp.2.symm)).elim (fun e=>absurd (Option.some.inj e).symm h1) (fun e=>Option.some.inj (show some _=some (C.ng p)from e))
  have e2:s=C.ng p:=(C.x_two hs.1 hp.1 (hs.2.trans hp.2.symm)).elim (fun e=>absurd (Option.some.inj e).symm h2) (fun e=>Option.some.inj (show some _=some (C.ng p)from e))
  exact h3 (e1.trans e2.symm)
variable {C}
theorem Ec.V.n{A:α×α×α}{P:Pt α}(h:C.V A P):C.V (C.jN A) (C.ne P):=h.elim (fun e=>.inl e) fun k=>.inr (C.jr_n k)
theorem Ec.V.w{A:α×α×α}{P:Pt α}{T:Tw C}{c:α}(hT: ∀q,T.m q=(C.R.mul c q.1,q.2))(h:C.V A P):C.V (C.jW c A) (T.p P):=by
 refine h.elim (fun e=>.inl e) fun k=>.inr ?_
 cases P with
 |none=>exact k
 |some q=>
  show C.jr (C.jW c A) (some (T.m q))
  rw[hT]
  refine ⟨k.1, ?_,k.2.2⟩
  show C.R.mul c A.1=C.R.mul (C.R.mul c q.1) (C.z2 A.2.2)
  rw[k.2.1,C.R.mul_assoc]
end
section
variable {α:Type} [DecidableEq α] (C:Ec α)
variable {C}
theorem Ec.V.d{A:α×α×α}{P:Pt α}(hP:C.onP P)(h:C.V A P):C.V (C.jD A) (C.ad P P):=C.js_d hP h
theorem Ec.V.a{A B:α×α×α}{P Q:Pt α}(hP:C.onP P)(hQ:C.onP Q)(h:C.V A P)(k:C.V B Q):C.V (C.jA A B) (C.ad P Q):=by
 by_cases hB:B.2.2=C.R.zero
 ·left
  show (C.ja A.1 A.2.1 A.2.2 B.1 B.2.1 B.2.2).2.2=C.R.zero
  rw[C.ja_z,hB,C.R.mul_zero,C.R.zero_mul]
 ·exact C.js_a hP hQ h (k.resolve_left hB) hB
theorem Ec.V.x{B:α×α×α}{Q:Pt α}(hQ:C.onP Q)(hB:C.V B Q): ∀(l:List Bool) (A:α×α×α) (n:Nat),C.V A (C.times Q n)→C.V (C.jx B l A) (C.times Q (e9 l n))
 |[],_,_,h=>h
 |false::r,A,n,h=>by
  have hd:=h.d (C.times_on hQ n)
  rw[←C.times_add hQ,←Nat.two_mul]at hd
  exact Ec.V.x hQ hB r _ _ hd
 |true::r,A,n,h=>by
  have hd:=h.d (C.times_on hQ n)
  rw[←C.times_add hQ,←Nat.two_mul]at hd
  exact Ec.V.x hQ hB r _ (2*n+1) (hd.a (C.times_on hQ (2*n)) hQ hB)
end
/-! ### Many points -/
theorem lM{β:Type}(f:β→Bool): ∀l:List β,(l.filter f).length+(l.filter fun x=> !f x).length=l.length
 |[]=>rfl
 |a::l=>by
  have ih:=lM f l
  cases h:f a<;>simp only[List.filter,h,Bool.not_true,Bool.not_false,List.length_cons]<;>omega
section
variable {α:Type} [DecidableEq α] (C:Ec α)
theorem Ec.rootsL: ∀(n:Nat) (N:List α) (L:List (α×α)),N.length≤n→2*n≤L.length→L.Pairwise (·≠ ·)→(∀q,q∈L→C.on q)→(∀q,q∈L→C.R.pev N q.1=C.R.zero)→∀x,C.R.pev N x=C.R.zero
 |0,N,_,h,_,_,_,_=>fun x=>by
  obtain rfl:N=[]:=List.eq_nil_of_length_eq_zero (by omega)
  rfl
 |n+1,N,L,h,hL,hd,ho,h0=>fun x=>by
  match L,hL,hd,ho,h0 with
  |[],hL,_,_,_=>exact absurd hL (by simp)
  |p::L1,hL,hd,ho,h0=>
   obtain ⟨Q,h1,h2⟩:=C.R.split p.1 N
   have hN: ∀x,C.R.pev N x=C.R.mul (C.R.pev Q x) (C.R.add x (C.R.neg p.1)):=fun x=>by rw[h2 x,h0 p (by simp),C.R.add_zero]
   have hl:=lM (fun q:α×α=>decide (q.1=p.1)) (p::L1)
   have h2':=C.two_x p.1 ((p::L1).filter fun q=>decide (q.1=p.1)) (hd.filter _) (fun q hq=>by
    rw[List.mem_filter]at hq
    exact ⟨ho q hq.1,of_decide_eq_true hq.2⟩)
   have hQ:=Ec.rootsL n Q ((p::L1).filter fun q=> !decide (q.1=p.1)) (by omega) (by omega) (hd.filter _) (fun q hq=>ho q (List.mem_filter.1 hq).1) (fun q hq=>by
    rw[List.mem_filter]at hq
    have e:=h0 q hq.1
    rw[hN]at e
    refine (C.fd.two e).resolve_right fun e2=> ?_
    have hne:q.1≠p.1:=by simpa using hq.2
    exact hne (C.sub0 e2)) x
   rw[hN,hQ,C.R.zero_mul]
variable {C}
theorem Ec.DW.all{d:Nat}{F:α→α→α}(h:C.DW d F){L:List (α×α)}(hl:2*(d+1)≤L.length)(hd:L.Pairwise (·≠ ·))(ho: ∀q,q∈L→C.on q)(hy: ∀q,q∈L→q.2≠C.R.zero)(h0: ∀q,q∈L→F q.1 q.2=C.R.zero∧F q.1 (C.R.neg q.2)=C.R.zero){x y:α}(hp:C.on (x,y)):F x y=C.R.zero:=by
 obtain ⟨a,b,h1,h2,h3⟩:=h
 have key: ∀q,q∈L→C.R.pev a q.1=C.R.zero∧C.R.pev b q.1=C.R.zero:=fun q hq=>by
  have e1:=(h0 q hq).1
  have e2:=(h0 q hq).2
  rw[h3 _ _ (ho q hq)]at e1
  rw[h3 _ _ (C.ng_on (p:=q) (ho q hq))]at e2
  generalize C.R.pev a q.1=s at*
  generalize C.R.pev b q.1=t at*
  have ea:s=C.R.zero:=C.dbl0 (Rg.lc (R:=C.R) (zq C.R [s,t,q.2] (ta (ta j0 j0) (ta tz0 tz0)) (ta tz0 (ta (ta j0 (tm j2 j1)) (ta j0 (tm (tn j2) j1))))) (lca e1.symm e2.symm))
  refine ⟨ea, ?_⟩
  rw[ea,C.R.zero_add]at e1
  exact (C.fd.two e1).resolve_left (hy q hq)
 rw[h3 _ _ hp,C.rootsL (d+1) a L h1 hl hd ho (fun q hq=>(key q hq).1) x,C.rootsL (d+1) b L (by omega) hl hd ho (fun q hq=>(key q hq).2) x,C.R.mul_zero,C.R.add_zero]
end
end
section
section
variable {γ δ:Type} (G:Ab γ) (H:Ab δ)
theorem Ab.h_ze{f:γ→δ}(hf: ∀a b,f (G.ad a b)=H.ad (f a) (f b)):f G.ze=H.ze:=H.can (a:=f G.ze) (by rw[←hf,G.zl,H.zr])
theorem Ab.h_ng{f:γ→δ}(hf: ∀a b,f (G.ad a b)=H.ad (f a) (f b))(a:γ):f (G.ng a)=H.ng (f a):=H.ng_of (by rw[←hf,G.nr,G.h_ze H hf])
theorem Ab.h_nm{f:γ→δ}(hf: ∀a b,f (G.ad a b)=H.ad (f a) (f b))(a:γ): ∀n,f (G.nm a n)=H.nm (f a) n
 |0=>G.h_ze H hf
 |n+1=>by rw[Ab.nm,hf,Ab.h_nm hf a n,Ab.nm]
end
section
variable {α:Type} [DecidableEq α] {C:Ec α}
theorem Ec.On.is{a:C.On}(h:a≠C.ab.ze): ∃hx:C.on (C.xy a.1),a=⟨some (C.xy a.1),hx⟩:=by
 obtain ⟨P,hP⟩:=a
 cases P with
 |none=>exact absurd rfl h
 |some p=>exact ⟨hP,rfl⟩
theorem Ec.listed{n:Nat}(S:Nat→C.On)(si: ∀i j,i<j→j<n→S i≠S j)(s0: ∀i,i<n→S i≠C.ab.ze): ∃L:List (α×α),L.length=n∧L.Pairwise (·≠ ·)∧∀q,q∈L→∃i,i<n∧∃hq:C.on q,S i=⟨some q,hq⟩:=by
 refine ⟨(List.range n).map fun i=>C.xy (S i).1,by simp, ?_,fun q hq=> ?_⟩
 ·rw[List.pairwise_map]
  refine List.Pairwise.imp_of_mem (fun {i j} hi hj hij=> ?_) List.pairwise_lt_range
  intro e
  have hj':=List.mem_range.1 hj
  obtain ⟨_,e1⟩:=Ec.On.is (s0 i (by omega))
  obtain ⟨_,e2⟩:=Ec.On.is (s0 j hj')
  refine si i j hij hj' ?_
  rw[e1,e2]
  exact Subtype.ext (congrArg some e)
 ·obtain ⟨i,hi,rfl⟩:=List.mem_map.1 hq
  have hi':=List.mem_range.1 hi
  obtain ⟨h1,h2⟩:=Ec.On.is (s0 i hi')
  exact ⟨i,hi',h1,h2⟩
theorem Ec.all_same{f g:C.On→C.On}(hf: ∀a b,f (C.ab.ad a b)=C.ab.ad (f a) (f b))(hg: ∀a b,g (C.ab.ad a b)=C.ab.ad (g a) (g b))
 {J:α→α→α×α×α} {m:Nat} (hJ:C.DJ m J) (hV: ∀x y (h:C.on (x,y)),C.V (J x y) (g ⟨some (x,y),h⟩).1)
 {px py:α→α→α} {d:Nat} (hx:C.DW d px) (hy:C.DW d py) (hp: ∀x y (h:C.on (x,y)),(f ⟨some (x,y),h⟩).1=some (px x y,py x y))
 {n:Nat} {T:Nat→C.On} (ti: ∀i j,i<j→j<n→T i≠T j) (t0: ∀i,i<n→T i≠C.ab.ze) (t2: ∀i,i<n→C.ab.ng (T i)≠T i) (ts: ∀i,i<n→f (T i)=g (T i)) (hn:2*(4*m+d+1)≤n)
 {x0 y0:α} (h0:C.on (x0,y0)) (n1:(J x0 y0).2.2≠C.R.zero) (n2:(J x0 (C.R.neg y0)).2.2≠C.R.zero) (a:C.On):f a=g a:=by
 let Fx:α→α→α:=fun x y=>C.R.mul (J x y).2.2 (C.sub (J x y).1 (C.R.mul (px x y) (C.R.mul (J x y).2.2 (J x y).2.2)))
 let Fy:α→α→α:=fun x y=>C.R.mul (J x y).2.2 (C.sub (J x y).2.1 (C.R.mul (py x y) (C.R.mul (C.R.mul (J x y).2.2 (J x y).2.2) (J x y).2.2)))
 have ZZ:=hJ.Z.mul hJ.Z
 have dx:C.DW (4*m+d) Fx:=(hJ.Z.mul ((hJ.X.up (e:=2*m+d) (by omega)).sub ((hx.mul ZZ).up (by omega)))).up (by omega)
 have dy:C.DW (4*m+d) Fy:=(hJ.Z.mul ((hJ.Y.up (e:=3*m+d) (by omega)).sub ((hy.mul (ZZ.mul hJ.Z)).up (by omega)))).up (by omega)
 have key: ∀x y (h:C.on (x,y)),f ⟨some (x,y),h⟩=g ⟨some (x,y),h⟩→Fx x y=C.R.zero∧Fy x y=C.R.zero:=fun x y h e=>by
  rcases hV x y h with hz|hj
  ·constructor
   ·show C.R.mul (J x y).2.2 _=_
    rw[hz,C.R.zero_mul]
   ·show C.R.mul (J x y).2.2 _=_
    rw[hz,C.R.zero_mul]
  ·rw[←e,hp x y h]at hj
   have k1:(J x y).1=C.R.mul (px x y) (C.R.mul (J x y).2.2 (J x y).2.2):=hj.2.1
   have k2:(J x y).2.1=C.R.mul (py x y) (C.R.mul (C.R.mul (J x y).2.2 (J x y).2.2) (J x y).2.2):=hj.2.2
   constructor
   ·show C.R.mul _ (C.sub (J x y).1 _)=_
    rw[←k1,C.sub_self,C.R.mul_zero]
   ·show C.R.mul _ (C.sub (J x y).2.1 _)=_
    rw[←k2,C.sub_self,C.R.mul_zero]
 obtain ⟨L,lL,dL,mL⟩:=Ec.listed T ti t0
 have oL: ∀q,q∈L→C.on q:=fun q hq=>(mL q hq).elim fun _ h=>h.2.elim fun hq _=>hq
 have yL: ∀q,q∈L→q.2≠C.R.zero:=fun q hq e=>by
  obtain ⟨i,hi,hon,hT⟩:=mL q hq
  refine t2 i hi ?_
  rw[hT]
  refine Subtype.ext (congrArg some (Prod.ext rfl ?_))
  show C.R.neg q.2=q.2
  rw[e,C.R.neg_zero]
 have zL: ∀q,q∈L→(Fx q.1 q.2=C.R.zero∧Fy q.1 q.2=C.R.zero)∧(Fx q.1 (C.R.neg q.2)=C.R.zero∧Fy q.1 (C.R.neg q.2)=C.R.zero):=fun q hq=>by
  obtain ⟨i,hi,hon,hT⟩:=mL q hq
  have e:=ts i hi
  have e':f (C.ab.ng (T i))=g (C.ab.ng (T i)):=by rw[C.ab.h_ng C.ab hf,C.ab.h_ng C.ab hg,e]
  rw[hT]at e e'
  exact ⟨key q.1 q.2 hon e,key q.1 (C.R.neg q.2) (C.ng_on hon) e'⟩
 have zx: ∀x y,C.on (x,y)→Fx x y=C.R.zero:=fun x y h=>dx.all (by omega) dL oL yL (fun q hq=>⟨(zL q hq).1.1,(zL q hq).2.1⟩) h
 have zy: ∀x y,C.on (x,y)→Fy x y=C.R.zero:=fun x y h=>dy.all (by omega) dL oL yL (fun q hq=>⟨(zL q hq).1.2,(zL q hq).2.2⟩) h
 have gen: ∀x y (h:C.on (x,y)),(J x y).2.2≠C.R.zero→f ⟨some (x,y),h⟩=g ⟨some (x,y),h⟩:=fun x y h hz=>by
  refine Subtype.ext ?_
  rw[hp x y h]
  exact (Ei C ((hV x y h).resolve_left hz) hz (C.sub0 ((C.fd.two (zx x y h)).resolve_left hz)) (C.sub0 ((C.fd.two (zy x y h)).resolve_left hz))).symm
 by_cases hex: ∃i,i<n∧C.ab.ad a (T i)=C.ab.ze
 ·obtain ⟨i,hi,e⟩:=hex
  rw[C.ab.comm]at e
  rw[C.ab.ng_of e,C.ab.h_ng C.ab hf,C.ab.h_ng C.ab hg,ts i hi]
 have s0: ∀i,i<n→C.ab.ad a (T i)≠C.ab.ze:=fun i hi e=>hex ⟨i,hi,e⟩
 have si: ∀i j,i<j→j<n→C.ab.ad a (T i)≠C.ab.ad a (T j):=fun i j hij hj e=>ti i j hij hj (C.ab.can e)
 obtain ⟨L',lL',dL',mL'⟩:=Ec.listed (fun i=>C.ab.ad a (T i)) si s0
 by_cases hez: ∃q,q∈L'∧(J q.1 q.2).2.2≠C.R.zero
 ·obtain ⟨q,hq,hz⟩:=hez
  obtain ⟨i,hi,hon,hT⟩:=mL' q hq
  have e:=gen q.1 q.2 hon hz
  have hT:C.ab.ad a (T i)=⟨some (q.1,q.2),hon⟩:=hT
  rw[←hT,hf,hg,ts i hi,C.ab.comm,C.ab.comm (g a)]at e
  exact C.ab.can e
 ·exfalso
  obtain ⟨N,lN,hN⟩:=hJ.Z.norm
  have hz:=C.rootsL (2*m+1) N L' lN (by omega) dL' (fun q hq=>(mL' q hq).elim fun _ h=>h.2.elim fun hq _=>hq) (fun q hq=>by
   obtain ⟨i,hi,hon,hT⟩:=mL' q hq
   rw[hN q.1 q.2 hon]
   have e:(J q.1 q.2).2.2=C.R.zero:=Classical.byContradiction fun h=>hez ⟨q,hq,h⟩
   rw[e,C.R.zero_mul]) x0
  rw[hN x0 y0 h0]at hz
  exact (C.fd.two hz).elim n1 n2
end
end
section
def g2:W2:=pw2 XI th
theorem Ge(a:Zp):a+0=a:=by grind
theorem rh(x:W2): ∀n,nm2 (pw2 x n)=nm2 x^n
 |0=>by
  show nm2 on2=_
  rw[p0,nm2,on2]
  show (1:Zp)*1+0*0=1
  rw[nw,fW];exact Ge 1
 |n+1=>by rw[mu,ef,rh x n,ps]
theorem G6(x:W2):cj2 (cj2 x)=x:=aW rfl (te _)
theorem BO(c g:W2):ml2 (cj2 (ml2 (cj2 c) g)) g=ml2 c (nm2 g,0):=by
 rw[eK,G6,show ml2 (ml2 c (cj2 g)) g=ml2 c (ml2 (cj2 g) g)from R2.mul_assoc _ _ _,show ml2 (cj2 g) g=ml2 g (cj2 g)from R2.mul_comm _ _,HJ]
end
section
theorem JO(a:Zp):a-0=a:=by grind
theorem Jo(a:Zp):0-a= -a:=by grind
theorem IE(a:Zp):0+a=a:=by grind
theorem A8{a b:Zp}(h:a+b=0): -a=b:=by grind
theorem Kr:pw2 XI 2=(0,zp 2):=by decide+kernel
theorem yN(a b:Zp):ml2 (a,0) (0,b)=(0,a*b):=aW (by simp only[ml2];rw[fW,n0,JO]) (by simp only[ml2];rw[fW,Ge])
theorem vJ(a b:Zp):ml2 (0,a) (0,b)=(-(a*b),0):=aW (by simp only[ml2];rw[fW,Jo]) (by simp only[ml2];rw[n0,fW,Ge])
theorem im_4(c:Zp):pw2 (0,c) 4=(c^4,0):=by
 show ml2 (ml2 (ml2 (ml2 on2 (0,c)) (0,c)) (0,c)) (0,c)=_
 rw[show ml2 on2 (0,c)=(0,c)from R2.one_mul _,vJ,yN,vJ]
 exact aW (by grind) rfl
theorem im_3(c:Zp):pw2 (0,c) 3=(0,-(c^3)):=by
 show ml2 (ml2 (ml2 on2 (0,c)) (0,c)) (0,c)=_
 rw[show ml2 on2 (0,c)=(0,c)from R2.one_mul _,vJ,yN]
 exact aW rfl (by grind)
theorem CZ(c:Zp): ∀s,pw2 (0,c) (4*s)=(c^(4*s),0)
 |0=>by show on2=_;rw[Nat.mul_zero,p0];rfl
 |s+1=>by rw[Nat.mul_succ,oc,CZ c s,im_4,ju,kv]
theorem Ly(c:Zp)(s:Nat):pw2 (0,c) (4*s+3)=(0,-(c^(4*s+3))):=by
 rw[oc,CZ,im_3,yN,kv]
 exact aW rfl (by grind)
theorem wY(a b c:W2):ml2 (ml2 a b) c=ml2 a (ml2 b c):=R2.mul_assoc a b c
end
section
/-! ### The powers of p -/
theorem fP(x y:W12):cC (K12.mul x y)=K12.mul (cC x) (cC y):=by
 rw[←ez,←ez,←ez,K12.mul_pw]
theorem oT(x y:W12):cC (K12.add x y)=K12.add (cC x) (cC y):=by
 rw[←ez,←ez,←ez,fM]
def lP(x:W12):Nat→W12
 |0=>x
 |n+1=>cC (lP x n)
theorem kX(x:W12)(m:Nat): ∀n,lP x (m+n)=lP (lP x m) n
 |0=>rfl
 |n+1=>by rw[←Nat.add_assoc,lP,kX x m n];rfl
def uw(z:Zp)(x:W12):W12:=((ml2 x.1.1 (z^0,0),ml2 x.1.2.1 (z^2,0),ml2 x.1.2.2 (z^4,0)),(ml2 x.2.1 (z^1,0),ml2 x.2.2.1 (z^3,0),ml2 x.2.2.2 (z^5,0)))
theorem jQ(c:W2)(a b:Zp)(k:Nat):ml2 (ml2 c (b^k,0)) (a^k,0)=ml2 c ((a*b)^k,0):=by
 rw[wY,ju]
 have e:b^k*a^k=(a*b)^k:=by
  induction k with
  |zero=>rw[p0,p0,p0];exact nw
  |succ k ih=>rw[ps,ps,ps,←ih];grind
 rw[e]
theorem ug(a b:Zp)(x:W12):uw a (uw b x)=uw (a*b) x:=
 Prod.ext (Prod.ext (jQ _ _ _ _) (Prod.ext (jQ _ _ _ _) (jQ _ _ _ _))) (Prod.ext (jQ _ _ _ _) (Prod.ext (jQ _ _ _ _) (jQ _ _ _ _)))
def ZE:Zp:=nm2 GA
theorem IM(k:Nat):nm2 (pw2 GA k)=ZE^k:=rh GA k
theorem ii(c:W2)(k:Nat):ml2 (cj2 (ml2 (cj2 c) (pw2 GA k))) (pw2 GA k)=ml2 c (ZE^k,0):=by rw[BO,IM]
theorem kU(x:W12):cC (cC x)=uw ZE x:=
 Prod.ext (Prod.ext (ii _ _) (Prod.ext (ii _ _) (ii _ _))) (Prod.ext (ii _ _) (Prod.ext (ii _ _) (ii _ _)))
theorem H5:ZE=zp 2^sx:=by rw[ZE,GA,rh,wN]
theorem K8:sx*3=hf:=by decide+kernel
theorem G1{a:Zp}(h:a*a=1)(h1:a≠1):a= -1:=by
 have e:(a-1)*(a+1)=0:=by grind
 rcases kk e with e|e
 ·exact absurd (by grind) h1
 ·grind
theorem Eu:hf+hf=PP-1:=by decide+kernel
theorem Ce:zp 2^hf= -1:=G1 (by rw[←kv,Eu,fermat ol]) vB
theorem xY:ZE*(ZE*ZE)= -1:=by
 have e:ZE*(ZE*ZE)=ZE^3:=by generalize ZE=a;grind
 rw[e,H5,←xU,K8,Ce]
theorem ut(x:W12):lP x 6=uw (ZE*(ZE*ZE)) x:=by
 show cC (cC (cC (cC (cC (cC x)))))=_
 rw[kU x,kU (uw ZE x),kU,ug ZE ZE x,ug]
def CE(x:W12):W12:=(x.1,K6.neg x.2)
theorem nM(c:W2)(n:Nat):ml2 c ((-1:Zp)^(2*n),0)=c:=by
 have e:(-1:Zp)^(2*n)=1:=by
  induction n with
  |zero=>exact p0 _
  |succ n ih=>rw[Nat.mul_succ,kv,ih];generalize hm:(-1:Zp)=a;have:a*a=1:=by rw[←hm,z_nn,nw]
              grind
 rw[e];exact R2.mul_one c
theorem rS(c:W2)(n:Nat):ml2 c ((-1:Zp)^(2*n+1),0)=ng2 c:=by
 have e:ml2 c ((-1:Zp)^(2*n+1),0)=ml2 (ml2 c ((-1:Zp)^(2*n),0)) (-1,0):=by rw[wY,ju,ps]
 rw[e,nM]
 generalize hm:(-1:Zp)=a
 refine aW ?_ ?_
 ·show c.1*a-c.2*0= -c.1
  rw[fW,JO,←hm];grind
 ·show c.1*0+c.2*a= -c.2
  rw[fW,IE,←hm];grind
theorem ph(x:W12):lP x 6=CE x:=by
 rw[ut,xY]
 exact Prod.ext (Prod.ext (nM _ 0) (Prod.ext (nM _ 1) (nM _ 2))) (Prod.ext (rS _ 0) (Prod.ext (rS _ 1) (rS _ 2)))
theorem Cs(x:W12):CE (CE x)=x:=Prod.ext rfl (K6.neg_neg x.2)
theorem pf(x:W12):lP x 12=x:=by rw[show 12=6+6 from rfl,kX,ph,ph,Cs]
/-! ### The conjugate's laws -/
end
section
/-! ### The sixth root, as numbers -/
def sxh:Nat:=(sx-1) / 2
def CNn:Nat:=151655185184498381465642749684540099398075398968325446656007613510403227271200139370504932015952886146304766135027
theorem uc:2*sxh+1=sx:=by decide+kernel
theorem zk:4*(sxh / 4)+3=sxh:=by decide+kernel
theorem EB(c:Zp):pw2 (0,c) sxh=(0,-(c^sxh)):=by
 have h:=Ly c (sxh / 4)
 rw[zk]at h
 exact h
theorem E8:pm 2 PP (64*6) sxh+CNn=PP:=by decide+kernel
theorem HL: -(zp 2^sxh)=zp CNn:=A8 (by
 rw[wD 2 sxh (64*6) (vA dh (by have:=sx_val;have:=uc;have:=jP;omega)),←eB,E8,lh])
theorem Fb:GA=(-(zp CNn),zp CNn):=by
 have e:pw2 XI sx=ml2 (pw2 (pw2 XI 2) sxh) XI:=by rw[←sk,←uc];rfl
 rw[GA,e,Kr,EB,HL]
 generalize zp CNn=a
 refine aW ?_ ?_
 ·show 0*1-a*1= -a
  rw[qh,qh,Jo]
 ·show 0*1+a*1=a
  rw[qh,qh,IE]
end
section
section
variable {α:Type} (C:Ec α)
def Ec.ln(a:α×α)(s:α)(p:α×α):α:=C.sub (C.sub p.2 a.2) (C.R.mul s (C.sub p.1 a.1))
theorem Ec.ln_same{a b p:α×α}{s:α}(h:C.Sl a b s):C.ln a s p=C.ln b s p:=
 Rg.lc (R:=C.R) (zq C.R [a.1,a.2,b.1,b.2,s,p.1,p.2,C.b] (ta (ta (ta j6 (tn j1)) (tn (tm j4 (ta j5 (tn j0))))) (tm to1 (ta j1 (tn j3)))) (ta (ta (ta j6 (tn j3)) (tn (tm j4 (ta j5 (tn j2))))) (tm to1 (tm j4 (ta j0 (tn j2)))))) (lcm h.1)
theorem Ec.ln_ng(a p:α×α)(s:α):C.ln (C.ng a) (C.R.neg s) p=C.R.neg (C.ln a s (C.ng p)):=
 zq C.R [a.1,a.2,s,p.1,p.2] (ta (ta j4 (tn (tn j1))) (tn (tm (tn j2) (ta j3 (tn j0))))) (tn (ta (ta (tn j4) (tn j1)) (tn (tm j2 (ta j3 (tn j0))))))
theorem Ec.ln_th{a b p:α×α}{s:α}(h:C.Sl a b s):C.ln (C.ng (C.th a b s)) s p=C.ln a s p:=(C.ln_same (C.sl_th h)).symm.trans (C.ln_same h).symm
theorem Ec.ln_norm{a b p:α×α}{s:α}(ha:C.on a)(hp:C.on p)(h:C.Sl a b s):C.R.mul (C.ln a s p) (C.ln a s (C.ng p))=C.R.neg (C.R.mul (C.sub p.1 a.1) (C.R.mul (C.sub p.1 b.1) (C.sub p.1 (C.x3 a b s)))):=
 Rg.lc (R:=C.R) (zq C.R [a.1,a.2,b.1,b.2,s,p.1,p.2,C.b] (ta (tm (ta (ta j6 (tn j1)) (tn (tm j4 (ta j5 (tn j0))))) (ta (ta (tn j6) (tn j1)) (tn (tm j4 (ta j5 (tn j0)))))) (ta (ta (ta (tm (tn to1) (ta (tm j5 (tm j5 j5)) j7)) (tm to1 (ta (tm j0 (tm j0 j0)) j7))) (tm (tm (ta j5 (tn j0)) (tn j4)) (ta j1 (tn j3)))) (tm (ta j5 (tn j0)) (ta (ta (tm j0 j0) (tm j0 j2)) (tm j2 j2))))) (ta (tn (tm (ta j5 (tn j0)) (tm (ta j5 (tn j2)) (ta j5 (tn (ta (ta (tm j4 j4) (tn j0)) (tn j2))))))) (ta (ta (ta (tm (tn to1) (tm j6 j6)) (tm to1 (tm j1 j1))) (tm (tm (ta j5 (tn j0)) (tn j4)) (tm j4 (ta j0 (tn j2))))) (tm (ta j5 (tn j0)) (tm j4 (ta j1 j3)))))) (lca (lca (lca (lcm hp) (lcm ha)) (lcm h.1)) (lcm h.2))
def Ec.nn(d:α×α)(s t:α)(p:α×α):α:=C.R.add (C.sub (C.R.mul p.1 p.1) (C.R.mul (C.R.add s t) p.2)) (C.R.add (C.R.mul (C.R.add d.1 (C.R.mul s t)) p.1) (C.R.add (C.R.mul d.1 (C.sub d.1 (C.R.mul s t))) (C.R.mul (C.sub s t) d.2)))
theorem Ec.ln_two{d p:α×α}{s t:α}(hd:C.on d)(hp:C.on p):C.R.mul (C.ln (C.ng d) s p) (C.ln d t p)=C.R.mul (C.sub p.1 d.1) (C.nn d s t p):=
 Rg.lc (R:=C.R) (zq C.R [d.1,d.2,s,t,p.1,p.2,C.b] (ta (tm (ta (ta j5 (tn (tn j1))) (tn (tm j2 (ta j4 (tn j0))))) (ta (ta j5 (tn j1)) (tn (tm j3 (ta j4 (tn j0)))))) (ta (tm to1 (ta (tm j4 (tm j4 j4)) j6)) (tm (tn to1) (ta (tm j0 (tm j0 j0)) j6)))) (ta (tm (ta j4 (tn j0)) (ta (ta (tm j4 j4) (tn (tm (ta j2 j3) j5))) (ta (tm (ta j0 (tm j2 j3)) j4) (ta (tm j0 (ta j0 (tn (tm j2 j3)))) (tm (ta j2 (tn j3)) j1))))) (ta (tm to1 (tm j5 j5)) (tm (tn to1) (tm j1 j1))))) (lca (lcm hp) (lcm hd))
theorem Ec.nn_at{d q:α×α}{s t:α}(h:C.Sl q (C.ng d) s):C.nn d s t q=C.R.zero:=
 Rg.lc (R:=C.R) (zq C.R [d.1,d.2,s,t,q.1,q.2,C.b] (ta (ta (ta (tm j4 j4) (tn (tm (ta j2 j3) j5))) (ta (tm (ta j0 (tm j2 j3)) j4) (ta (tm j0 (ta j0 (tn (tm j2 j3)))) (tm (ta j2 (tn j3)) j1)))) (ta (tm (tn to1) (ta (ta (tm j4 j4) (tm j4 j0)) (tm j0 j0))) (tm j3 (ta j5 (tn (tn j1)))))) (ta tz0 (ta (tm (tn to1) (tm j2 (ta j5 (tn j1)))) (tm j3 (tm j2 (ta j4 (tn j0))))))) (lca (lcm h.2) (lcm h.1))
theorem Ec.nn_eq{d e p q:α×α}{s t s2 t2:α}(h1:C.R.add s t=C.R.add s2 t2)(h2:C.R.add d.1 (C.R.mul s t)=C.R.add e.1 (C.R.mul s2 t2))(h3:C.nn d s t q=C.R.zero)(h4:C.nn e s2 t2 q=C.R.zero):C.nn d s t p=C.nn e s2 t2 p:=
 Rg.lc (R:=C.R) (zq C.R [d.1,d.2,e.1,e.2,s,t,s2,t2,p.1,p.2,q.1,q.2] (ta (ta (ta (tm j8 j8) (tn (tm (ta j4 j5) j9))) (ta (tm (ta j0 (tm j4 j5)) j8) (ta (tm j0 (ta j0 (tn (tm j4 j5)))) (tm (ta j4 (tn j5)) j1)))) (ta (ta (ta (tm to1 tz0) (tm (tn to1) tz0)) (tm (ta j11 (tn j9)) (ta j6 j7))) (tm (ta j8 (tn j10)) (ta j2 (tm j6 j7))))) (ta (ta (ta (tm j8 j8) (tn (tm (ta j6 j7) j9))) (ta (tm (ta j2 (tm j6 j7)) j8) (ta (tm j2 (ta j2 (tn (tm j6 j7)))) (tm (ta j6 (tn j7)) j3)))) (ta (ta (ta (tm to1 (ta (ta (tm j10 j10) (tn (tm (ta j4 j5) j11))) (ta (tm (ta j0 (tm j4 j5)) j10) (ta (tm j0 (ta j0 (tn (tm j4 j5)))) (tm (ta j4 (tn j5)) j1))))) (tm (tn to1) (ta (ta (tm j10 j10) (tn (tm (ta j6 j7) j11))) (ta (tm (ta j2 (tm j6 j7)) j10) (ta (tm j2 (ta j2 (tn (tm j6 j7)))) (tm (ta j6 (tn j7)) j3)))))) (tm (ta j11 (tn j9)) (ta j4 j5))) (tm (ta j8 (tn j10)) (ta j0 (tm j4 j5)))))) (lca (lca (lca (lcm h3) (lcm h4)) (lcm h1)) (lcm h2))
structure Ec.R3(x y z s t:α):Prop where
 e1:C.R.add (C.R.add x y) z=C.R.mul s s
 e2:C.R.add (C.R.mul x y) (C.R.mul (C.R.add x y) z)=C.R.neg (C.R.add (C.R.mul s t) (C.R.mul s t))
 e3:C.R.mul (C.R.mul x y) z=C.sub (C.R.mul t t) C.b
theorem Ec.r3{a b:α×α}{s:α}(ha:C.on a)(h:C.Sl a b s):C.R3 a.1 b.1 (C.x3 a b s) s (C.sub a.2 (C.R.mul s a.1)):=
 ⟨zq C.R [a.1,a.2,b.1,b.2,s,C.b] (ta (ta j0 j2) (ta (ta (tm j4 j4) (tn j0)) (tn j2))) (tm j4 j4),Rg.lc (R:=C.R) (zq C.R [a.1,a.2,b.1,b.2,s,C.b] (ta (ta (tm j0 j2) (tm (ta j0 j2) (ta (ta (tm j4 j4) (tn j0)) (tn j2)))) (ta (tm to1 (ta (ta (tm j0 j0) (tm j0 j2)) (tm j2 j2))) (tm (tn j4) (ta j1 (tn j3))))) (ta (tn (ta (tm j4 (ta j1 (tn (tm j4 j0)))) (tm j4 (ta j1 (tn (tm j4 j0)))))) (ta (tm to1 (tm j4 (ta j1 j3))) (tm (tn j4) (tm j4 (ta j0 (tn j2))))))) (lca (lcm h.2) (lcm h.1)),Rg.lc (R:=C.R) (zq C.R [a.1,a.2,b.1,b.2,s,C.b] (ta (tm (tm j0 j2) (ta (ta (tm j4 j4) (tn j0)) (tn j2))) (ta (ta (tm j0 (ta (ta (tm j0 j0) (tm j0 j2)) (tm j2 j2))) (tm (tn (tm j0 j4)) (ta j1 (tn j3)))) (tm (tn to1) (ta (tm j0 (tm j0 j0)) j5)))) (ta (ta (tm (ta j1 (tn (tm j4 j0))) (ta j1 (tn (tm j4 j0)))) (tn j5)) (ta (ta (tm j0 (tm j4 (ta j1 j3))) (tm (tn (tm j0 j4)) (tm j4 (ta j0 (tn j2))))) (tm (tn to1) (tm j1 j1))))) (lca (lca (lcm h.2) (lcm h.1)) (lcm ha))⟩
theorem Ec.nn_ways{A B D p:α×α}{a c g t:α}(ha:C.Sl A B a)(hc:C.Sl D B c)(hg:C.Sl (C.th A B a) D g)(ht:C.Sl (C.th D B c) A t)(ho: ¬C.opp (C.th A B a) D)(ho': ¬C.opp (C.th D B c) A)(hn:a≠c):C.nn (C.th A B a) a g p=C.nn (C.th D B c) c t p:=by
 have h1:=C.assoc_g ha hc hg ho
 have h2:=C.assoc_g hc ha ht ho'
 have et:=C.assoc_t hn h1 h2
 subst et
 refine C.nn_eq (q:=B) ?_ ?_ (C.nn_at (C.sl_th ha)) (C.nn_at (C.sl_th hc))
 ·exact zq C.R [A.1,A.2,B.1,B.2,D.1,D.2,a,c,g] (ta j6 j8) (ta j7 (ta (ta j8 j6) (tn j7)))
 ·exact Rg.lc (R:=C.R) (zq C.R [A.1,A.2,B.1,B.2,D.1,D.2,a,c,g] (ta (ta (ta (ta (tm j6 j6) (tn j0)) (tn j2)) (tm j6 j8)) (tm to1 tz0)) (ta (ta (ta (ta (tm j7 j7) (tn j4)) (tn j2)) (tm j7 (ta (ta j8 j6) (tn j7)))) (tm to1 (ta (tm (ta j6 (tn j7)) j8) (tn (ta (ta (ta (tm j6 j7) (tn j2)) (tn j4)) (tn (ta (ta (tm j6 j6) (tn j0)) (tn j2))))))))) (lcm h1)
end
end
section
section
variable {α:Type}
theorem Rg.turn(R:Rg α){x y z u v w z' w':α}(h:R.mul (R.mul x y) z=R.mul (R.mul u v) w)(hz:R.mul z' z=R.one)(hw:R.mul w' w=R.one):R.mul (R.mul x y) w'=R.mul (R.mul u v) z':=
 Rg.lc (R:=R) (zq R [x,y,z,u,v,w,z',w'] (ta (tm (tm j0 j1) j7) (ta (ta (tm (tm j7 j6) (tm (tm j3 j4) j5)) (tm (tn (tm (tm j0 j1) j7)) to1)) (tm (tm (tm j3 j4) j6) to1))) (ta (tm (tm j3 j4) j6) (ta (ta (tm (tm j7 j6) (tm (tm j0 j1) j2)) (tm (tn (tm (tm j0 j1) j7)) (tm j6 j2))) (tm (tm (tm j3 j4) j6) (tm j7 j5))))) (lca (lca (lcm h) (lcm hz)) (lcm hw))
theorem Rg.four_w(R:Rg α){p q r s t u v w x:α}(h1:R.mul q r=R.mul s t)(h2:R.mul v r=R.mul w x)(h3:R.mul p q=R.mul u v):R.mul (R.mul p s) t=R.mul (R.mul u w) x:=
 Rg.lc (R:=R) (zq R [p,q,r,s,t,u,v,w,x] (ta (tm (tm j0 j3) j4) (ta (ta (tm (tn j0) (tm j3 j4)) (tm j5 (tm j7 j8))) (tm j2 (tm j5 j6)))) (ta (tm (tm j5 j7) j8) (ta (ta (tm (tn j0) (tm j1 j2)) (tm j5 (tm j6 j2))) (tm j2 (tm j0 j1))))) (lca (lca (lcm h1) (lcm h2)) (lcm h3))
end
section
variable {α:Type} [DecidableEq α] (C:Ec α)
def Ec.gl:Pt α→Pt α→Pt α→α
 |some a,some b,some p=>if a.1=b.1∧C.R.add a.2 b.2=C.R.zero then C.R.one else C.ln a (C.slope a b) p
 |_,_,_=>C.R.one
theorem Ec.gl_l(B P:Pt α):C.gl none B P=C.R.one:=rfl
theorem Ec.gl_m(A P:Pt α):C.gl A none P=C.R.one:=by cases A<;>rfl
theorem Ec.gl_r(A B:Pt α):C.gl A B none=C.R.one:=by
 cases A with
 |none=>rfl
 |some a=>cases B<;>rfl
theorem Ec.gl_opp{a b:α×α}(h:C.opp a b)(P:Pt α):C.gl (some a) (some b) P=C.R.one:=by
 cases P with
 |none=>rfl
 |some p=>exact if_pos h
theorem Ec.gl_sl{a b:α×α}{s:α}(ha:C.on a)(hb:C.on b)(ho: ¬C.opp a b)(hs:C.Sl a b s)(p:α×α):C.gl (some a) (some b) (some p)=C.ln a s p:=by
 rw[←C.sl_one (C.sl_slope ha hb ho) hs ho]
 exact if_neg ho
theorem Ec.gl_comm{A B:Pt α}(hA:C.onP A)(hB:C.onP B)(P:Pt α):C.gl A B P=C.gl B A P:=by
 cases A with
 |none=>rw[C.gl_m];rfl
 |some a=>
  cases B with
  |none=>rfl
  |some b=>
   cases P with
   |none=>rfl
   |some p=>
    by_cases ho:C.opp a b
    ·rw[C.gl_opp ho,C.gl_opp (C.opp_comm ho)]
    ·have hs:=C.sl_slope hA hB ho
     rw[C.gl_sl hA hB ho hs,C.gl_sl hB hA (fun h=>ho (C.opp_comm h)) (C.sl_comm hs),C.ln_same hs]
structure Ec.Fz(F:α→α)(SA SP:Pt α→Prop):Prop where
 mul: ∀a b,F (C.R.mul a b)=C.R.mul (F a) (F b)
 one:F C.R.one=C.R.one
 neg: ∀a,F (C.R.neg a)=F a
 aon: ∀{A},SA A→C.onP A
 aad: ∀{A B},SA A→SA B→SA (C.ad A B)
 ane: ∀{A},SA A→SA (C.ne A)
 pon: ∀{P},SP P→C.onP P
 pad: ∀{P Q},SP P→SP Q→SP (C.ad P Q)
 pne: ∀{P},SP P→SP (C.ne P)
 van: ∀{a p},SA (some a)→SP (some p)→F (C.sub p.1 a.1)=C.R.one
variable {C} {F:α→α} {SA SP:Pt α→Prop}
theorem Ec.Fz.swap(Z:C.Fz F SA SP):C.Fz F SP SA where
 mul:=Z.mul
 one:=Z.one
 neg:=Z.neg
 aon:=Z.pon
 aad:=Z.pad
 ane:=Z.pne
 pon:=Z.aon
 pad:=Z.aad
 pne:=Z.ane
 van:=fun {p a} hp ha=>by
  have e:C.sub a.1 p.1=C.R.neg (C.sub p.1 a.1):=zq C.R [a.1,p.1] (ta j0 (tn j1)) (tn (ta j1 (tn j0)))
  rw[e,Z.neg,Z.van ha hp]
theorem Ec.Fz.inv(Z:C.Fz F SA SP){A B P:Pt α}(hA:SA A)(hB:SA B)(hP:SP P):C.R.mul (F (C.gl A B P)) (F (C.gl A B (C.ne P)))=C.R.one:=by
 cases A with
 |none=>rw[C.gl_l,C.gl_l,Z.one,C.R.mul_one]
 |some a=>
  cases B with
  |none=>rw[C.gl_m,C.gl_m,Z.one,C.R.mul_one]
  |some b=>
   cases P with
   |none=>rw[show C.ne none=none from rfl,C.gl_r,Z.one,C.R.mul_one]
   |some p=>
    by_cases ho:C.opp a b
    ·rw[C.gl_opp ho,C.gl_opp ho,Z.one,C.R.mul_one]
    ·have hs:=C.sl_slope (Z.aon hA) (Z.aon hB) ho
     have h3:=Z.aad hA hB
     rw[C.ad_sl (Z.aon hA) (Z.aon hB) ho hs]at h3
     rw[show C.ne (some p)=some (C.ng p)from rfl,C.gl_sl (Z.aon hA) (Z.aon hB) ho hs,C.gl_sl (Z.aon hA) (Z.aon hB) ho hs,←Z.mul,C.ln_norm (Z.aon hA) (Z.pon hP) hs,Z.neg,Z.mul,Z.mul,Z.van hA hP,Z.van hB hP,show F (C.sub p.1 (C.x3 a b (C.slope a b)))=C.R.one from Z.van h3 hP,C.R.mul_one,C.R.mul_one]
theorem Ec.Fz.opp(Z:C.Fz F SA SP){A B:Pt α}(hA:SA A)(hB:SA B)(P:Pt α):F (C.gl (C.ne A) (C.ne B) P)=F (C.gl A B (C.ne P)):=by
 cases A with
 |none=>rfl
 |some a=>
  cases B with
  |none=>rfl
  |some b=>
   cases P with
   |none=>rfl
   |some p=>
    have hiff:C.opp (C.ng a) (C.ng b)→C.opp a b:=fun h=>⟨h.1,by
     have:=h.2
     rw[show (C.ng a).2=C.R.neg a.2 from rfl,show (C.ng b).2=C.R.neg b.2 from rfl,←C.R.neg_add]at this
     rw[←C.R.neg_neg (C.R.add a.2 b.2),this,C.R.neg_zero]⟩
    by_cases ho:C.opp a b
    ·have ho':C.opp (C.ng a) (C.ng b):=⟨ho.1,by
      rw[show (C.ng a).2=C.R.neg a.2 from rfl,show (C.ng b).2=C.R.neg b.2 from rfl,←C.R.neg_add,ho.2,C.R.neg_zero]⟩
     rw[C.gl_opp ho]
     exact congrArg F (C.gl_opp ho' _)
    ·have hs:=C.sl_slope (Z.aon hA) (Z.aon hB) ho
     show F (C.gl (some (C.ng a)) (some (C.ng b)) (some p))=F (C.gl (some a) (some b) (some (C.ng p)))
     rw[C.gl_sl (C.ng_on (Z.aon hA)) (C.ng_on (Z.aon hB)) (fun h=>ho (hiff h)) (C.sl_ng hs),C.gl_sl (Z.aon hA) (Z.aon hB) ho hs,C.ln_ng,Z.neg]
theorem Ec.Fz.third(Z:C.Fz F SA SP){A B:Pt α}(hA:SA A)(hB:SA B)(P:Pt α):C.gl A (C.ne (C.ad A B)) P=C.gl A B P:=by
 cases A with
 |none=>rfl
 |some a=>
  cases B with
  |none=>rw[C.ad_nr,C.gl_m];exact C.gl_opp (C.opp_ng a) P
  |some b=>
   by_cases ho:C.opp a b
   ·rw[C.ad_opp ho,C.gl_opp ho];exact C.gl_m _ _
   ·cases P with
    |none=>rw[C.gl_r,C.gl_r]
    |some p=>
     have hs:=C.sl_slope (Z.aon hA) (Z.aon hB) ho
     have h3:=Z.aad hA hB
     have u:=C.undo (Z.aon hA) (Z.aon hB)
     have k:=C.ne_ad (C.ne_on (Z.aon hA)) (Z.aon h3)
     rw[u,C.ne_ne]at k
     rw[C.ad_sl (Z.aon hA) (Z.aon hB) ho hs]at h3 k⊢
     have s3:C.Sl a (C.ng (C.th a b (C.slope a b))) (C.slope a b):=by
      have q:=C.sl_th (C.sl_comm hs)
      rw[←C.th_comm hs]at q
      exact q
     have o3: ¬C.opp a (C.ng (C.th a b (C.slope a b))):=fun h=>by
      have k2:C.ne (some b)=C.ad (some a) (some (C.ng (C.th a b (C.slope a b)))):=k
      rw[C.ad_opp h]at k2
      cases k2
     exact (C.gl_sl (Z.aon hA) (C.ng_on (Z.aon h3)) o3 s3 p).trans (C.gl_sl (Z.aon hA) (Z.aon hB) ho hs p).symm
theorem Ec.Fz.co_opp(Z:C.Fz F SA SP){A B D P:Pt α}(hB:SA B)(hD:SA D)(hP:SP P)(e:A=C.ne B):C.R.mul (F (C.gl D B P)) (F (C.gl (C.ad D B) A P))=C.R.one:=by
 subst e
 have hnB:=Z.ane hB
 have hnD:=Z.ane hD
 have hDB:=Z.aad hD hB
 have t:=Z.third hnB hnD P
 have e2:C.ne (C.ad (C.ne B) (C.ne D))=C.ad D B:=by rw[←C.ne_ad (Z.aon hB) (Z.aon hD),C.ne_ne,C.ad_comm (Z.aon hB) (Z.aon hD)]
 rw[e2]at t
 rw[C.gl_comm (Z.aon hDB) (Z.aon hnB),t,Z.opp hB hD,C.gl_comm (Z.aon hD) (Z.aon hB)]
 exact Z.inv hB hD hP
theorem Ec.Fz.co_fin(Z:C.Fz F SA SP){a b d p:α×α}(hA:SA (some a))(hB:SA (some b))(hD:SA (some d))(hP:SP (some p))(o1: ¬C.opp a b)(o2: ¬C.opp d b):C.R.mul (F (C.gl (some a) (some b) (some p))) (F (C.gl (C.ad (some a) (some b)) (some d) (some p)))=C.R.mul (F (C.gl (some d) (some b) (some p))) (F (C.gl (C.ad (some d) (some b)) (some a) (some p))):=by
 have oa:=Z.aon hA
 have ob:=Z.aon hB
 have od:=Z.aon hD
 have hs:=C.sl_slope oa ob o1
 have hc:=C.sl_slope od ob o2
 have h1:=Z.aad hA hB
 have h2:=Z.aad hD hB
 have e1:=C.ad_sl oa ob o1 hs
 have e2:=C.ad_sl od ob o2 hc
 rw[e1]at h1
 rw[e2]at h2
 have asc:C.ad (C.ad (some a) (some b)) (some d)=C.ad (C.ad (some d) (some b)) (some a):=by
  rw[C.ad_assoc oa ob od,C.ad_comm ob od,C.ad_comm oa (C.ad_on od ob)]
 by_cases o3:C.opp (C.th a b (C.slope a b)) d
 ·have o4:C.opp (C.th d b (C.slope d b)) a:=by
   rw[e1,e2,C.ad_opp o3]at asc
   by_cases h:C.opp (C.th d b (C.slope d b)) a
   ·exact h
   ·rw[C.ad_sl (Z.aon h2) oa h (C.sl_slope (Z.aon h2) oa h)]at asc
    cases asc
  rw[e1,e2,C.gl_opp o3,C.gl_opp o4]
  have t:=Z.third hB hA (some p)
  have e3:C.ne (C.ad (some b) (some a))=some d:=by
   rw[C.ad_comm ob oa,e1]
   exact congrArg some (C.opp_eq o3).symm
  rw[e3]at t
  rw[C.gl_comm od ob,t,C.gl_comm ob oa]
 ·have o4: ¬C.opp (C.th d b (C.slope d b)) a:=fun h=>by
   rw[e1,e2,C.ad_opp h,C.ad_sl (Z.aon h1) od o3 (C.sl_slope (Z.aon h1) od o3)]at asc
   cases asc
  by_cases hn:C.slope a b=C.slope d b
  ·have hc':=hc
   rw[←hn]at hc'
   rcases C.line_three hs hc' with h|h
   ·subst h;rfl
   ·exact absurd h o3
  ·have hg:=C.sl_slope (Z.aon h1) od o3
   have ht:=C.sl_slope (Z.aon h2) oa o4
   rw[e1,e2,C.gl_sl oa ob o1 hs,C.gl_sl od ob o2 hc,C.gl_sl (Z.aon h1) od o3 hg,C.gl_sl (Z.aon h2) oa o4 ht,←Z.mul,←Z.mul,←C.ln_th hs,←C.ln_th hc,C.ln_two (Z.aon h1) (Z.pon hP),C.ln_two (Z.aon h2) (Z.pon hP),Z.mul,Z.mul,Z.van h1 hP,Z.van h2 hP,C.nn_ways hs hc hg ht o3 o4 hn]
theorem Ec.Fz.co(Z:C.Fz F SA SP){A B D P:Pt α}(hA:SA A)(hB:SA B)(hD:SA D)(hP:SP P):C.R.mul (F (C.gl A B P)) (F (C.gl (C.ad A B) D P))=C.R.mul (F (C.gl D B P)) (F (C.gl (C.ad D B) A P)):=by
 cases A with
 |none=>rw[C.gl_m,C.gl_l,C.ad_nl,C.gl_comm (Z.aon hB) (Z.aon hD),C.R.mul_comm]
 |some a=>
  cases B with
  |none=>rw[C.gl_m,C.gl_m,C.ad_nr,C.ad_nr,C.gl_comm (Z.aon hA) (Z.aon hD)]
  |some b=>
   cases D with
   |none=>rw[C.gl_m,C.gl_l,C.ad_nl,C.gl_comm (Z.aon hA) (Z.aon hB),C.R.mul_comm]
   |some d=>
    cases P with
    |none=>rw[C.gl_r,C.gl_r,C.gl_r,C.gl_r]
    |some p=>
     by_cases o1:C.opp a b
     ·have ea:(some a:Pt α)=C.ne (some b):=congrArg some (C.opp_eq (C.opp_comm o1))
      have k:=Z.co_opp hB hD hP ea
      rw[k,C.gl_opp o1,C.ad_opp o1,C.gl_l,Z.one,C.R.mul_one]
     ·by_cases o2:C.opp d b
      ·have ed:(some d:Pt α)=C.ne (some b):=congrArg some (C.opp_eq (C.opp_comm o2))
       have k:=Z.co_opp hB hA hP ed
       rw[k,C.gl_opp o2,C.ad_opp o2,C.gl_l,Z.one,C.R.mul_one]
      ·exact Z.co_fin hA hB hD hP o1 o2
theorem Ec.Fz.quad(Z:C.Fz F SA SP){A B K D P:Pt α}(hA:SA A)(hB:SA B)(hK:SA K)(hD:SA D)(hP:SP P):C.R.mul (C.R.mul (F (C.gl A K P)) (F (C.gl B D P))) (F (C.gl (C.ad A K) (C.ad B D) P))=C.R.mul (C.R.mul (F (C.gl A B P)) (F (C.gl K D P))) (F (C.gl (C.ad A B) (C.ad K D) P)):=by
 have oA:=Z.aon hA
 have oB:=Z.aon hB
 have oK:=Z.aon hK
 have oD:=Z.aon hD
 have hAK:=Z.aad hA hK
 have hAB:=Z.aad hA hB
 have hBD:=Z.aad hB hD
 have hKD:=Z.aad hK hD
 have c1:=Z.co hAK hB hD hP
 have c2:=Z.co hAB hK hD hP
 have c3:=Z.co hA hK hB hP
 have c4:=Z.co hA hB hK hP
 have e1:C.ad (C.ad A K) B=C.ad (C.ad A B) K:=by rw[C.ad_assoc oA oK oB,C.ad_comm oK oB,C.ad_assoc oA oB oK]
 rw[C.ad_comm oD oB,C.gl_comm oD oB,C.gl_comm (Z.aon hBD) (Z.aon hAK),e1]at c1
 rw[C.ad_comm oD oK,C.gl_comm oD oK,C.gl_comm (Z.aon hKD) (Z.aon hAB)]at c2
 rw[C.gl_comm oK oB,C.ad_comm oK oB]at c4
 exact C.R.four_w c1 c2 (c3.trans c4.symm)
end
section
variable {α:Type} [DecidableEq α] (C:Ec α)
variable {C} {F:α→α} {SA SP:Pt α→Prop}
end
end
section
/-! ### As the reference reckons it -/
section
variable {u p2 p6 n:Nat} (h2: ∀x,cC (cC x)=K12.pw x p2) (h6: ∀x,CE x=K12.pw x p6)
end
theorem sM{n:Nat}(h:n-1+1=n):K12.pw K12.zero n=K12.zero:=by rw[←h];exact K12.zero_pw _
section
variable {e:Nat}
end
/-! ### Upright lines -/
end
section
section
variable {α β:Type} {C:Ec α} {D:Ec β} (T:Hw C D)
theorem Hw.ln(a p:α×α)(s:α):D.ln (T.m a) (D.R.mul T.w (T.f s)) (T.m p)=D.R.mul (D.R.mul T.w (D.R.mul T.w T.w)) (T.f (C.ln a s p)):=by
 unfold Ec.ln
 rw[T.fs,T.fs,T.fm,T.fs]
 exact zq D.R [T.w,T.f a.1,T.f a.2,T.f s,T.f p.1,T.f p.2] (ta (ta (tm (tm j0 (tm j0 j0)) j5) (tn (tm (tm j0 (tm j0 j0)) j2))) (tn (tm (tm j0 j3) (ta (tm (tm j0 j0) j4) (tn (tm (tm j0 j0) j1)))))) (tm (tm j0 (tm j0 j0)) (ta (ta j5 (tn j2)) (tn (tm j3 (ta j4 (tn j1))))))
theorem Hw.gl [DecidableEq α] [DecidableEq β]{A B P:Pt α}(hA:C.onP A)(hB:C.onP B){F:β→β}(hF: ∀a b,F (D.R.mul a b)=D.R.mul (F a) (F b))(hw:F (D.R.mul T.w (D.R.mul T.w T.w))=D.R.one):F (D.gl (T.p A) (T.p B) (T.p P))=F (T.f (C.gl A B P)):=by
 cases A with
 |none=>rw[C.gl_l,T.f1];rfl
 |some a=>
  cases B with
  |none=>rw[C.gl_m,T.f1];rfl
  |some b=>
   cases P with
   |none=>rw[C.gl_r,T.f1];rfl
   |some p=>
    by_cases ho:C.opp a b
    ·rw[C.gl_opp ho,T.f1]
     exact congrArg F (D.gl_opp (T.opp.2 ho) _)
    ·have hs:=C.sl_slope hA hB ho
     rw[C.gl_sl hA hB ho hs]
     refine (congrArg F (D.gl_sl (T.m_on hA) (T.m_on hB) (fun h=>ho (T.opp.1 h)) (T.sl hs) (T.m p))).trans ?_
     rw[T.ln,hF,hw,D.R.one_mul]
theorem Rg.last{α:Type}(R:Rg α){a b k c h k':α}(x:R.mul (R.mul a b) k=R.mul c h)(y:R.mul k' k=R.one)(z:R.mul h k'=R.one):R.mul a b=c:=
 Rg.lc (R:=R) (zq R [a,b,k,c,h,k'] (ta (tm j0 j1) (ta (ta (tm j5 (tm j3 j4)) (tm (tn (tm j0 j1)) to1)) (tm j3 to1))) (ta j3 (ta (ta (tm j5 (tm (tm j0 j1) j2)) (tm (tn (tm j0 j1)) (tm j5 j2))) (tm j3 (tm j4 j5))))) (lca (lca (lcm x) (lcm y)) (lcm z))
end
/-! ### The power of p, as a map of the curve -/
theorem w9(x:W12):cC (K12.neg x)=K12.neg (cC x):=by
 have e:K12.add (cC x) (cC (K12.neg x))=K12.zero:=by
  rw[←oT,K12.add_neg,←ez]
  exact sM (by decide+kernel)
 exact K12.neg_of e
theorem m7:cC K12.zero=K12.zero:=by rw[←ez];exact sM (by decide+kernel)
theorem uN{x:W12}(h:cC x=K12.zero):x=K12.zero:=by
 have e:=pf x
 rw[show 12=1+11 from rfl,kX,show lP x 1=cC x from rfl,h]at e
 rw[←e]
 have k: ∀n,lP K12.zero n=K12.zero:=fun n=>by
  induction n with
  |zero=>rfl
  |succ n ih=>rw[lP,ih,m7]
 exact k 11
theorem p7(c:W2):cC (em c)=em (cj2 c):=by rw[←ez,pL,zE]
theorem H9:ml2 (ml2 (ml2 PW (ml2 PW PW)) (ml2 PW (ml2 PW PW))) (cj2 (zp 4,zp 4))=(zp 4,zp 4):=by decide+kernel
theorem J2:ml2 PW GA=on2:=by rw[Fb];decide+kernel
def TW12:Tw E12 where
 f:=cC
 w:=em PW
 fa:=oT
 fm:=fP
 fn:=w9
 f0:=m7
 fi:=fun _ h=>uN h
 wn:=by decide+kernel
 wb:=by
  show K12.mul (K12.mul (K12.mul (em PW) (K12.mul (em PW) (em PW))) (K12.mul (em PW) (K12.mul (em PW) (em PW)))) (cC (em (zp 4,zp 4)))=em (zp 4,zp 4)
  rw[p7,de,de,de,de,H9]
theorem DF(S:Pt W2):TW12.p (HE.p S)=HE.p (TW2.p S):=by
 cases S with
 |none=>rfl
 |some s=>
  refine congrArg some ?_
  show TW12.m (HE.m s)=HE.m (TW2.m s)
  rw[zv,zv]
  refine Prod.ext ?_ ?_
  ·show K12.mul (K12.mul (em PW) (em PW)) (cC (em s.1))=em (ml2 (ml2 PW PW) (cj2 s.1))
   rw[p7,de,de]
  ·show K12.mul (K12.mul (em PW) (K12.mul (em PW) (em PW))) (cC (em s.2))=em (ml2 (ml2 PW (ml2 PW PW)) (cj2 s.2))
   rw[p7,de,de,de]
theorem WW_1:WW=wk 1:=wk1.symm
theorem Jt:K12.mul (em PW) (cC WW)=WW:=by
 rw[←ez,WW_1,C7,←K12.mul_assoc,de,J2]
 exact K12.one_mul _
theorem zB(a:Zp):cj2 (re2 a)=re2 a:=aW rfl (by show-(0:Zp)=0;exact z_n0')
theorem LG(S:Pt Zp):TW12.p (HB.p S)=HB.p S:=by
 cases S with
 |none=>rfl
 |some q=>
  refine congrArg some ?_
  have h:=Jt
  refine Prod.ext ?_ ?_
  ·show K12.mul (K12.mul (em PW) (em PW)) (cC (K12.mul (K12.mul WW WW) (em (re2 q.1))))=K12.mul (K12.mul WW WW) (em (re2 q.1))
   rw[fP,fP,p7,zB,←K12.mul_assoc,K12.mul_four,h]
  ·show K12.mul (K12.mul (em PW) (K12.mul (em PW) (em PW))) (cC (K12.mul (K12.mul WW (K12.mul WW WW)) (em (re2 q.2))))=K12.mul (K12.mul WW (K12.mul WW WW)) (em (re2 q.2))
   rw[fP,fP,fP,p7,zB,←K12.mul_assoc,K12.mul_four (em PW) (K12.mul (em PW) (em PW)),K12.mul_four (em PW) (em PW) (cC WW) (cC WW),h]
/-! ### The loop's value -/
section
variable {e:Nat} (h6:e % (PP^6-1)=0) (hr:e*ORD % (PP^12-1)=0) (he:e-1+1=e)
end
end
section
/-! ### Sums of so many times two things -/
section
variable {γ:Type} (G:Ab γ)
def Ab.li(a d:γ)(k l:Int):γ:=G.ad (G.zm a k) (G.zm d l)
theorem Ab.li_ad(a d:γ)(k l k' l':Int):G.ad (G.li a d k l) (G.li a d k' l')=G.li a d (k+k') (l+l'):=by
 unfold Ab.li
 rw[G.four,G.zm_add,G.zm_add]
theorem Ab.li_ng(a d:γ)(k l:Int):G.ng (G.li a d k l)=G.li a d (-k) (-l):=by
 unfold Ab.li
 rw[G.ng_ad,G.zm_ng,G.zm_ng]
theorem Ab.li_nm(a d:γ)(k l:Int)(n:Nat):G.nm (G.li a d k l) n=G.li a d (k*n) (l*n):=by
 unfold Ab.li
 rw[G.nm_ad,G.zm_mulN,G.zm_mulN]
theorem Ab.zm_1(a:γ):G.zm a 1=a:=(G.zm_nat a 1).trans (G.zl a)
theorem Ab.zm_0(a:γ):G.zm a 0=G.ze:=G.zm_nat a 0
theorem Ab.li_a(a d:γ):a=G.li a d 1 0:=by unfold Ab.li;rw[G.zm_1,G.zm_0,G.zr]
def Ab.gW(om:γ→γ)(u e:Nat)(a:γ):γ:=G.ad (G.nm (G.ad (G.nm (G.nm (G.ad a (G.ad (om a) (om a))) u) u) (G.ng (G.ad (G.ad a a) (om a)))) e) a
theorem Ab.gW_ad{om:γ→γ}(ho: ∀a b,om (G.ad a b)=G.ad (om a) (om b))(u e:Nat)(a b:γ):G.gW om u e (G.ad a b)=G.ad (G.gW om u e a) (G.gW om u e b):=by
 unfold Ab.gW
 simp only[ho,G.nm_ad,G.nm_ng,G.ng_ad]
 have:Std.Associative G.ad:=⟨G.assoc⟩
 have:Std.Commutative G.ad:=⟨G.comm⟩
 ac_rfl
theorem Ab.li_al(a d:γ)(k l:Int):G.ad a (G.li a d k l)=G.li a d (1+k) (0+l):=by
 have h:=G.li_ad a d 1 0 k l
 rw[←G.li_a]at h
 exact h
theorem Ab.li_ar(a d:γ)(k l:Int):G.ad (G.li a d k l) a=G.li a d (k+1) (l+0):=by
 have h:=G.li_ad a d k l 1 0
 rw[←G.li_a]at h
 exact h
theorem Ab.li_aa(a d:γ):G.ad a a=G.li a d (1+1) (0+0):=by
 have h:=G.li_ad a d 1 0 1 0
 rw[←G.li_a]at h
 exact h
theorem Ab.gW_li{om:γ→γ}{u e:Nat}{a d:γ}{L M:Int}(h:om a=G.li a d L M):G.gW om u e a=G.li a d ((((1+(L+L))*u*u)+ -(1+1+L))*e+1) ((((0+(M+M))*u*u)+ -(0+0+M))*e+0):=by
 unfold Ab.gW
 rw[h,G.li_ad,G.li_al,G.li_nm,G.li_nm,G.li_aa a d,G.li_ad,G.li_ng,G.li_ad,G.li_nm,G.li_ar]
end
/-! ### The same in numbers -/
section
variable {α:Type} (C:Ec α)
def Ec.jf1(c x y:α):α×α×α:=C.jA (x,y,C.R.one) (C.jD (C.jW c (x,y,C.R.one)))
def Ec.jf2(c:α)(lu:List Bool)(x y:α):α×α×α:=C.jx (C.jf1 c x y) lu (C.jf1 c x y)
def Ec.jf3(c:α)(lu:List Bool)(x y:α):α×α×α:=C.jx (C.jf2 c lu x y) lu (C.jf2 c lu x y)
def Ec.jf4(c:α)(lu:List Bool)(x y:α):α×α×α:=C.jA (C.jf3 c lu x y) (C.jN (C.jA (C.jD (x,y,C.R.one)) (C.jW c (x,y,C.R.one))))
def Ec.jf5(c:α)(lu le:List Bool)(x y:α):α×α×α:=C.jA (C.jx (C.jf4 c lu x y) le (C.jf4 c lu x y)) (x,y,C.R.one)
def mW2(lu:List Bool):Nat:=nB (3*(1+4*1)) lu (3*(1+4*1))
def mW4(lu:List Bool):Nat:=3*(nB (mW2 lu) lu (mW2 lu)+3*(4*1+1))
def mW5(lu le:List Bool):Nat:=3*(nB (mW4 lu) le (mW4 lu)+1)
theorem Ec.jf1_D(c:α):C.DJ (3*(1+4*1)) (fun x y=>C.jf1 c x y):=(Ec.DJ.p C).ad ((Ec.DJ.p C).w c).d
theorem Ec.jf2_D(c:α)(lu:List Bool):C.DJ (mW2 lu) (fun x y=>C.jf2 c lu x y):=Ec.DJ.x (C.jf1_D c) lu _ _ (C.jf1_D c)
theorem Ec.jf3_D(c:α)(lu:List Bool):C.DJ (nB (mW2 lu) lu (mW2 lu)) (fun x y=>C.jf3 c lu x y):=Ec.DJ.x (C.jf2_D c lu) lu _ _ (C.jf2_D c lu)
theorem Ec.jf4_D(c:α)(lu:List Bool):C.DJ (mW4 lu) (fun x y=>C.jf4 c lu x y):=(C.jf3_D c lu).ad ((Ec.DJ.p C).d.ad ((Ec.DJ.p C).w c)).n
theorem Ec.jf5_D(c:α)(lu le:List Bool):C.DJ (mW5 lu le) (fun x y=>C.jf5 c lu le x y):=(Ec.DJ.x (C.jf4_D c lu) le _ _ (C.jf4_D c lu)).ad (Ec.DJ.p C)
end
section
variable {α β:Type} {C:Ec α} {D:Ec β} (T:Hw C D)
theorem Hw.jD_f(A:α×α×α):D.jD (T.fj A)=T.fj (C.jD A):=T.jd_f _ _ _
theorem Hw.jA_f(A B:α×α×α):D.jA (T.fj A) (T.fj B)=T.fj (C.jA A B):=T.ja_f _ _ _ _ _ _
theorem Hw.jN_f(A:α×α×α):D.jN (T.fj A)=T.fj (C.jN A):=by
 unfold Ec.jN Hw.fj
 rw[T.fn]
theorem Hw.jW_f(c:α)(A:α×α×α):D.jW (T.f c) (T.fj A)=T.fj (C.jW c A):=by
 unfold Ec.jW Hw.fj
 rw[T.fm]
theorem Hw.jx_f(B:α×α×α): ∀(l:List Bool) (A:α×α×α),D.jx (T.fj B) l (T.fj A)=T.fj (C.jx B l A)
 |[],_=>rfl
 |false::r,A=>by
  show D.jx (T.fj B) r (D.jD (T.fj A))=T.fj (C.jx B r (C.jD A))
  rw[T.jD_f];exact Hw.jx_f B r _
 |true::r,A=>by
  show D.jx (T.fj B) r (D.jA (D.jD (T.fj A)) (T.fj B))=T.fj (C.jx B r (C.jA (C.jD A) B))
  rw[T.jD_f,T.jA_f];exact Hw.jx_f B r _
theorem Hw.jf5_f(c:α)(lu le:List Bool)(x y:α):D.jf5 (T.f c) lu le (T.f x) (T.f y)=T.fj (C.jf5 c lu le x y):=by
 have e0:(T.f x,T.f y,D.R.one)=T.fj (x,y,C.R.one):=by rw[←T.f1];rfl
 unfold Ec.jf5 Ec.jf4 Ec.jf3 Ec.jf2 Ec.jf1
 rw[e0]
 simp only[T.jW_f,T.jD_f,T.jA_f,T.jx_f,T.jN_f]
theorem Hw.jf5_ne(c:α)(lu le:List Bool)(x y:α)(h:(C.jf5 c lu le x y).2.2≠C.R.zero):(D.jf5 (T.f c) lu le (T.f x) (T.f y)).2.2≠D.R.zero:=fun e=>h (T.fi _ (by rw[T.jf5_f]at e;exact e))
def Hw.o(a:{P:Pt α // C.onP P}):{P:Pt β // D.onP P}:=⟨T.p a.1,T.p_on a.2⟩
end
section
variable {α β:Type} [DecidableEq α] [DecidableEq β] {C:Ec α} {D:Ec β}
theorem Hw.o_ad(T:Hw C D)(a b:C.On):T.o (C.ab.ad a b)=D.ab.ad (T.o a) (T.o b):=Subtype.ext (T.p_ad a.2 b.2)
theorem Ec.gW_is(T:Tw C)(u e:Nat){P:Pt α}(hP:C.onP P):(C.ab.gW T.o u e ⟨P,hP⟩).1=C.ad (C.times (C.ad (C.times (C.times (C.ad P (C.ad (T.p P) (T.p P))) u) u) (C.ne (C.ad (C.ad P P) (T.p P)))) e) P:=by
 unfold Ab.gW
 show C.ad (C.ab.nm _ e).1 _=_
 rw[C.ab_nm]
 show C.ad (C.times (C.ad (C.ab.nm _ u).1 _) e) _=_
 rw[C.ab_nm,C.ab_nm]
 rfl
theorem Ec.jf5_V{T:Tw C}{c:α}(hT: ∀q,T.m q=(C.R.mul c q.1,q.2)){lu le:List Bool}{u e:Nat}(hu:e9 lu 1=u)(he:e9 le 1=e){x y:α}(h:C.on (x,y)):C.V (C.jf5 c lu le x y) (C.ab.gW T.o u e ⟨some (x,y),h⟩).1:=by
 rw[C.gW_is T u e (P:=some (x,y)) h]
 have hP:C.onP (some (x,y)):=h
 have v0:C.V (x,y,C.R.one) (some (x,y)):=.inr (C.jr_here x y)
 have hW:=T.p_on hP
 have vW:=v0.w hT
 have hD:=C.ad_on hW hW
 have v1:C.V (C.jf1 c x y) (C.ad (some (x,y)) (C.ad (T.p (some (x,y))) (T.p (some (x,y))))):=v0.a hP hD (vW.d hW)
 have h1:=C.ad_on hP hD
 have v2:=Ec.V.x h1 v1 lu _ 1 v1
 rw[hu]at v2
 have h2:=C.times_on h1 u
 have v3:=Ec.V.x h2 v2 lu _ 1 v2
 rw[hu]at v3
 have h3:=C.times_on h2 u
 have hE:=C.ad_on (C.ad_on hP hP) hW
 have v4:=v3.a h3 (C.ne_on hE) (((v0.d hP).a (C.ad_on hP hP) hW vW).n)
 have h4:=C.ad_on h3 (C.ne_on hE)
 have v5:=Ec.V.x h4 v4 le _ 1 v4
 rw[he]at v5
 exact v5.a (C.times_on h4 e) hP v0
end
end
section
/-! ### Points of the order r -/
section
variable {α β γ:Type} [DecidableEq α] [DecidableEq β] [DecidableEq γ] {C:Ec α} {B:Ec β} {D:Ec γ} (H:Hw C D) (K:Hw B D)
def Tij(g:C.On)(q:B.On)(r i:Nat):D.On:=D.ab.ad (H.o (C.ab.nm g (i % r))) (K.o (B.ab.nm q (i / r+1)))
theorem nY(g:C.On)(q:B.On)(r i:Nat):(Tij H K g q r i).1=D.ad (H.p (C.times g.1 (i % r))) (K.p (B.times q.1 (i / r+1))):=by
 show D.ad (H.p (C.ab.nm g (i % r)).1) (K.p (B.ab.nm q (i / r+1)).1)=_
 rw[C.ab_nm,B.ab_nm]
structure TD(g:C.On)(q:B.On)(r:Nat):Prop where
 sep: ∀S S',C.onP S→B.onP S'→H.p S=K.p S'→S'=none
 hr: ∀d,0<d→d<r→∃e,(d*e) % r=1
 gr:C.times g.1 r=none
 qr:B.times q.1 r=none
 gn:g.1≠none
 qn:q.1≠none
 r0:0<r
 r2:r % 2=1
variable {H K} {r:Nat} {g:C.On} {q:B.On} (t:TD H K g q r)
theorem GN(t:TD H K g q r){i j:Nat}(hij:i<j)(hj:j<r*(r-1)):Tij H K g q r i≠Tij H K g q r j:=fun e=>by
 have e:=congrArg Subtype.val e
 rw[nY,nY]at e
 have k:=ud H K t.sep (C.times_on g.2 _) (C.times_on g.2 _) (B.times_on q.2 _) (B.times_on q.2 _) e
 have hd: ∀i,i<r*(r-1)→i / r<r-1:=fun i hi=>Nat.div_lt_of_lt_mul hi
 have d1:=hd i (by omega)
 have d2:=hd j hj
 have k1:=C.times_inj g.2 t.hr t.gr t.gn (Nat.mod_lt i t.r0) (Nat.mod_lt j t.r0) k.1
 have k2:=B.times_inj q.2 t.hr t.qr t.qn (Nat.add_lt_of_lt_sub d1) (Nat.add_lt_of_lt_sub d2) k.2
 have a1:=Nat.div_add_mod i r
 have a2:=Nat.div_add_mod j r
 rw[k1,Nat.add_right_cancel k2]at a1
 omega
theorem I4(t:TD H K g q r){i:Nat}(hi:i<r*(r-1)):Tij H K g q r i≠D.ab.ze:=fun e=>by
 have e:=congrArg Subtype.val e
 rw[nY]at e
 have d1:i / r<r-1:=Nat.div_lt_of_lt_mul hi
 have hS:=C.times_on g.2 (i % r)
 have hV:=B.times_on q.2 (i / r+1)
 have e1:=D.opp_of (H.p_on hS) (K.p_on hV) e
 rw[←H.p_ne]at e1
 exact B.cyc_no q.2 t.hr t.qr t.qn (d:=i / r+1) (Nat.succ_pos _) (Nat.add_lt_of_lt_sub d1) (t.sep _ _ (C.ne_on hS) hV e1.symm)
theorem JU(t:TD H K g q r){i:Nat}(hi:i<r*(r-1)):D.ab.ng (Tij H K g q r i)≠Tij H K g q r i:=fun e=>by
 have e:D.ne (Tij H K g q r i).1=(Tij H K g q r i).1:=congrArg Subtype.val e
 rw[nY]at e
 have d1:i / r<r-1:=Nat.div_lt_of_lt_mul hi
 have hS:=C.times_on g.2 (i % r)
 have hV:=B.times_on q.2 (i / r+1)
 rw[D.ne_ad (H.p_on hS) (K.p_on hV),←H.p_ne,←K.p_ne]at e
 have k:=(ud H K t.sep (C.ne_on hS) hS (B.ne_on hV) hV e).2
 have z:B.times q.1 (i / r+1+(i / r+1))=none:=by
  rw[B.times_add q.2]
  conv=>lhs;lhs;rw[←k]
  exact B.ne_ad_self _
 have hr2:=t.r2
 have hk1:i / r+1<r:=Nat.add_lt_of_lt_sub d1
 have hk0:0<i / r+1:=Nat.succ_pos _
 clear k e d1
 generalize i / r+1=k at*
 rcases Nat.lt_trichotomy (k+k) r with h|h|h
 ·exact B.cyc_no q.2 t.hr t.qr t.qn (d:=k+k) (by omega) h z
 ·omega
 ·have e2:B.times q.1 (r+(k+k-r))=none:=by rw[show r+(k+k-r)=k+k by omega];exact z
  rw[B.times_add q.2,t.qr]at e2
  exact B.cyc_no q.2 t.hr t.qr t.qn (d:=k+k-r) (by omega) (by omega) e2
theorem IN{f f':D.On→D.On}(hf: ∀a b,f (D.ab.ad a b)=D.ab.ad (f a) (f b))(hf': ∀a b,f' (D.ab.ad a b)=D.ab.ad (f' a) (f' b))(h1:f (H.o g)=f' (H.o g))(h2:f (K.o q)=f' (K.o q))(i:Nat):f (Tij H K g q r i)=f' (Tij H K g q r i):=by
 unfold Tij
 rw[C.ab.h_nm D.ab H.o_ad,B.ab.h_nm D.ab K.o_ad,hf,hf',D.ab.h_nm D.ab hf,D.ab.h_nm D.ab hf,D.ab.h_nm D.ab hf',D.ab.h_nm D.ab hf',h1,h2]
end
/-! ### A third root of 1 over p^12 -/
def C3:W12:=em (re2 (zp TRN))
theorem C3_4:K12.mul (K12.mul C3 C3) (K12.mul C3 C3)=C3:=by decide+kernel
theorem C3_6:K12.mul (K12.mul C3 C3) (K12.mul (K12.mul C3 C3) (K12.mul C3 C3))=K12.one:=by decide+kernel
theorem C3_3:K12.mul C3 (K12.mul C3 C3)=K12.one:=by decide+kernel
theorem Lc:K12.mul C3 C3=em TR2:=by decide+kernel
def OM3:Tw E12 where
 f:=fun a=>a
 w:=K12.mul C3 C3
 fa:=fun _ _=>rfl
 fm:=fun _ _=>rfl
 fn:=fun _=>rfl
 f0:=rfl
 fi:=fun _ h=>h
 wn:=by decide+kernel
 wb:=by decide+kernel
theorem qV(q:W12×W12):OM3.m q=(K12.mul C3 q.1,q.2):=by
 refine Prod.ext ?_ ?_
 ·show K12.mul (K12.mul (K12.mul C3 C3) (K12.mul C3 C3)) q.1=K12.mul C3 q.1
  rw[C3_4]
 ·show K12.mul (K12.mul (K12.mul C3 C3) (K12.mul (K12.mul C3 C3) (K12.mul C3 C3))) q.2=q.2
  rw[C3_6,K12.one_mul]
theorem Lb(S:Pt Zp):OM3.p (HB.p S)=HB.p (TW1.p S):=by
 cases S with
 |none=>rfl
 |some q=>
  refine congrArg some ?_
  rw[qV,CW]
  refine Prod.ext ?_ rfl
  show K12.mul C3 (K12.mul (K12.mul WW WW) (em (re2 q.1)))=K12.mul (K12.mul WW WW) (em (re2 (zp TRN*q.1)))
  rw[sF,←de]
  exact K12.mul_left_comm _ _ _
theorem Kq(S:Pt W2):OM3.p (OM3.p (HE.p S))=HE.p (E2w.ne (TW2.p (TW2.p S))):=by
 cases S with
 |none=>rfl
 |some s=>
  have e:E2w.ne (TW2.p (TW2.p (some s)))=some (ml2 TR2 s.1,s.2):=by
   show some (E2w.ng (TW2.m (TW2.m s)))=_
   rw[Eh]
   exact congrArg some (Prod.ext rfl (R2.neg_neg s.2))
  rw[e]
  refine congrArg some ?_
  rw[zv,zv,qV,qV]
  refine Prod.ext ?_ rfl
  show K12.mul C3 (K12.mul C3 (em s.1))=em (ml2 TR2 s.1)
  rw[←K12.mul_assoc,Lc,de]
theorem OM_3(P:Pt W12):OM3.p (OM3.p (OM3.p P))=P:=by
 cases P with
 |none=>rfl
 |some q=>
  refine congrArg some ?_
  rw[qV,qV,qV]
  refine Prod.ext ?_ rfl
  show K12.mul C3 (K12.mul C3 (K12.mul C3 q.1))=q.1
  rw[←K12.mul_assoc,←K12.mul_assoc,K12.mul_assoc C3,C3_3,K12.one_mul]
/-! ### The second curve, turned -/
def TN2:E2w.ab.Tn where
 f:=TW2.o
 fa:=TW2.o_ad
 f4:=fun a=>by
  have h:E2w.ab.ad (E2w.ab.ad a (E2w.ab.ng (TW2.o (TW2.o a)))) (TW2.o (TW2.o (TW2.o (TW2.o a))))=E2w.ab.ze:=Subtype.ext (oP a.2)
  rw[E2w.ab.ng_of h,E2w.ab.ng_ad,E2w.ab.ng_ng,E2w.ab.comm]
theorem CS(s:E2w.On):OM3.o (HE.o s)=HE.o (E2w.ab.ad (TW2.o (TW2.o s)) (E2w.ab.ng s)):=by
 have two: ∀s:E2w.On,OM3.o (OM3.o (HE.o s))=HE.o (E2w.ab.ng (TW2.o (TW2.o s))):=fun s=>Subtype.ext (Kq s.1)
 have three: ∀a:E12.On,OM3.o (OM3.o (OM3.o a))=a:=fun a=>Subtype.ext (OM_3 a.1)
 have h4:TW2.o (TW2.o (TW2.o (TW2.o s)))=E2w.ab.ad (TW2.o (TW2.o s)) (E2w.ab.ng s):=TN2.f4 s
 have fn: ∀s,TW2.o (E2w.ab.ng s)=E2w.ab.ng (TW2.o s):=TN2.fn
 rw[←three (OM3.o (HE.o s)),two s,two,fn,fn,E2w.ab.ng_ng,h4]
def g1o:E1.On:=⟨some G1p,rm⟩
def g2o:E2w.On:=⟨some G2p,qC⟩
theorem JD{u:Nat}(h:E1.ne (E1.times (E1.times (some G1p) u) u)=TW1.p (some G1p)):OM3.o (HB.o g1o)=E12.ab.li (HB.o g1o) (HB.o g1o) (-((u*u:Nat):Int)) 0:=by
 have e1:OM3.o (HB.o g1o)=HB.o (TW1.o g1o):=Subtype.ext (Lb (some G1p))
 have e2:TW1.o g1o=E1.ab.ng (E1.ab.nm g1o (u*u)):=by
  refine Subtype.ext ?_
  show TW1.p (some G1p)=E1.ne (E1.ab.nm g1o (u*u)).1
  rw[←h,E1.ab_nm,E1.times_mul g1o.2];rfl
 rw[e1,e2,E1.ab.h_ng E12.ab HB.o_ad,E1.ab.h_nm E12.ab HB.o_ad,Ab.li,E12.ab.zm_ng,E12.ab.zm_nat,E12.ab.zm_0,E12.ab.zr]
theorem Dg{u:Nat}(h:E2w.ne (E2w.times (some G2p) u)=TW2.p (some G2p)):TW2.o g2o=E2w.ab.ng (E2w.ab.nm g2o u):=by
 refine Subtype.ext ?_
 show TW2.p (some G2p)=E2w.ne (E2w.ab.nm g2o u).1
 rw[←h,E2w.ab_nm];rfl
theorem Ix{u:Nat}(h:E2w.ne (E2w.times (some G2p) u)=TW2.p (some G2p)):OM3.o (HE.o g2o)=E12.ab.li (HE.o g2o) (HE.o g2o) ((u*u:Nat)+ -1) 0:=by
 have e:=Dg h
 have fn: ∀s,TW2.o (E2w.ab.ng s)=E2w.ab.ng (TW2.o s):=TN2.fn
 have fm: ∀s n,TW2.o (E2w.ab.nm s n)=E2w.ab.nm (TW2.o s) n:=TN2.fm
 rw[CS,e,fn,fm,e,E2w.ab.nm_ng,E2w.ab.ng_ng,←E2w.ab.nm_mul,HE.o_ad,E2w.ab.h_nm E12.ab HE.o_ad,E2w.ab.h_ng E12.ab HE.o_ad,Ab.li,E12.ab.zm_add,E12.ab.zm_nat,E12.ab.zm_ng,E12.ab.zm_1,E12.ab.zm_0,E12.ab.zr]
end
section
theorem Ab.h_zm{γ δ:Type}(G:Ab γ)(H:Ab δ){f:γ→δ}(hf: ∀a b,f (G.ad a b)=H.ad (f a) (f b))(a:γ)(n:Int):f (G.zm a n)=H.zm (f a) n:=by
 rw[Ab.zm,hf,G.h_ng H hf,G.h_nm H hf,G.h_nm H hf];rfl
theorem o_px:E12.DW (2*PP) (fun x _=>K12.mul (K12.mul (em PW) (em PW)) (cC x)):=by
 have k:=(((Ec.DW.x E12).pw PP).sm (K12.mul (em PW) (em PW))).up (e:=2*PP) (Nat.mul_le_mul_right PP (by decide))
 have e:(fun x y=>E12.R.mul (K12.mul (em PW) (em PW)) (E12.R.pw x PP):W12→W12→W12)=fun x _=>K12.mul (K12.mul (em PW) (em PW)) (cC x):=funext fun x=>funext fun _=>congrArg (K12.mul (K12.mul (em PW) (em PW))) (ez x)
 rw[e]at k
 exact k
theorem o_py:E12.DW (2*PP) (fun _ y=>K12.mul (K12.mul (em PW) (K12.mul (em PW) (em PW))) (cC y)):=by
 have k:=((Ec.DW.y E12).pw PP).sm (K12.mul (em PW) (K12.mul (em PW) (em PW)))
 have e:(fun x y=>E12.R.mul (K12.mul (em PW) (K12.mul (em PW) (em PW))) (E12.R.pw y PP):W12→W12→W12)=fun _ y=>K12.mul (K12.mul (em PW) (K12.mul (em PW) (em PW))) (cC y):=funext fun _=>funext fun y=>congrArg (K12.mul (K12.mul (em PW) (K12.mul (em PW) (em PW)))) (ez y)
 rw[e]at k
 exact k
theorem tY{γ:Type}(G:Ab γ){a:γ}{r:Nat}(h:G.nm a r=G.ze){m n k:Int}(e:m=n+k*r)(l:Int)(hl:l=0):G.li a a m l=G.zm a n:=by
 rw[Ab.li,hl,G.zm_0,G.zr,G.zm_mod h k e]
theorem BR{u e r:Nat}{lu le:List Bool}(hu:e9 lu 1=u)(he:e9 le 1=e)(t:TD HE HB g2o g1o r)(t1:E1.ne (E1.times (E1.times (some G1p) u) u)=TW1.p (some G1p))(t2:E2w.ne (E2w.times (some G2p) u)=TW2.p (some G2p)){k1 k2:Int}
 (N1:(((1+(-((u*u:Nat):Int)+ -((u*u:Nat):Int)))*u*u)+ -(1+1+ -((u*u:Nat):Int)))*e+1=1+k1*r)
 (N2:(((1+(((u*u:Nat):Int)+ -1+(((u*u:Nat):Int)+ -1)))*u*u)+ -(1+1+(((u*u:Nat):Int)+ -1)))*e+1= -(u:Int)+k2*r)
 (hn:2*(4*mW5 lu le+2*PP+1)≤r*(r-1)) (n1:(E2w.jf5 (re2 (zp TRN)) lu le AX AY).2.2≠ze2) (n2:(E2w.jf5 (re2 (zp TRN)) lu le AX (ng2 AY)).2.2≠ze2) (a:E12.On):TW12.o a=E12.ab.gW OM3.o u e a:=by
 have z0:(((0+((0:Int)+0))*u*u)+ -(0+0+0))*e+0=0:=by simp
 have r1:E12.ab.nm (HB.o g1o) r=E12.ab.ze:=by
  rw[←E1.ab.h_nm E12.ab HB.o_ad,show E1.ab.nm g1o r=E1.ab.ze from Subtype.ext (by rw[E1.ab_nm];exact t.qr)];rfl
 have r2:E12.ab.nm (HE.o g2o) r=E12.ab.ze:=by
  rw[←E2w.ab.h_nm E12.ab HE.o_ad,show E2w.ab.nm g2o r=E2w.ab.ze from Subtype.ext (by rw[E2w.ab_nm];exact t.gr)];rfl
 have s1:TW12.o (HB.o g1o)=E12.ab.gW OM3.o u e (HB.o g1o):=by
  rw[E12.ab.gW_li (JD t1),tY E12.ab r1 N1 _ z0,E12.ab.zm_1]
  exact Subtype.ext (LG (some G1p))
 have s2:TW12.o (HE.o g2o)=E12.ab.gW OM3.o u e (HE.o g2o):=by
  rw[E12.ab.gW_li (Ix t2),tY E12.ab r2 N2 _ z0,E12.ab.zm_ng,E12.ab.zm_nat,←E2w.ab.h_nm E12.ab HE.o_ad,←E2w.ab.h_ng E12.ab HE.o_ad,←Dg t2]
  exact Subtype.ext (DF (some G2p))
 have m1:=HE.jf5_ne (re2 (zp TRN)) lu le AX AY n1
 have m2:=HE.jf5_ne (re2 (zp TRN)) lu le AX (ng2 AY) n2
 have en:HE.f (ng2 AY)=E12.R.neg (em AY):=oy AY
 rw[en]at m2
 exact Ec.all_same TW12.o_ad (E12.ab.gW_ad OM3.o_ad u e) (E12.jf5_D C3 lu le) (fun x y h=>Ec.jf5_V qV hu he h) o_px o_py (fun _ _ _=>rfl) (T:=Tij HE HB g2o g1o r) (fun _ _=>GN t) (fun _=>I4 t) (fun _=>JU t) (fun i _=>IN TW12.o_ad (E12.ab.gW_ad OM3.o_ad u e) s2 s1 i) hn zP m1 m2 a
def rho(u e:Nat):Q4:=((((1+(-1+ -1))*u*u)+ -(1+1+ -1))*e+1,-1,(((0+(1+1))*u*u)+ -(0+0+1))*e+0,0)
theorem Ck{u e:Nat}(h: ∀a:E12.On,TW12.o a=E12.ab.gW OM3.o u e a)(s:E2w.On):TN2.act (rho u e) s=E2w.ab.ze:=by
 have o1:OM3.o (HE.o s)=E12.ab.li (HE.o s) (HE.o (TW2.o (TW2.o s))) (-1) 1:=by
  rw[CS,HE.o_ad,E2w.ab.h_ng E12.ab HE.o_ad,Ab.li,E12.ab.zm_ng,E12.ab.zm_1,E12.ab.zm_1,E12.ab.comm]
 have o2:HE.o (TW2.o s)=E12.ab.gW OM3.o u e (HE.o s):=by
  rw[←h]
  exact (Subtype.ext (DF s.1)).symm
 rw[E12.ab.gW_li o1]at o2
 have key:HE.o (TN2.act (rho u e) s)=E12.ab.ze:=by
  unfold Ab.Tn.act rho
  dsimp only
  generalize (((1+(-1+ -1))*(u:Int)*u)+ -(1+1+ -1))*e+1=N at*
  generalize (((0+(1+1))*(u:Int)*u)+ -(0+0+1))*e+0=M at*
  rw[HE.o_ad,HE.o_ad,HE.o_ad,E2w.ab.h_zm E12.ab HE.o_ad,E2w.ab.h_zm E12.ab HE.o_ad,E2w.ab.h_zm E12.ab HE.o_ad,E2w.ab.h_zm E12.ab HE.o_ad,E12.ab.zm_0,E12.ab.zr,E12.ab.zm_ng,E12.ab.zm_1]
  show E12.ab.ad (E12.ab.ad _ (E12.ab.ng (HE.o (TW2.o s)))) (E12.ab.zm (HE.o (TW2.o (TW2.o s))) M)=_
  rw[o2,Ab.li,E12.ab.assoc,E12.ab.comm (E12.ab.ng _),←E12.ab.assoc,E12.ab.nr]
 exact Subtype.ext (HE.p_none (congrArg Subtype.val key))
/-! ### The numbers -/
def EU:Nat:=(UG+1) / 3
def lU:List Bool:=(cK 64 UG []).tail
def lE:List Bool:=(cK 63 EU []).tail
theorem lU_n:e9 lU 1=UG:=by decide+kernel
theorem lE_n:e9 lE 1=EU:=by decide+kernel
theorem If:2*(4*mW5 lU lE+2*PP+1)≤ORD*(ORD-1):=by decide+kernel
theorem UE_1:(((1+(-((UG*UG:Nat):Int)+ -((UG*UG:Nat):Int)))*UG*UG)+ -(1+1+ -((UG*UG:Nat):Int)))*EU+1=1+(-2*(EU:Int))*ORD:=by decide+kernel
theorem UE_2:(((1+(((UG*UG:Nat):Int)+ -1+(((UG*UG:Nat):Int)+ -1)))*UG*UG)+ -(1+1+(((UG*UG:Nat):Int)+ -1)))*EU+1= -(UG:Int)+(2*(EU:Int))*ORD:=by decide+kernel
theorem A_j1:(E2w.jf5 (re2 (zp TRN)) lU lE AX AY).2.2≠ze2:=by decide+kernel
theorem A_j2:(E2w.jf5 (re2 (zp TRN)) lU lE AX (ng2 AY)).2.2≠ze2:=by decide+kernel
theorem g_td:TD HE HB g2o g1o ORD where
 sep:=D0
 hr:=fun _ h0 h1=>vT vM h0 h1
 gr:=o7
 qr:=pU
 gn:=DP
 qn:=Dp
 r0:=by decide+kernel
 r2:=by decide+kernel
theorem zZ(s:E2w.On):TN2.act (rho UG EU) s=E2w.ab.ze:=Ck (BR lU_n lE_n g_td (by rw[Jz]) (by rw[Dh]) UE_1 UE_2 If A_j1 A_j2) s
end
section
def HEF:Nat:=0xbc69f08f2ee75b3584c6a0ea91b352888e2a8e9145ad7689986ff031508ffe1329c2f178731db956d82bf015d1212b02ec0ec69d7477c1ae954cbc06689f6a359894c0adebbf6b4e8020005aaa95551
def gCR:Q4:=(3175829495326079093223974707421713920929943713226963548300320552577044122385062918806753210708010195697222845942564328869099989319341598650296202088398645760395354361788887860685712333010521923740843833774331222,-2749521005381415097445601975610628764608838291071271597781440591441299419767669058301640939377508500417419161008431142969189977575372134321247729372495869,-6351658990652158186447949414843427841901494212740239422985378386944926357135145186773538712190292049236902325813389887900305724281946913697173908505664764391934386717058131074714202240959035786517553541389331117,24014457331330004357332821391498562889222829239326244857160378356394428128870661260283833621775616097469146203160572)
theorem E3:((((HEF*ORD:Nat):Int),0,0,0):Q4)=Q4.add (0,0,0,0) (gCR.mul (rho UG EU)):=by decide+kernel
theorem wU(s:E2w.On):TN2.act (0,0,0,0) s=E2w.ab.ze:=TN2.act_nm 0 s
theorem BL{P:Pt W2}(hP:E2w.onP P):E2w.times (E2w.times P HEF) ORD=none:=by
 have h:=TN2.act_same zZ E3 ⟨P,hP⟩
 rw[wU,TN2.act_nm]at h
 have k:=congrArg Subtype.val h
 rw[E2w.ab_nm,E2w.times_mul hP]at k
 exact k
end
section
theorem kE{a x y:W2}(ha:a≠ze2)(h:ml2 a x=ml2 a y):x=y:=by
 have e:=bV ha
 generalize iv2 a=s at*
 exact Rg.lc (R:=R2) (zq R2 [a,s,x,y] (ta j2 (ta (ta (tm j1 (tm j0 j3)) (tm (tn j2) to1)) (tm j3 to1))) (ta j3 (ta (ta (tm j1 (tm j0 j2)) (tm (tn j2) (tm j0 j1))) (tm j3 (tm j0 j1))))) (lca (lca (lcm h) (lcm e)) (lcm e))
theorem Im{u X:W2}(h:tu2 u≠ze2)(e:ml2 (ml2 OA X) (tu2 u)=ml2 (ng2 OB) (ad2 (tu2 u) on2)):x1O u=X:=by
 have k:=(DC h).trans e.symm
 have sw: ∀a x t:W2,ml2 (ml2 a x) t=ml2 (ml2 a t) x:=fun a x t=>zq R2 [a,x,t] (tm (tm j0 j1) j2) (tm (tm j0 j2) j1)
 rw[sw,sw OA X]at k
 exact kE (fun q=>(dI q).elim sK h) k
theorem yg{u X R x r:W2}(h:tu2 u≠ze2)(e:ml2 (ml2 OA X) (tu2 u)=ml2 (ng2 OB) (ad2 (tu2 u) on2))(hr:ml2 R R=gO X)(hl:LG2 R=false)(s:SwR u x r):x=X∧r=R:=by
 have k:=Im h e
 have hx:x=X:=s.at1.elim (fun q=>q.trans k) (fun q=>absurd ((ff _).1 ⟨R,hr⟩) (k▸q.1))
 exact ⟨hx,jw hr hl (hx▸s.sq) s.lg⟩
theorem DK{x X:W2}(h:R2.pev iXD x≠ze2)(e:ml2 (R2.pev iXD x) X=R2.pev iXN x):XIs x=X:=by
 refine kE h (Eq.trans ?_ e.symm)
 have k:=bV h
 unfold XIs
 generalize R2.pev iXD x=d at*
 generalize R2.pev iXN x=n at*
 generalize iv2 d=s at*
 exact Rg.lc (R:=R2) (zq R2 [d,n,s] (ta (tm j0 (tm j1 j2)) (tm j1 to1)) (ta j1 (tm j1 (tm j0 j2)))) (lcm k)
theorem DH{x y Y:W2}(h:R2.pev iYD x≠ze2)(e:ml2 (R2.pev iYD x) Y=ml2 y (R2.pev iYN x)):YIs x y=Y:=by
 refine kE h (Eq.trans ?_ e.symm)
 have k:=bV h
 unfold YIs
 generalize R2.pev iYD x=d at*
 generalize ml2 y (R2.pev iYN x)=n at*
 generalize iv2 d=s at*
 exact Rg.lc (R:=R2) (zq R2 [d,n,s] (ta (tm j0 (tm j1 j2)) (tm j1 to1)) (ta j1 (tm j1 (tm j0 j2)))) (lcm k)
def okL(L:W6)(X:W2):Bool:= !decide (L.2.2=ze2) && decide (ml2 (ml2 L.2.2 L.2.2) X=L.1)
theorem yE{P Q:Pt W2}{J K:W6}{X:W2}{m:Nat}(hP:E2w.onP P)(hQ:E2w.onP Q)(hJ:E2w.jr J P)(hK:E2w.jr K Q){l:List Bool}(hm:iz l 0=m)(hL:okL (E2w.jm (E2w.jaF J K) l (ze2,ze2,ze2)) X=true): ∃y,E2w.times (E2w.ad P Q) m=some (X,y):=by
 subst hm
 have h:=Ec.jr_m (C:=E2w) (E2w.ad_on hP hQ) (E2w.jr_a hP hQ hJ hK) l (ze2,ze2,ze2) 0 rfl
 generalize E2w.jm (E2w.jaF J K) l (ze2,ze2,ze2)=L at*
 simp only[okL,Bool.and_eq_true,Bool.not_eq_true',decide_eq_true_eq,decide_eq_false_iff_not]at hL
 obtain ⟨hz,hX⟩:=hL
 cases e:E2w.times (E2w.ad P Q) (iz l 0)with
 |none=>rw[e]at h;exact absurd h hz
 |some q=>
  rw[e]at h
  have k:L.1=ml2 q.1 (ml2 L.2.2 L.2.2):=h.2.1
  refine ⟨q.2,congrArg some (Prod.ext (kE (a:=ml2 L.2.2 L.2.2) (fun j=>(dI j).elim hz hz) ?_) rfl)⟩
  rw[hX,k];exact R2.mul_comm _ _
theorem zn:iz (cK 636 HEF []) 0=HEF:=by decide+kernel
end
section
def oG:W2:=(zp 0x3dbc2cce174e91ba93cbb08f26b917f98194a2ea08d1cce75b2b9cc9f21689d80bd79b594a613d0a68eb807dfdc1cf8,zp 0x5a2acec64114845711a54199ea339abd125ba38253b70a92c876df10598bd1986b739cad67961eb94f7076511b3b39a)
def IY:W2:=(zp 0x199d282a389d4dbc1991eecfd5455f9a84ba23dd8229d6fd045d9f4b77b1a4d3fcdeffc95cd270a63df35bbc5a5c49d4,zp 0x16e451c6dd0fda21510fa207db905f6f29d2f3f90f54b8a6340f5b2ba393afbd504a51ada9ea3e6cdff39ff6c72baea1)
def qxy0:W2:=(zp 0xbf91670a17a46bfadc5ea2d7874aef4ad2d794c549fa74d7ff7d1bd8ba4ba23322e23545100443bc798fe0efc322ec8,zp 0xc78bd191c411d8d499b453ce46505bdb33aa109c39a2838208b4d74654c3f1e21112a9a041eb1642502c9a89d0f773c)
def Fc:W2×W2:=((zp 0x19ad3fc9c72425a998d7ab1ea0e646a1f6093444fc6965f1cad5a3195a7b1e099c050d57f45e3fa191cc6d75ed7458c,zp 0x171c88b0b0efb5eb2b88913a9e74fe111a4f68867b59db252ce5868af4d1254bfab77ebde5d61cd1a86fb2fe4a5a1c1d),(zp 0xba10604e62bdd9eeeb4156652066167b72c8d743b050fb4c1016c31b505129374f76e03fa127d6a156213576910fef3,zp 0xeb22c7a543d3d376e9716a49b72e79a89c9bfe9feee8533ed931cbb5373dde1fbcd7411d8052e02693654f71e15410a))
theorem Iq{x r:W2}(s:SwR oG x r):x=IY∧sgS r oG=qxy0:=by
 have h:=yg (R:=(zp 0xbf91670a17a46bfadc5ea2d7874aef4ad2d794c549fa74d7ff7d1bd8ba4ba23322e23545100443bc798fe0efc322ec8,zp 0xc78bd191c411d8d499b453ce46505bdb33aa109c39a2838208b4d74654c3f1e21112a9a041eb1642502c9a89d0f773c)) (X:=IY) (by decide+kernel) (by decide+kernel) (by decide+kernel) (by decide+kernel) s
 exact ⟨h.1,by rw[h.2];decide+kernel⟩
theorem qxq0{x r:W2}(s:SwR oG x r):(XIs x,YIs x (sgS r oG))=Fc:=by
 rw[(Iq s).2,(Iq s).1]
 exact Prod.ext (DK (by decide+kernel) (by decide+kernel)) (DH (by decide+kernel) (by decide+kernel))
theorem qxo0:E2w.on Fc:=by
 unfold Ec.on
 decide+kernel
def pW:W2:=(zp 0x2f99798e8a5acdeed60d7e18e9120521ba1f47ec090984662846bc825de191b5b7641148c0dbc237726a334473eee94,zp 0x145a81e418d4010cc027a68f14391b30074e89e60ee7a22f87217b2f6eb0c4b94c9115b436e6fa4607e95a98de30a435)
def KM:W2:=(zp 0x75cffd7ed388b29c9512b4c94293426d34a36de2d56937e7ae59d9e8551554f40f4b3f3ad35e5a7439093674b677c00,zp 0xf5b7f37a1ccd381120e7d636fd5cb583d1d1f4f1dce74b056e8faa7478a22a36f493f14c5d04cc7d2907b12e7dc0789)
def qxy1:W2:=(zp 0xdc422d7b285dd7b6ab072598691e8851b24c71ddd9208617bcc44e900293981614303daea51f7632041aa3f679e45d8,zp 0x70134804bdc43cee8f93164373fbcd8c35899aa9c70882197dcd1091c979a0bb8082e28bfae315e373ed81134837b93)
def HI:W2×W2:=((zp 0x113d2b9cd4bd98aee53470b27abc658d91b47a78a51584f3d4b950677cfb8a3e99c24222c406128c91296ef6b45608be,zp 0x13855912321c5cb793e9d1e88f6f8d342d49c0b0dbac613ee9e17e3c0b3c97dfbb5a49cc3fb45102fdbaf65e0efe2632),(zp 0xfd3def0b7574a1d801be44fde617162aa2e89da47f464317d9bb5abc3a7071763ce74180883ad7ad9a723a9afafcdca,zp 0x56f617902b3c0d0f78a9a8cbda43a26b65f602f8786540b9469b060db7b38417915b413ca65f875c130bebfaa59790c))
theorem Jn{x r:W2}(s:SwR pW x r):x=KM∧sgS r pW=qxy1:=by
 have h:=yg (R:=(zp 0xdc422d7b285dd7b6ab072598691e8851b24c71ddd9208617bcc44e900293981614303daea51f7632041aa3f679e45d8,zp 0x70134804bdc43cee8f93164373fbcd8c35899aa9c70882197dcd1091c979a0bb8082e28bfae315e373ed81134837b93)) (X:=KM) (by decide+kernel) (by decide+kernel) (by decide+kernel) (by decide+kernel) s
 exact ⟨h.1,by rw[h.2];decide+kernel⟩
theorem qxq1{x r:W2}(s:SwR pW x r):(XIs x,YIs x (sgS r pW))=HI:=by
 rw[(Jn s).2,(Jn s).1]
 exact Prod.ext (DK (by decide+kernel) (by decide+kernel)) (DH (by decide+kernel) (by decide+kernel))
theorem qxo1:E2w.on HI:=by
 unfold Ec.on
 decide+kernel
def qxX:W2:=(zp 0x141ebfbdca40eb85b87142e130ab689c673cf60f1a3e98d69335266f30d9b8d4ac44c1038e9dcdd5393faf5c41fb78a,zp 0x5cb8437535e20ecffaef7752baddf98034139c38452458baeefab379ba13dff5bf5dd71b72418717047f5b0f37da03d)
theorem Iy{x r x' r':W2}(s:SwR oG x r)(s':SwR pW x' r'): ∃y,E2w.times (E2w.ad (some (XIs x,YIs x (sgS r oG))) (some (XIs x',YIs x' (sgS r' pW)))) HEF=some (qxX,y):=by
 rw[qxq0 s,qxq1 s']
 exact yE qxo0 qxo1 (nH Fc) (nH HI) zn (by decide+kernel)
end
end Go.Proofs.YtodgbdcjjhmnkaaGreatDoor
