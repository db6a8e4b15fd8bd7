/- L9 -/
import Derived.Test.YtfgacclgjklgnaaGreatDoorL8
import Derived.Test.YtfgacclgjklgnaaGreatDoorXW
import Derived.Test.YtfgacclgjklgnaaGreatDoorL5
import Derived.Test.YtfgacclgjklgnaaGreatDoorM2
import Derived.Test.YtfgacclgjklgnaaGreatDoorL3
import Derived.Test.YtfgacclgjklgnaaGreatDoorL4
import Derived.Test.YtfgacclgjklgnaaGreatDoorQ1
import Derived.Test.YtfgacclgjklgnaaGreatDoorX3
import Derived.Test.YtfgacclgjklgnaaGreatDoorX2
set_option maxRecDepth 100000
set_option maxHeartbeats 1000000
namespace Go.Proofs.YtfgacclgjklgnaaGreatDoor
open Go.Proofs.Tryz
section
open Go.RowKit
namespace Q6
attribute [local simp] aV ba aT aO aD bd aK aJ aA PLl cv cw N1l cu cr cq a7 bc aP aZ a9 ep
attribute [local simp] pJ cV
theorem pH  :PUR 180 [] (cm K12.one):=(bN rfl (V12 _) (pE TO61 func180 [] (.inl (.inl [K12.one.1.1.1,K12.one.1.1.2,K12.one.1.2.1.1,K12.one.1.2.1.2,K12.one.1.2.2.1,K12.one.1.2.2.2,K12.one.2.1.1,K12.one.2.1.2,K12.one.2.2.1.1,K12.one.2.2.1.2,K12.one.2.2.2.1,K12.one.2.2.2.2])) (let t0:=K6.one;(.inl (.inl [t0.1.1,t0.1.2,t0.2.1.1,t0.2.1.2,t0.2.2.1,t0.2.2.2,0,0,0,0,0,0]),[])) [] kr aI rfl))
theorem E6{f:Nat}{g:W12}(en:ai prog f)(h:PUR f [] (cm g)):Snd prog Gt f (c0 q12.rd g):=uw q12.rd en (bN rfl (V12 _).symm h)
def TO62:Tb prog Gt:=TO61.add (E6 (g:=K12.one) ent180 pH)
theorem pS(x y:W12):PUR 179 [cm x,cm y] (.bool (decide (x=y))):=by
 intro w hw
 have hGF:BOk Gt (pl w):=gt_low.plain hw
 by_cases h:x.1=y.1
 ·refine Hd func179 rfl hGF<|Xp<|Bx 2 hGF rfl<|fun b2=>Bx 3 hGF rfl<|fun b3=>Asg rfl<|aa<|Xp<|Fa 0 rfl underlying233 rfl sizeOf231<|aq 2 _ rfl rfl isAgg231 sizeOf231 sm dJ rfl rfl<|Fa 0 rfl underlying233 rfl sizeOf231<|aq 3 _ rfl rfl isAgg231 sizeOf231 sm dJ rfl rfl<|Cbl true rfl ent220 (n7 _ _) (decide_eq_true h)<|Mv rfl<|Fa 36 rfl underlying233 rfl sizeOf231<|aq 2 _ rfl rfl isAgg231 sizeOf231 sm (ip sm) rfl rfl<|Fa 36 rfl underlying233 rfl sizeOf231<|aq 3 _ rfl rfl isAgg231 sizeOf231 sm (ip sm) rfl rfl<|Ca rfl (n7 _ _)<|Pk rfl rfl rfl<|Asg rfl<|aa<|am<|Rr<|?_
  exact aH rfl rfl (fun w hw=>⟨rb (G8 h),ae hw⟩)
 ·refine Hd func179 rfl hGF<|Xp<|Bx 2 hGF rfl<|fun b2=>Bx 3 hGF rfl<|fun b3=>Asg rfl<|aa<|Xp<|Fa 0 rfl underlying233 rfl sizeOf231<|aq 2 _ rfl rfl isAgg231 sizeOf231 sm dJ rfl rfl<|Fa 0 rfl underlying233 rfl sizeOf231<|aq 3 _ rfl rfl isAgg231 sizeOf231 sm dJ rfl rfl<|Cbl false rfl ent220 (n7 _ _) (decide_eq_false h)<|Mv rfl<|Sk<|Sk<|Sk<|Sk<|Sk<|Pk rfl rfl rfl<|Asg rfl<|aa<|am<|Rr<|?_
  exact aH rfl rfl (fun w hw=>⟨rb (Gv h),ae hw⟩)
theorem iH{f:Nat}{g:W12→W12→Bool}(en:ai prog f)(h: ∀a b,PUR f [cm a,cm b] (.bool (g a b))):Snd prog Gt f (c2 q12.ag q12.ag rdB g):=fW q12.ag q12.ag rdB en (fun a b=>bN (l2 (V12 _).symm (V12 _).symm) rfl (h a b))
def TO63:Tb prog Gt:=TO62.add (iH (g:=fun x y=>decide (x=y)) ent179 pS)
theorem gH{f:Nat}{g:W12→W12→W12}(en:ai prog f)(h: ∀a b,PUR f [cm a,cm b] (cm (g a b))):Snd prog Gt f (c2 q12.ag q12.ag q12.rd g):=fW q12.ag q12.ag q12.rd en (fun a b=>bN (l2 (V12 _).symm (V12 _).symm) (V12 _).symm (h a b))
theorem nN(x:W12):PUR 219 [cm x] (cm (cb x)):=(bN (l1 (V12 _)) (V12 _) (pE TO63 func219 [.inl [x.1.1.1,x.1.1.2,x.1.2.1.1,x.1.2.1.2,x.1.2.2.1,x.1.2.2.2,x.2.1.1,x.2.1.2,x.2.2.1.1,x.2.2.1.2,x.2.2.2.1,x.2.2.2.2]] (.inl (.inl [(cb x).1.1.1,(cb x).1.1.2,(cb x).1.2.1.1,(cb x).1.2.1.2,(cb x).1.2.2.1,(cb x).1.2.2.2,(cb x).2.1.1,(cb x).2.1.2,(cb x).2.2.1.1,(cb x).2.2.1.2,(cb x).2.2.2.1,(cb x).2.2.2.2])) (let t0:=K6.neg ((x.2.1.1,x.2.1.2),(x.2.2.1.1,x.2.2.1.2),(x.2.2.2.1,x.2.2.2.2));(.inl (.inl [x.1.1.1,x.1.1.2,x.1.2.1.1,x.1.2.1.2,x.1.2.2.1,x.1.2.2.2,t0.1.1,t0.1.2,t0.2.1.1,t0.2.1.2,t0.2.2.1,t0.2.2.2]),[])) [] kr aI rfl))
theorem cG{f:Nat}{g:W12→W12}(en:ai prog f)(h: ∀a,PUR f [cm a] (cm (g a))):Snd prog Gt f (c1 q12.ag q12.rd g):=f7 q12.ag q12.rd en (fun a=>bN (l1 (V12 _).symm) (V12 _).symm (h a))
def TO65:Tb prog Gt:=TO63.add (cG (g:=cb) ent219 nN)
theorem vq(x y:W12):PUR 236 [cm x,cm y] (cm (K12.mul x y)):=by
 intro w hw
 refine Hf func236 rfl hw<|fun hGF=>Xp<|Bx 2 hGF rfl<|fun b2=>Bx 3 hGF rfl<|fun b3=>Al 4 hGF zv233<|fun b4=>aa<|eE (E:=EE [2999999]) [0,1,2,3,4,5,6,7,8,9] [⟨10,5,231,((fe 0++fe 0)++((fe 0++fe 0)++(fe 0++fe 0))).map U64⟩,⟨11,6,231,((fe 0++fe 0)++((fe 0++fe 0)++(fe 0++fe 0))).map U64⟩] [12,13] dz rfl kr kr kr kr kr kr dc (by intro x hx;simp only[List.mem_cons,List.not_mem_nil,or_false]at hx;rcases hx with rfl|rfl<;>exact bR rfl zv231 rfl)<|Fa 0 rfl underlying233 rfl sizeOf231<|aq 2 _ rfl rfl isAgg231 sizeOf231 sm dJ rfl rfl<|Fa 0 rfl underlying233 rfl sizeOf231<|aq 3 _ rfl rfl isAgg231 sizeOf231 sm dJ rfl rfl<|Ca rfl (lR _ _)<|Fa 36 rfl underlying233 rfl sizeOf231<|aq 2 _ rfl rfl isAgg231 sizeOf231 sm (ip sm) rfl rfl<|Fa 36 rfl underlying233 rfl sizeOf231<|aq 3 _ rfl rfl isAgg231 sizeOf231 sm (ip sm) rfl rfl<|Ca rfl (lR _ _)<|aa<|?_
 refine ⟨_,_,rfl,hGF,by intro x hx;simp only[List.mem_cons,List.not_mem_nil,or_false]at hx;rcases hx with rfl|rfl<;>rfl,by intro x hx;simp only[List.mem_cons,List.not_mem_nil,or_false]at hx;rcases hx with rfl|rfl<;>rfl,fun adr=> ?_⟩
 refine Sa 5 hGF rfl rfl rfl cZ<|Sa 6 hGF rfl rfl rfl cZ<|aa<|Xa [0,1,2,3,4,5,6,7,8,9,10] ⟨11,7,231,((fe 0++fe 0)++((fe 0++fe 0)++(fe 0++fe 0))).map U64⟩ [12] (bR rfl zv231 rfl)<|Fa 0 rfl underlying233 rfl sizeOf231<|aq 2 _ rfl rfl isAgg231 sizeOf231 sm dJ rfl rfl<|Fa 36 rfl underlying233 rfl sizeOf231<|aq 2 _ rfl rfl isAgg231 sizeOf231 sm (ip sm) rfl rfl<|Ca rfl (m4 _ _)<|Fa 0 rfl underlying233 rfl sizeOf231<|aq 3 _ rfl rfl isAgg231 sizeOf231 sm dJ rfl rfl<|Fa 36 rfl underlying233 rfl sizeOf231<|aq 3 _ rfl rfl isAgg231 sizeOf231 sm (ip sm) rfl rfl<|Ca rfl (m4 _ _)<|Ca rfl (lR _ _)<|aa<|?_
 refine ⟨_,_,rfl,hGF,by intro x hx;simp only[List.mem_cons,List.not_mem_nil,or_false]at hx;subst hx;rfl,by intro x hx;simp only[List.mem_cons,List.not_mem_nil,or_false]at hx;subst hx;rfl,fun adr=> ?_⟩
 refine Sa 7 hGF rfl rfl rfl cZ<|aa<|Xd []<|La 5 rfl rfl cZ<|La 6 rfl rfl cZ<|Ca rfl (k6v _)<|Ca rfl (m4 _ _)<|La 7 rfl rfl cZ<|La 5 rfl rfl cZ<|Ca rfl (p9 _ _)<|La 6 rfl rfl cZ<|Ca rfl (p9 _ _)<|cB rE rfl rfl sm sm rfl rfl<|Sa 4 hGF rfl rfl rfl eG<|aa<|am<|Rr<|?_
 exact az 4 rfl rfl rfl isAgg233 sizeOf233 sm (fun w hw=>⟨e12 (zq K6 [x.1,x.2,y.1,y.2,VV] (ta (tm j0 j2) (tvv 4 (tm j1 j3) rfl)) (ta (tm j0 j2) (tm j4 (tm j1 j3)))) (zq K6 [x.1,x.2,y.1,y.2,VV] (Cz (Cz (tm (ta j0 j1) (ta j2 j3)) (tm j0 j2)) (tm j1 j3)) (ta (tm j0 j3) (tm j1 j2))),ae hw⟩)
def TO66:Tb prog Gt:=TO65.add (gH (g:=K12.mul) ent236 vq)
theorem iG(x:W12):PUR 215 [cm x] (cm (K12.mul x x)):=by
 intro w hw
 refine Hf func215 rfl hw<|fun hGF=>Xp<|Bx 1 hGF rfl<|fun b1=>Al 2 hGF zv233<|fun b2=>aa<|Xp<|Fa 0 rfl underlying233 rfl sizeOf231<|aq 1 _ rfl rfl isAgg231 sizeOf231 sm dJ rfl rfl<|Fa 36 rfl underlying233 rfl sizeOf231<|aq 1 _ rfl rfl isAgg231 sizeOf231 sm (ip sm) rfl rfl<|Ca rfl (lR _ _)<|Al 3 hGF zv231<|fun b3=>Sa 3 hGF rfl rfl rfl cZ<|aa<|Xa [0,1,2,3,4,5,6,7,8,9,10,11] ⟨12,4,231,((fe 0++fe 0)++((fe 0++fe 0)++(fe 0++fe 0))).map U64⟩ [13] (bR rfl zv231 rfl)<|Fa 0 rfl underlying233 rfl sizeOf231<|aq 1 _ rfl rfl isAgg231 sizeOf231 sm dJ rfl rfl<|Fa 36 rfl underlying233 rfl sizeOf231<|aq 1 _ rfl rfl isAgg231 sizeOf231 sm (ip sm) rfl rfl<|Ca rfl (m4 _ _)<|Fa 0 rfl underlying233 rfl sizeOf231<|aq 1 _ rfl rfl isAgg231 sizeOf231 sm dJ rfl rfl<|Fa 36 rfl underlying233 rfl sizeOf231<|aq 1 _ rfl rfl isAgg231 sizeOf231 sm (ip sm) rfl rfl<|Ca rfl (k6v _)<|Ca rfl (m4 _ _)<|Ca rfl (lR _ _)<|aa<|?_
 refine ⟨_,_,rfl,hGF,by intro x hx;simp only[List.mem_cons,List.not_mem_nil,or_false]at hx;subst hx;rfl,by intro x hx;simp only[List.mem_cons,List.not_mem_nil,or_false]at hx;subst hx;rfl,fun adr=> ?_⟩
 refine Sa 4 hGF rfl rfl rfl cZ<|aa<|Xd []<|La 4 rfl rfl cZ<|La 3 rfl rfl cZ<|Ca rfl (p9 _ _)<|La 3 rfl rfl cZ<|Ca rfl (k6v _)<|Ca rfl (p9 _ _)<|La 3 rfl rfl cZ<|La 3 rfl rfl cZ<|Ca rfl (m4 _ _)<|cB rE rfl rfl sm sm rfl rfl<|Sa 2 hGF rfl rfl rfl eG<|aa<|am<|Rr<|?_
 exact az 2 rfl rfl rfl isAgg233 sizeOf233 sm (fun w hw=>⟨e12 (zq K6 [x.1,x.2,VV] (Cz (Cz (tm (ta j0 j1) (ta j0 (tvv 2 j1 rfl))) (tm j0 j1)) (tvv 2 (tm j0 j1) rfl)) (ta (tm j0 j0) (tm j2 (tm j1 j1)))) (zq K6 [x.1,x.2,VV] (ta (tm j0 j1) (tm j0 j1)) (ta (tm j0 j1) (tm j1 j0))),ae hw⟩)
def TO67:Tb prog Gt:=TO66.add (cG (g:=fun x=>K12.mul x x) ent215 iG)
theorem My(x:W12):sb6 (K6.mul x.1 x.1) (v6 (K6.mul x.2 x.2))=qnm K6 VV x:=zq K6 [x.1,x.2,VV] (Cz (tm j0 j0) (tvv 2 (tm j1 j1) rfl)) (ta (tm j0 j0) (tn (tm j2 (tm j1 j1))))
theorem Uf(x:W12)(n:W6):K6.mul x.1 n=K6.add (K6.mul x.1 n) (K6.mul VV (K6.mul (K6.neg x.2) K6.zero)):=zq K6 [x.1,x.2,n,VV] (tm j0 j2) (ta (tm j0 j2) (tm j3 (tm (tn j1) tz0)))
theorem R8(x:W12)(n:W6):K6.neg (K6.mul x.2 n)=K6.add (K6.mul x.1 K6.zero) (K6.mul (K6.neg x.2) n):=zq K6 [x.1,x.2,n] (tn (tm j1 j2)) (ta (tm j0 tz0) (tm (tn j1) j2))
theorem BQ(x:W12):PUR 238 [cm x] (cm (iA x)):=by
 intro w hw
 refine Hf func238 rfl hw<|fun hGF=>Xp<|Bx 1 hGF rfl<|fun b1=>Al 2 hGF zv233<|fun b2=>aa<|Xa [0,1,2,3,4,5,6,7] ⟨8,3,231,((fe 0++fe 0)++((fe 0++fe 0)++(fe 0++fe 0))).map U64⟩ [9] (bR rfl zv231 rfl)<|Fa 0 rfl underlying233 rfl sizeOf231<|aq 1 _ rfl rfl isAgg231 sizeOf231 sm dJ rfl rfl<|Ca rfl (ll _)<|Fa 36 rfl underlying233 rfl sizeOf231<|aq 1 _ rfl rfl isAgg231 sizeOf231 sm (ip sm) rfl rfl<|Ca rfl (ll _)<|Ca rfl (k6v _)<|Ca rfl (p9 _ _)<|aa<|?_
 refine ⟨_,_,rfl,hGF,by intro x hx;simp only[List.mem_cons,List.not_mem_nil,or_false]at hx;subst hx;rfl,by intro x hx;simp only[List.mem_cons,List.not_mem_nil,or_false]at hx;subst hx;rfl,fun adr=> ?_⟩
 refine Sa 3 hGF rfl rfl rfl cZ<|aa<|Xp<|La 3 rfl rfl cZ<|Ca rfl (EM _)<|Al 4 hGF zv231<|fun b4=>Sa 4 hGF rfl rfl rfl cZ<|aa<|Xd []<|Fa 0 rfl underlying233 rfl sizeOf231<|aq 1 _ rfl rfl isAgg231 sizeOf231 sm dJ rfl rfl<|La 4 rfl rfl cZ<|Ca rfl (lR _ _)<|Fa 36 rfl underlying233 rfl sizeOf231<|aq 1 _ rfl rfl isAgg231 sizeOf231 sm (ip sm) rfl rfl<|La 4 rfl rfl cZ<|Ca rfl (lR _ _)<|Ca rfl (BD _)<|cB rE rfl rfl sm sm rfl rfl<|Sa 2 hGF rfl rfl rfl eG<|aa<|am<|Rr<|?_
 exact az 2 rfl rfl rfl isAgg233 sizeOf233 sm (fun w hw=>⟨by rw[My];exact e12 (Uf _ _) (R8 _ _),ae hw⟩)
def TO68:Tb prog Gt:=TO67.add (cG (g:=iA) ent238 BQ)
end Q6
end
section
def GV:Nat→W2
 |0=>on2
 |n+1=>ml2 (cj2 (GV n)) GA
theorem MQ:cj2 on2=on2:=by decide+kernel
theorem Fp(y:W2): ∀k,cj2 (pw2 y k)=pw2 (cj2 y) k
 |0=>MQ
 |k+1=>by rw[nd,fy,Fp y k,nd]
theorem w7(a b:W2)(k:Nat):ml2 (pw2 a k) (pw2 b k)=pw2 (ml2 a b) k:=(R2.mul_pw a b k).symm
def frq(c:W2)(n k:Nat):W2:=ml2 (cjn n c) (pw2 (GV n) k)
theorem qI(c:W2)(n k:Nat):ml2 (cj2 (frq c n k)) (pw2 GA k)=frq c (n+1) k:=by
 rw[frq,fy,Uk,vh,Fp,w7];rfl
theorem qH(c:W2)(k:Nat):frq c 0 k=c:=by
 have e:pw2 (GV 0) k=on2:=R2.one_pw k
 rw[frq,e];exact R2.mul_one c
theorem xP(x:W12): ∀n,ji x n=((frq x.1.1 n 0,frq x.1.2.1 n 2,frq x.1.2.2 n 4),(frq x.2.1 n 1,frq x.2.2.1 n 3,frq x.2.2.2 n 5))
 |0=>by rw[qH,qH,qH,qH,qH,qH];rfl
 |n+1=>by
  rw[ji,xP x n]
  exact Prod.ext (Prod.ext (qI _ _ _) (Prod.ext (qI _ _ _) (qI _ _ _))) (Prod.ext (qI _ _ _) (Prod.ext (qI _ _ _) (qI _ _ _)))
/-! ### The sixth root, as numbers -/
def sxh:Nat:=(sx-1) / 2
def CNn:Nat:=151655185184498381465642749684540099398075398968325446656007613510403227271200139370504932015952886146304766135027
theorem zO:2*sxh+1=sx:=by decide+kernel
theorem Do:4*(sxh / 4)+3=sxh:=by decide+kernel
theorem Om(c:Zp):pw2 (0,c) sxh=(0,-(c^sxh)):=by
 have h:=U5 c (sxh / 4)
 rw[Do]at h
 exact h
theorem OE:pm 2 PP (64*6) sxh+CNn=PP:=by decide+kernel
theorem Ny: -(zp 2^sxh)=zp CNn:=rR (by
 rw[Ea 2 sxh (64*6) (Cf fO (by have:=sx_val;have:=zO;have:=mD;omega)),←fI,OE,nc])
theorem wG:GA=(-(zp CNn),zp CNn):=by
 have e:pw2 XI sx=ml2 (pw2 (pw2 XI 2) sxh) XI:=by rw[←zh,←zO];rfl
 rw[GA,e,S4,Om,Ny]
 generalize zp CNn=a
 refine bt ?_ ?_
 ·show 0*1-a*1= -a
  rw[qy,qy,Vk]
 ·show 0*1+a*1=a
  rw[qy,qy,LV]
end
section
theorem zF(x:W12): ∀n,K12.pw x (PP^n)=ji x n
 |0=>by rw[Nat.pow_zero,K12.pw_one];rfl
 |n+1=>by rw[Nat.pow_succ,K12.pw_mul,zF x n,eQ];rfl
theorem v9(x:W12):K12.pw x (PP^6)=cb x:=(zF x 6).trans (iL x)
theorem NX(x:W12):K12.pw x (PP^2)=bO (bO x):=zF x 2
theorem QZ(x:W12):K12.pw x (PP^12)=x:=(zF x 12).trans (mY x)
theorem Ge{x:W12}(h:x≠K12.zero){n:Nat}(e:K12.pw x (n+1)=x):K12.pw x n=K12.one:=by
 have k:K12.mul (K12.mul (K12.pw x n) x) (iA x)=K12.mul x (iA x):=congrArg (fun y=>K12.mul y (iA x)) e
 rw[K12.mul_assoc,mj h,K12.mul_one]at k
 exact k
theorem s7{x:W12}{m n:Nat}(h:K12.pw x m=K12.one)(hd:n % m=0):K12.pw x n=K12.one:=by
 have e:n=m*(n / m):=by have:=Nat.div_add_mod n m;omega
 rw[e,K12.pw_mul,h,K12.one_pw]
theorem Vt:PP^12-1+1=PP^12:=by decide+kernel
theorem VQ:PP^12-2+1=PP^12-1:=by decide+kernel
theorem N6_s:PP^6-1+1=PP^6:=by decide+kernel
theorem zn{x:W12}(h:x≠K12.zero):K12.pw x (PP^12-1)=K12.one:=Ge h (by rw[Vt];exact QZ x)
theorem MT{x:W12}(h:x≠K12.zero){n m:Nat}(hm:n+1=m)(e:K12.pw x m=K12.one):iA x=K12.pw x n:=by
 subst hm
 exact K12.inv_one (mj h) ((K12.mul_comm _ _).trans e)
theorem TZ{x:W12}(h:x≠K12.zero):iA x=K12.pw x (PP^12-2):=MT h VQ (zn h)
theorem VR{z:W6}(h:z≠K6.zero):K12.pw (r6 z) (PP^6-1)=K12.one:=
 Ge (fun e=>h (Dg e)) (by rw[N6_s,v9];exact Prod.ext rfl K6.neg_zero)
/-! ### As the reference reckons it -/
def tnd(u:Nat)(x:W12):W12:=cb (K12.pw x u)
def fi1(x:W12):W12:=K12.mul (cb x) (iA x)
def fi2(x:W12):W12:=K12.mul (bO (bO x)) x
def fi3(u:Nat)(x:W12):W12:=K12.mul (tnd u x) (cb x)
def fi4(u:Nat)(x:W12):W12:=K12.mul (tnd u x) (bO x)
def fi5(u:Nat)(x:W12):W12:=K12.mul (K12.mul (tnd u (tnd u x)) (bO (bO x))) (cb x)
def fi6(u:Nat)(x:W12):W12:=K12.mul (K12.mul (K12.mul (fi5 u (fi4 u (fi3 u (fi3 u x)))) x) x) x
def rG(u:Nat)(x:W12):W12:=fi6 u (fi2 (fi1 x))
def FEu(u p1 p2 p6 n:Nat):Nat:=(p6+n)*((p2+1)*((((u*p6+p6)*(u*p6+p6))*(u*p6+p1))*((u*p6)*(u*p6)+p2+p6)+1+1+1))
def FE:Nat:=FEu UG PP (PP^2) (PP^6) (PP^12-2)
section
variable {u p2 p6 n:Nat} (h2: ∀x,bO (bO x)=K12.pw x p2) (h6: ∀x,cb x=K12.pw x p6)
theorem Ru(x:W12)(m:Nat):K12.mul (K12.pw x m) x=K12.pw x (m+1):=rfl
theorem sY(h6: ∀x,cb x=K12.pw x p6)(x:W12):tnd u x=K12.pw x (u*p6):=by rw[tnd,h6,←K12.pw_mul]
theorem O9(h6: ∀x,cb x=K12.pw x p6){x:W12}(h:iA x=K12.pw x n):fi1 x=K12.pw x (p6+n):=by rw[fi1,h6,h,←K12.pw_add]
theorem Qf(h2: ∀x,bO (bO x)=K12.pw x p2)(x:W12):fi2 x=K12.pw x (p2+1):=by rw[fi2,h2,Ru]
theorem Dl(h6: ∀x,cb x=K12.pw x p6)(x:W12):fi3 u x=K12.pw x (u*p6+p6):=by rw[fi3,sY h6,h6,←K12.pw_add]
theorem Mw{p1:Nat}(h1: ∀x,bO x=K12.pw x p1)(h6: ∀x,cb x=K12.pw x p6)(x:W12):fi4 u x=K12.pw x (u*p6+p1):=by rw[fi4,sY h6,h1,←K12.pw_add]
theorem N0(h2: ∀x,bO (bO x)=K12.pw x p2)(h6: ∀x,cb x=K12.pw x p6)(x:W12):fi5 u x=K12.pw x ((u*p6)*(u*p6)+p2+p6):=by
 rw[fi5,sY h6 (tnd u x),sY h6 x,←K12.pw_mul,h2,h6,←K12.pw_add,←K12.pw_add]
theorem Qa{p1:Nat}(h1: ∀x,bO x=K12.pw x p1)(h2: ∀x,bO (bO x)=K12.pw x p2)(h6: ∀x,cb x=K12.pw x p6)(x:W12):fi6 u x=K12.pw x ((((u*p6+p6)*(u*p6+p6))*(u*p6+p1))*((u*p6)*(u*p6)+p2+p6)+1+1+1):=by
 rw[fi6,Dl h6 x,Dl h6,←K12.pw_mul,Mw h1 h6,←K12.pw_mul,N0 h2 h6,←K12.pw_mul]
 rfl
theorem GO{p1:Nat}(h1: ∀x,bO x=K12.pw x p1)(h2: ∀x,bO (bO x)=K12.pw x p2)(h6: ∀x,cb x=K12.pw x p6){x:W12}(h:iA x=K12.pw x n):rG u x=K12.pw x (FEu u p1 p2 p6 n):=by
 rw[rG,Qa h1 h2 h6,Qf h2,O9 h6 h,←K12.pw_mul,←K12.pw_mul]
 rfl
end
theorem nO{n:Nat}(h:n-1+1=n):K12.pw K12.zero n=K12.zero:=by rw[←h];exact K12.zero_pw _
theorem Qe(x:W12):iA x=K12.pw x (PP^12-2):=by
 by_cases h:x=K12.zero
 ·rw[h,Jh]
  exact (nO (by decide+kernel)).symm
 ·exact TZ h
theorem ED(x:W12):rG UG x=K12.pw x FE:=GO (fun x=>(eQ x).symm) (fun x=>(NX x).symm) (fun x=>(v9 x).symm) (Qe x)
theorem Ir:FE*ORD % (PP^12-1)=0:=by decide+kernel
theorem IA:FE % (PP^6-1)=0:=by decide+kernel
theorem w9:FE-1+1=FE:=by decide+kernel
theorem UP_r:(UG+PP) % ORD=0:=by decide+kernel
def FN(e:Nat)(x:W12):W12:=K12.pw x e
section
variable {e:Nat}
theorem qf(x y:W12):FN e (K12.mul x y)=K12.mul (FN e x) (FN e y):=K12.mul_pw x y e
theorem kY:FN e K12.one=K12.one:=K12.one_pw e
theorem xJ(h6:e % (PP^6-1)=0){z:W6}(h:z≠K6.zero):FN e (r6 z)=K12.one:=s7 (VR h) h6
theorem NO(hr:e*ORD % (PP^12-1)=0){x:W12}(h:x≠K12.zero):K12.pw (FN e x) ORD=K12.one:=by
 rw[FN,←K12.pw_mul]
 exact s7 (zn h) hr
theorem TE(x:W12):FN e (bO x)=K12.pw (FN e x) PP:=by
 rw[FN,FN,←eQ,←K12.pw_mul,Nat.mul_comm,K12.pw_mul]
theorem FU:r6 K6.one=K12.one:=rfl
theorem Qn(h6:e % (PP^6-1)=0)(x:W12):FN e (K12.neg x)=FN e x:=by
 have k:K12.neg x=K12.mul (r6 (K6.neg K6.one)) x:=by
  rw[←EQ,FU,K12.neg_mul,K12.one_mul]
 rw[k,qf,xJ h6 (by decide+kernel),K12.one_mul]
end
/-! ### Upright lines -/
theorem QI{i t y:W2}(hi:ml2 t i=on2)(k:ml2 y y=ml2 (ml2 t t) XI):False:=by
 have hh:ml2 i t=on2:=(R2.mul_comm i t).trans hi
 have a1:ml2 (ml2 i y) (ml2 i y)=ml2 (ml2 i i) (ml2 y y):=R2.mul_four i y i y
 have a2:ml2 (ml2 i i) (ml2 t t)=ml2 (ml2 i t) (ml2 i t):=R2.mul_four i i t t
 have a3:ml2 (ml2 i i) (ml2 (ml2 t t) XI)=ml2 (ml2 (ml2 i i) (ml2 t t)) XI:=(R2.mul_assoc _ _ _).symm
 have a4:ml2 (ml2 on2 on2) XI=XI:=(congrArg (fun q=>ml2 q XI) (R2.one_mul on2)).trans (R2.one_mul XI)
 exact JZ (ml2 i y) (a1.trans (by rw[k,a3,a2,hh,a4]))
theorem xi4:((zp 4,zp 4):W2)=ml2 (ml2 (zp 2,0) (zp 2,0)) XI:=by decide+kernel
theorem Gw:((zp 2,0):W2)≠ze2:=by decide+kernel
theorem Ti{s:W2×W2}(h:E2w.on s):s.1≠ze2:=fun e=>by
 have k:ml2 s.2 s.2=ad2 (ml2 s.1 (ml2 s.1 s.1)) (zp 4,zp 4):=h
 rw[e,CK]at k
 have k2:ml2 s.2 s.2=(zp 4,zp 4):=k.trans (R2.zero_add _)
 exact QI (cM Gw) (k2.trans xi4)
theorem NM{s:W2×W2}(h:E2w.on s)(c:W2):((ng2 s.1,c,ze2):W6)≠K6.zero:=fun e=>Ti h (by
 have k:ng2 s.1=ze2:=congrArg Prod.fst e
 rw[←R2.neg_neg s.1]
 exact (congrArg ng2 k).trans R2.neg_zero)
theorem Gm(s:W2×W2)(q:Zp×Zp):E12.sub (HB.m q).1 (HE.m s).1=r6 (ng2 s.1,re2 q.1,ze2):=by
 have e:(HB.m q).1=r6 (ze2,re2 q.1,ze2):=HA (re2 q.1)
 rw[e,vp]
 show K12.add (r6 (ze2,re2 q.1,ze2)) (K12.neg (r6 (s.1,ze2,ze2)))=_
 rw[EQ,O5]
 exact congrArg r6 (Prod.ext (R2.zero_add _) (Prod.ext (by show ad2 (re2 q.1) (ng2 ze2)=re2 q.1;exact (congrArg (ad2 (re2 q.1)) R2.neg_zero).trans (R2.add_zero _)) (R2.add_neg ze2)))
def Sp2(A:Pt W12):Prop:= ∃S:Pt W2,E2w.onP S∧A=HE.p S
def Sp1(A:Pt W12):Prop:= ∃S:Pt Zp,E1.onP S∧A=HB.p S
theorem FZ{e:Nat}(h6:e % (PP^6-1)=0):E12.Fz (FN e) Sp2 Sp1 where
 mul:=qf
 one:=kY
 neg:=Qn h6
 aon:=fun {_} h=>by obtain ⟨S,hS,rfl⟩:=h;exact HE.p_on hS
 aad:=fun {_ _} h k=>by
  obtain ⟨S,hS,rfl⟩:=h
  obtain ⟨T,hT,rfl⟩:=k
  exact ⟨_,E2w.ad_on hS hT,(HE.p_ad hS hT).symm⟩
 ane:=fun {_} h=>by obtain ⟨S,hS,rfl⟩:=h;exact ⟨_,E2w.ne_on hS,(HE.p_ne S).symm⟩
 pon:=fun {_} h=>by obtain ⟨S,hS,rfl⟩:=h;exact HB.p_on hS
 pad:=fun {_ _} h k=>by
  obtain ⟨S,hS,rfl⟩:=h
  obtain ⟨T,hT,rfl⟩:=k
  exact ⟨_,E1.ad_on hS hT,(HB.p_ad hS hT).symm⟩
 pne:=fun {_} h=>by obtain ⟨S,hS,rfl⟩:=h;exact ⟨_,E1.ne_on hS,(HB.p_ne S).symm⟩
 van:=fun {a p} h k=>by
  obtain ⟨S,hS,u⟩:=h
  obtain ⟨T,hT,f⟩:=k
  cases S with
  |none=>cases u
  |some s=>
   cases T with
   |none=>cases f
   |some q=>
    have u:a=HE.m s:=Option.some.inj u
    have f:p=HB.m q:=Option.some.inj f
    subst u f
    rw[Gm]
    exact xJ h6 (NM hS _)
end
section
section
variable {α β:Type} {C:Ec α} {D:Ec β} (T:Hw C D)
theorem Hw.ln(a p:α×α)(s:α):D.ln (T.m a) (D.R.mul T.w (T.f s)) (T.m p)=D.R.mul (D.R.mul T.w (D.R.mul T.w T.w)) (T.f (C.ln a s p)):=by
 unfold Ec.ln
 rw[T.fs,T.fs,T.fm,T.fs]
 exact zx D.R [T.w,T.f a.1,T.f a.2,T.f s,T.f p.1,T.f p.2] 0x44556566b355656683556945566a355667 0x55656644b383594a37
theorem Hw.gl [DecidableEq α] [DecidableEq β]{A B P:Pt α}(hA:C.onP A)(hB:C.onP B){F:β→β}(hF: ∀a b,F (D.R.mul a b)=D.R.mul (F a) (F b))(hw:F (D.R.mul T.w (D.R.mul T.w T.w))=D.R.one):F (D.gl (T.p A) (T.p B) (T.p P))=F (T.f (C.gl A B P)):=by
 cases A with
 |none=>rw[C.gl_l,T.f1];rfl
 |some a=>
  cases B with
  |none=>rw[C.gl_m,T.f1];rfl
  |some b=>
   cases P with
   |none=>rw[C.gl_r,T.f1];rfl
   |some p=>
    by_cases ho:C.opp a b
    ·rw[C.gl_opp ho,T.f1]
     exact congrArg F (D.gl_opp (T.opp.2 ho) _)
    ·have hs:=C.sl_slope hA hB ho
     rw[C.gl_sl hA hB ho hs]
     refine (congrArg F (D.gl_sl (T.m_on hA) (T.m_on hB) (fun h=>ho (T.opp.1 h)) (T.sl hs) (T.m p))).trans ?_
     rw[T.ln,hF,hw,D.R.one_mul]
theorem Rg.last{α:Type}(R:Rg α){a b k c h k':α}(x:R.mul (R.mul a b) k=R.mul c h)(y:R.mul k' k=R.one)(z:R.mul h k'=R.one):R.mul a b=c:=
 zl R [a,b,k,c,h,k'] 0x567 0x445b59a535672592 0x9 0x445b55678535675b8595ab (lca (lca (lcm x) (lcm y)) (lcm z))
end
/-! ### The power of p, as a map of the curve -/
theorem F7(x:W12):bO (K12.neg x)=K12.neg (bO x):=by
 have e:K12.add (bO x) (bO (K12.neg x))=K12.zero:=by
  rw[←tJ,K12.add_neg,←eQ]
  exact nO (by decide+kernel)
 exact K12.neg_of e
theorem rq:bO K12.zero=K12.zero:=by rw[←eQ];exact nO (by decide+kernel)
theorem zX{x:W12}(h:bO x=K12.zero):x=K12.zero:=by
 have e:=mY x
 rw[show 12=1+11 from rfl,qs,show ji x 1=bO x from rfl,h]at e
 rw[←e]
 have k: ∀n,ji K12.zero n=K12.zero:=fun n=>by
  induction n with
  |zero=>rfl
  |succ n ih=>rw[ji,ih,rq]
 exact k 11
theorem ue(c:W2):bO (em c)=em (cj2 c):=by rw[←eQ,tQ,Bb]
theorem U3:ml2 (ml2 (ml2 PW (ml2 PW PW)) (ml2 PW (ml2 PW PW))) (cj2 (zp 4,zp 4))=(zp 4,zp 4):=by decide+kernel
theorem VY:ml2 PW GA=on2:=by rw[wG];decide+kernel
def TW12:Tw E12 where
 f:=bO
 w:=em PW
 fa:=tJ
 fm:=gN
 fn:=F7
 f0:=rq
 fi:=fun _ h=>zX h
 wn:=by decide+kernel
 wb:=by
  show K12.mul (K12.mul (K12.mul (em PW) (K12.mul (em PW) (em PW))) (K12.mul (em PW) (K12.mul (em PW) (em PW)))) (bO (em (zp 4,zp 4)))=em (zp 4,zp 4)
  rw[ue,dR,dR,dR,dR,U3]
theorem rc(S:Pt W2):TW12.p (HE.p S)=HE.p (TW2.p S):=by
 cases S with
 |none=>rfl
 |some s=>
  refine congrArg some ?_
  show TW12.m (HE.m s)=HE.m (TW2.m s)
  rw[vp,vp]
  refine Prod.ext ?_ ?_
  ·show K12.mul (K12.mul (em PW) (em PW)) (bO (em s.1))=em (ml2 (ml2 PW PW) (cj2 s.1))
   rw[ue,dR,dR]
  ·show K12.mul (K12.mul (em PW) (K12.mul (em PW) (em PW))) (bO (em s.2))=em (ml2 (ml2 PW (ml2 PW PW)) (cj2 s.2))
   rw[ue,dR,dR,dR]
theorem WW_1:WW=wk 1:=wk1.symm
theorem QV:K12.mul (em PW) (bO WW)=WW:=by
 rw[←eQ,WW_1,Km,←K12.mul_assoc,dR,VY]
 exact K12.one_mul _
theorem DI(a:Zp):cj2 (re2 a)=re2 a:=bt rfl (by show-(0:Zp)=0;exact z_n0')
theorem xU(S:Pt Zp):TW12.p (HB.p S)=HB.p S:=by
 cases S with
 |none=>rfl
 |some q=>
  refine congrArg some ?_
  have h:=QV
  refine Prod.ext ?_ ?_
  ·show K12.mul (K12.mul (em PW) (em PW)) (bO (K12.mul (K12.mul WW WW) (em (re2 q.1))))=K12.mul (K12.mul WW WW) (em (re2 q.1))
   rw[gN,gN,ue,DI,←K12.mul_assoc,K12.mul_four,h]
  ·show K12.mul (K12.mul (em PW) (K12.mul (em PW) (em PW))) (bO (K12.mul (K12.mul WW (K12.mul WW WW)) (em (re2 q.2))))=K12.mul (K12.mul WW (K12.mul WW WW)) (em (re2 q.2))
   rw[gN,gN,gN,ue,DI,←K12.mul_assoc,K12.mul_four (em PW) (K12.mul (em PW) (em PW)),K12.mul_four (em PW) (em PW) (bO WW) (bO WW),h]
/-! ### The loop's value -/
def MLv(l:List Bool)(P:Pt Zp)(Q:Pt W2):W12:=(E12.mil (HE.p Q) (HB.p P) l (K12.one,HE.p Q)).1
section
variable {e:Nat} (h6:e % (PP^6-1)=0) (hr:e*ORD % (PP^12-1)=0) (he:e-1+1=e)
theorem FN_0(he:e-1+1=e):FN e K12.zero=K12.zero:=nO he
theorem Ld(he:e-1+1=e){x y:W12}(h:K12.mul (FN e x) y=K12.one):x≠K12.zero:=fun z=>by
 rw[z,FN_0 he,K12.zero_mul]at h
 exact wD h.symm
theorem tm1{α:Type} [DecidableEq α](C:Ec α)(Q:Pt α):C.times Q 1=Q:=rfl
theorem NR{Q:Pt W2}(hQ:E2w.onP Q)(h:E2w.ne (E2w.times Q UG)=TW2.p Q):E12.times (HE.p Q) UG=E12.ne (TW12.p (HE.p Q)):=by
 rw[←HE.p_times hQ,rc,←h,HE.p_ne,E12.ne_ne]
theorem Ro(h6:e % (PP^6-1)=0):FN e (E12.R.mul TW12.w (E12.R.mul TW12.w TW12.w))=E12.R.one:=by
 have k:E12.R.mul TW12.w (E12.R.mul TW12.w TW12.w)=r6 (ml2 PW (ml2 PW PW),ze2,ze2):=by
  show K12.mul (em PW) (K12.mul (em PW) (em PW))=_
  rw[dR,dR];rfl
 rw[k]
 exact xJ h6 (by decide+kernel)
theorem JB(h6:e % (PP^6-1)=0){A B P:Pt W12}(hA:E12.onP A)(hB:E12.onP B):FN e (E12.gl (TW12.p A) (TW12.p B) (TW12.p P))=K12.pw (FN e (E12.gl A B P)) PP:=
 (TW12.gl hA hB (F:=FN e) qf (Ro h6)).trans (TE _)
theorem Le{x:W12}(h:K12.pw x ORD=K12.one):K12.mul (K12.pw x UG) (K12.pw x PP)=K12.one:=by
 rw[←K12.pw_add]
 exact s7 h UP_r
theorem Tj(h6:e % (PP^6-1)=0)(hr:e*ORD % (PP^12-1)=0)(he:e-1+1=e){l:List Bool}(hl:bS l 1=UG){P P':Pt Zp}(hP:E1.onP P)(hP':E1.onP P'){Q:Pt W2}(hQ:E2w.onP Q)(hu:E2w.ne (E2w.times Q UG)=TW2.p Q):
 K12.mul (FN e (MLv l P Q)) (FN e (MLv l P' Q))=FN e (MLv l (E1.ad P P') Q):=by
 have Z:=FZ h6
 have sQ:Sp2 (HE.p Q):=⟨Q,hQ,rfl⟩
 have s0:Sp2 none:=⟨none,True.intro,rfl⟩
 have sP:Sp1 (HB.p P):=⟨P,hP,rfl⟩
 have sP':Sp1 (HB.p P'):=⟨P',hP',rfl⟩
 have sT:Sp2 (TW12.p (HE.p Q)):=⟨TW2.p Q,TW2.p_on hQ,rc Q⟩
 have k:=Z.lin1 sQ s0 sP sP' l (K12.one,HE.p Q) (K12.one,HE.p Q) (K12.one,HE.p Q) 1 rfl rfl rfl (by rw[tm1,kY];show K12.mul (K12.mul K12.one K12.one) _=K12.mul K12.one (K12.pw _ 1);rw[K12.pw_one,K12.one_mul,K12.one_mul])
 rw[hl,NR hQ hu,←HB.p_ad hP hP']at k
 have i:=Z.swap.inv sP sP' sT
 have t:=JB h6 (P:=HE.p Q) (HB.p_on hP) (HB.p_on hP')
 rw[xU,xU]at t
 have z:=Z.swap.inv sP sP' sQ
 have o:=Le (NO hr (Ld he z))
 rw[←t]at o
 exact K12.last k i o
theorem ML_2(h6:e % (PP^6-1)=0)(hr:e*ORD % (PP^12-1)=0)(he:e-1+1=e){l:List Bool}(hl:bS l 1=UG){P:Pt Zp}(hP:E1.onP P){Q Q':Pt W2}(hQ:E2w.onP Q)(hQ':E2w.onP Q')(hu:E2w.ne (E2w.times Q UG)=TW2.p Q)(hu':E2w.ne (E2w.times Q' UG)=TW2.p Q'):
 K12.mul (FN e (MLv l P Q)) (FN e (MLv l P Q'))=FN e (MLv l P (E2w.ad Q Q')):=by
 have Z:=FZ h6
 have sQ:Sp2 (HE.p Q):=⟨Q,hQ,rfl⟩
 have sQ':Sp2 (HE.p Q'):=⟨Q',hQ',rfl⟩
 have s0:Sp2 none:=⟨none,True.intro,rfl⟩
 have sP:Sp1 (HB.p P):=⟨P,hP,rfl⟩
 have sT:Sp2 (TW12.p (HE.p Q)):=⟨TW2.p Q,TW2.p_on hQ,rc Q⟩
 have sT':Sp2 (TW12.p (HE.p Q')):=⟨TW2.p Q',TW2.p_on hQ',rc Q'⟩
 have k:=Z.lin2 sQ sQ' s0 sP l (K12.one,HE.p Q) (K12.one,HE.p Q') (K12.one,E12.ad (HE.p Q) (HE.p Q')) 1 rfl rfl rfl (by rw[tm1,tm1,kY];show K12.mul (K12.mul K12.one K12.one) _=K12.mul K12.one (K12.pw _ 1);rw[K12.pw_one,K12.one_mul,K12.one_mul])
 rw[hl,NR hQ hu,NR hQ' hu',←HE.p_ad hQ hQ',Z.opp sT sT']at k
 have i:=Z.inv sT sT' sP
 have t:=JB h6 (P:=HB.p P) (HE.p_on hQ) (HE.p_on hQ')
 rw[xU]at t
 have z:=Z.inv sQ sQ' sP
 have o:=Le (NO hr (Ld he z))
 rw[←t]at o
 exact K12.last k i o
theorem Ks{α:Type} [DecidableEq α](C:Ec α){Q P:Pt α}(h: ∀A B,C.gl A B P=C.R.one): ∀(l:List Bool) (st:α×Pt α),st.1=C.R.one→(C.mil Q P l st).1=C.R.one
 |[],_,e=>e
 |d::r,st,e=>by
  refine Ks C h r _ ?_
  cases d with
  |false=>show C.R.mul (C.R.mul st.1 st.1) (C.gl _ _ P)=C.R.one;rw[h,e,C.R.mul_one,C.R.mul_one]
  |true=>show C.R.mul (C.R.mul (C.R.mul st.1 st.1) (C.gl _ _ P)) (C.gl _ _ P)=C.R.one;rw[h,h,e,C.R.mul_one,C.R.mul_one,C.R.mul_one]
theorem KQ{α:Type} [DecidableEq α](C:Ec α){P:Pt α}: ∀(l:List Bool) (st:α×Pt α),st.1=C.R.one→st.2=none→(C.mil none P l st).1=C.R.one
 |[],_,e,_=>e
 |d::r,st,e,f=>by
  refine KQ C r _ ?_ ?_
  ·cases d with
   |false=>show C.R.mul (C.R.mul st.1 st.1) (C.gl st.2 st.2 P)=C.R.one;rw[f,C.gl_l,e,C.R.mul_one,C.R.mul_one]
   |true=>show C.R.mul (C.R.mul (C.R.mul st.1 st.1) (C.gl st.2 st.2 P)) (C.gl _ none P)=C.R.one;rw[f,C.gl_l,C.gl_m,e,C.R.mul_one,C.R.mul_one,C.R.mul_one]
  ·cases d with
   |false=>show C.ad st.2 st.2=none;rw[f];rfl
   |true=>show C.ad (C.ad st.2 st.2) none=none;rw[f];rfl
theorem BX(l:List Bool)(Q:Pt W2):MLv l none Q=K12.one:=Ks E12 (fun A B=>E12.gl_r A B) l _ rfl
theorem JY(l:List Bool)(P:Pt Zp):MLv l P none=K12.one:=KQ E12 l _ rfl rfl
theorem Jy(h6:e % (PP^6-1)=0)(hr:e*ORD % (PP^12-1)=0)(he:e-1+1=e){l:List Bool}(hl:bS l 1=UG){P:Pt Zp}(hP:E1.onP P){Q:Pt W2}(hQ:E2w.onP Q)(hu:E2w.ne (E2w.times Q UG)=TW2.p Q): ∀k,FN e (MLv l (E1.times P k) Q)=K12.pw (FN e (MLv l P Q)) k
 |0=>by rw[show E1.times P 0=none from rfl,BX];exact kY
 |k+1=>by
  have i:=Jy h6 hr he hl hP hQ hu k
  rw[show E1.times P (k+1)=E1.ad (E1.times P k) P from rfl,←Tj h6 hr he hl (E1.times_on hP k) hP hQ hu,i]
  rfl
theorem tw_t{Q:Pt W2}(hQ:E2w.onP Q)(hu:E2w.ne (E2w.times Q UG)=TW2.p Q)(k:Nat):E2w.ne (E2w.times (E2w.times Q k) UG)=TW2.p (E2w.times Q k):=TW2.psi_out hQ hu k
theorem KV(h6:e % (PP^6-1)=0)(hr:e*ORD % (PP^12-1)=0)(he:e-1+1=e){l:List Bool}(hl:bS l 1=UG){P:Pt Zp}(hP:E1.onP P){Q:Pt W2}(hQ:E2w.onP Q)(hu:E2w.ne (E2w.times Q UG)=TW2.p Q): ∀k,FN e (MLv l P (E2w.times Q k))=K12.pw (FN e (MLv l P Q)) k
 |0=>by rw[show E2w.times Q 0=none from rfl,JY];exact kY
 |k+1=>by
  have i:=KV h6 hr he hl hP hQ hu k
  rw[show E2w.times Q (k+1)=E2w.ad (E2w.times Q k) Q from rfl,←ML_2 h6 hr he hl hP (E2w.times_on hQ k) hQ (tw_t hQ hu k) hu,i]
  rfl
end
end
section
def LN(r:W2×W2)(s:W2)(q:Zp×Zp):W12:=((sb2 (ml2 s r.1) r.2,ng2 (ml2 s (re2 q.1)),ze2),(ze2,re2 q.2,ze2))
theorem HB_m(q:Zp×Zp):HB.m q=(r6 (ze2,re2 q.1,ze2),(K6.zero,(ze2,re2 q.2,ze2))):=Prod.ext (HA (re2 q.1)) (Tg (re2 q.2))
theorem n0:ng2 ze2=ze2:=R2.neg_zero
theorem a0(x:W2):ad2 x ze2=x:=R2.add_zero x
theorem l0(x:W2):ad2 ze2 x=x:=R2.zero_add x
theorem Qh(r:W2×W2)(s:W2)(q:Zp×Zp):E12.ln (HE.m r) (em s) (HB.m q)=LN r s q:=by
 have e1:E12.sub (HB.m q).1 (HE.m r).1=r6 (ng2 r.1,re2 q.1,ze2):=Gm r q
 have e2:K12.mul (em s) (r6 (ng2 r.1,re2 q.1,ze2))=r6 (ml2 (ng2 r.1) s,ml2 (re2 q.1) s,ze2):=by
  rw[K12.mul_comm,va]
  exact congrArg r6 (Prod.ext rfl (Prod.ext rfl (CK s)))
 have e3:E12.sub (HB.m q).2 (HE.m r).2=((ng2 r.2,ze2,ze2),(ze2,re2 q.2,ze2)):=by
  rw[HB_m,vp]
  show K12.add (K6.zero,(ze2,re2 q.2,ze2)) (K12.neg (em r.2))=_
  refine Prod.ext (Prod.ext ?_ (Prod.ext ?_ ?_)) (Prod.ext ?_ (Prod.ext ?_ ?_))
  ·exact l0 _
  ·show ad2 ze2 (ng2 ze2)=ze2;rw[n0];exact l0 _
  ·show ad2 ze2 (ng2 ze2)=ze2;rw[n0];exact l0 _
  ·show ad2 ze2 (ng2 ze2)=ze2;rw[n0];exact l0 _
  ·show ad2 (re2 q.2) (ng2 ze2)=re2 q.2;rw[n0];exact a0 _
  ·show ad2 ze2 (ng2 ze2)=ze2;rw[n0];exact l0 _
 unfold Ec.ln
 rw[e1,e3]
 show K12.add ((ng2 r.2,ze2,ze2),(ze2,re2 q.2,ze2)) (K12.neg (K12.mul (em s) (r6 (ng2 r.1,re2 q.1,ze2))))=LN r s q
 rw[e2]
 refine Prod.ext (Prod.ext ?_ (Prod.ext ?_ ?_)) (Prod.ext ?_ (Prod.ext ?_ ?_))
 ·show ad2 (ng2 r.2) (ng2 (ml2 (ng2 r.1) s))=sb2 (ml2 s r.1) r.2
  rw[k9]
  exact zx R2 [r.1,r.2,s] 0x43735368 0x458637
 ·show ad2 ze2 (ng2 (ml2 (re2 q.1) s))=ng2 (ml2 s (re2 q.1))
  rw[l0,show ml2 (re2 q.1) s=ml2 s (re2 q.1)from R2.mul_comm _ _]
 ·show ad2 ze2 (ng2 ze2)=ze2;rw[n0];exact l0 _
 ·show ad2 ze2 (ng2 ze2)=ze2;rw[n0];exact l0 _
 ·show ad2 (re2 q.2) (ng2 ze2)=re2 q.2;rw[n0];exact a0 _
 ·show ad2 ze2 (ng2 ze2)=ze2;rw[n0];exact l0 _
def LG(a b:Pt W2)(q:Zp×Zp):W12:=match a,b with
 |some a,some b=>if a.1=b.1∧ad2 a.2 b.2=ze2 then K12.one else LN a (E2w.slope a b) q
 |_,_=>K12.one
theorem CV{a b:W2×W2}{s:W2}(ha:E2w.on a)(hb:E2w.on b)(ho: ¬E2w.opp a b)(hs:E2w.Sl a b s)(q:Zp×Zp):LG (some a) (some b) q=LN a s q:=by
 rw[←E2w.sl_one (E2w.sl_slope ha hb ho) hs ho]
 exact if_neg ho
theorem LG_o{a b:W2×W2}(h:E2w.opp a b)(q:Zp×Zp):LG (some a) (some b) q=K12.one:=if_pos h
theorem Ko{A B:Pt W2}(hA:E2w.onP A)(hB:E2w.onP B)(q:Zp×Zp):E12.gl (HE.p A) (HE.p B) (HB.p (some q))=LG A B q:=by
 cases A with
 |none=>rfl
 |some a=>
  cases B with
  |none=>rfl
  |some b=>
   by_cases ho:E2w.opp a b
   ·rw[LG_o ho]
    exact E12.gl_opp (HE.opp.2 ho) _
   ·have hs:=E2w.sl_slope hA hB ho
    rw[CV hA hB ho hs]
    have h:=HE.sl hs
    rw[show E12.R.mul HE.w (HE.f (E2w.slope a b))=em (E2w.slope a b)from K12.one_mul _]at h
    refine (E12.gl_sl (HE.m_on hA) (HE.m_on hB) (fun k=>ho (HE.opp.1 k)) h (HB.m q)).trans ?_
    exact Qh a (E2w.slope a b) q
def MSW(q:Zp×Zp)(Q:Pt W2)(d:Bool)(st:W12×Pt W2):W12×Pt W2:=
 if d then (K12.mul (K12.mul (K12.mul st.1 st.1) (LG st.2 st.2 q)) (LG (E2w.ad st.2 st.2) Q q),E2w.ad (E2w.ad st.2 st.2) Q)else (K12.mul (K12.mul st.1 st.1) (LG st.2 st.2 q),E2w.ad st.2 st.2)
def MLW(q:Zp×Zp)(Q:Pt W2):List Bool→W12×Pt W2→W12×Pt W2
 |[],st=>st
 |d::r,st=>MLW q Q r (MSW q Q d st)
theorem CL(q:Zp×Zp){Q:Pt W2}(hQ:E2w.onP Q): ∀(l:List Bool) (f:W12) (R:Pt W2),E2w.onP R→E12.mil (HE.p Q) (HB.p (some q)) l (f,HE.p R)=((MLW q Q l (f,R)).1,HE.p (MLW q Q l (f,R)).2)
 |[],_,_,_=>rfl
 |d::r,f,R,hR=>by
  have h2:=E2w.ad_on hR hR
  have g1:=Ko hR hR q
  have e2:E12.ad (HE.p R) (HE.p R)=HE.p (E2w.ad R R):=(HE.p_ad hR hR).symm
  cases d with
  |false=>
   show E12.mil (HE.p Q) (HB.p (some q)) r (K12.mul (K12.mul f f) (E12.gl (HE.p R) (HE.p R) (HB.p (some q))),E12.ad (HE.p R) (HE.p R))=((MLW q Q r (K12.mul (K12.mul f f) (LG R R q),E2w.ad R R)).1,HE.p (MLW q Q r (K12.mul (K12.mul f f) (LG R R q),E2w.ad R R)).2)
   rw[g1,e2]
   exact CL q hQ r _ _ h2
  |true=>
   have g2:=Ko h2 hQ q
   have e3:E12.ad (HE.p (E2w.ad R R)) (HE.p Q)=HE.p (E2w.ad (E2w.ad R R) Q):=(HE.p_ad h2 hQ).symm
   show E12.mil (HE.p Q) (HB.p (some q)) r (K12.mul (K12.mul (K12.mul f f) (E12.gl (HE.p R) (HE.p R) (HB.p (some q)))) (E12.gl (E12.ad (HE.p R) (HE.p R)) (HE.p Q) (HB.p (some q))),E12.ad (E12.ad (HE.p R) (HE.p R)) (HE.p Q))=((MLW q Q r (K12.mul (K12.mul (K12.mul f f) (LG R R q)) (LG (E2w.ad R R) Q q),E2w.ad (E2w.ad R R) Q)).1,HE.p (MLW q Q r (K12.mul (K12.mul (K12.mul f f) (LG R R q)) (LG (E2w.ad R R) Q q),E2w.ad (E2w.ad R R) Q)).2)
   rw[g1,e2,g2,e3]
   exact CL q hQ r _ _ (E2w.ad_on h2 hQ)
theorem Q2(l:List Bool)(q:Zp×Zp){Q:Pt W2}(hQ:E2w.onP Q):MLv l (some q) Q=(MLW q Q l (K12.one,Q)).1:=congrArg Prod.fst (CL q hQ l K12.one Q hQ)
end
section
set_option maxRecDepth 1000000
def CST(q:Zp×Zp)(Q:W2×W2)(e:Bool×W2×W2)(st:Bool×W12×(W2×W2)):Bool×W12×(W2×W2):=
 let s:=e.2.1
 let R:=st.2.2
 let c:=st.1 && decide (ml2 s (ad2 R.2 R.2)=ad2 (ad2 (ml2 R.1 R.1) (ml2 R.1 R.1)) (ml2 R.1 R.1)) && !decide (ad2 R.2 R.2=ze2)
 let f:=K12.mul (K12.mul st.2.1 st.2.1) (LN R s q)
 let T:=E2w.th R R s
 bif e.1 then (c && decide (ml2 e.2.2 (E2w.sub T.1 Q.1)=E2w.sub T.2 Q.2) && !decide (E2w.sub T.1 Q.1=ze2),K12.mul f (LN T e.2.2 q),E2w.th T Q e.2.2)else (c,f,T)
def CRN(q:Zp×Zp)(Q:W2×W2):List (Bool×W2×W2)→Bool×W12×(W2×W2)→Bool×W12×(W2×W2)
 |[],st=>st
 |e::r,st=>CRN q Q r (CST q Q e st)
def SLP:List (Bool×W2×W2):=[(true,(zp 0x15a76ee3d8d1c3451005d56067cd27cf7598a85f81c23cd926ad0ec05ad6440f1df034cf36701a5831c9fb39250e2ea9,zp 0x16d96e785c797fb5d6afcb1400d7656829a6a71c42deb7ddce5cd2ccda4704dc0e4b92b69009367bbf6e6aa19488df66),(zp 0x14b92565b748c30f253912c6cf3aaa45c2b370e810ea9361db7b84172cb1e68ddd09eb1296e0f84058018a4538d64e8b,zp 0x3c50d0829bdc305ff694cc9bf914addbdcbe307142bf7cc7b8d9115b96656327dd7978009cdcddf4728a38086aebcd7)),(false,(zp 0x56ceab5d5d994dee0ca07fc0d41aa908b1a833b94e768d2dec05cffe4a869aed2a64ee86a72f085ee4e78bd4c2aef8e,zp 0x39b596a976f556e5ea4016a3111e14b674a67295a242cf3b343a6878db6ec20bcac1275d23aad6cd3e84e398a4e7bc8),ze2),(true,(zp 0x6e3ef02d1a04e74ab468f6e04f007b067140de16796e93717f97204641356999f8abc87a7d6c3a51d2dc5c2080aa3d,zp 0x1bd56d5682c8e27f4e58d1fe16609b948cecacbf47561314d3adbfd218516e28b5be780d59a6e961956b585b6151749),(zp 0x8ecc09a9c1f157a41ff8574dbd225e6d360104b08b70bcde984dbdeecb87e54d15afa1ad4d82ecc86926478060abf07,zp 0x1459dcc20ccec09d6ac723641fbd91572a9f1c1cccb841f8f081b995baf77ded82e6c1ee979b5618adb99987cc3e887f)),(false,(zp 0x75707a467e7543c28370330bea9b6e4adf41fa1060713eedb760c98b7aad959e5dfc28db5abe92a46d0ff04a4205803,zp 0x14061839f139644bb20e864718cfc9c1ee8960c06ff2c240598a8a6da7ed2bcc091f594d8b0715d2f6a16be8d5828197),ze2),(false,(zp 0x1deabfaeb3374b50119ecb98148910d6004895792caa88dad948685eedfe9d3ac7315ff9bd8fa7a943e0e3a924e7492,zp 0x7c9b05e8adef4de506459f7be98bf07cbd25fe6f4ac154f7c01f5d8a4b9368fc9cbb8ebfedf28954ae85d6e9f58c709),ze2),(true,(zp 0xee6eb50b6c77d09551c6a60826f728738a490c04918351790b28f2aca89efec977f5d8be5ab1530cd829c00c02bb5ad,zp 0xfe2b8fdab71a2b128d2ad1b08e43b756d77e33ad8d6a444a32fb2ef9c6d1098adde218e3fb06d66bf9f7d4b7015a6b4),(zp 0x14bf838fa391c4a090ebbbe743ae2a27fa167025d88ff625b3bef3953ab3e70c52b7f1fa0e81fa12d05c20409b6ab80d,zp 0xf45e1251275798ebc25a384129e9223de8b300c58513dc4d4e26bb101a87dc37eb1f2ad58f5ce986c824b89b843b64e)),(false,(zp 0x15f5f0afe4eeb7545fb13eb055c6ad903c2a3e4b9f14a8dae81217db1696daa3753ccd844396189ffbd89d01fe27fa5b,zp 0x1040f087e9a0b6633fa13692b8f5f46e2bd5fc15d81b368ac9d2464eda778b0051c1027ed3da9931ffbf361f326b7282),ze2),(false,(zp 0xf10733fed03fc5b7ae27fc457630dce3b4db45cbad696a6351c7771105a0a1096dd87f04527a34a70ec377ccd63a5b2,zp 0x855b8b1eedbf578f7498f370324634590aee6093dd239d9306991a8af53fac94e1e9b5253a208df401e3d6bf657857c),ze2),(false,(zp 0x17900cb270764782b3eca3d2ec46a86181ef1ff2f83172010bc299acce5e8da96b6b932d6c92af226aa27e2cbe8fae21,zp 0x1be7df7094ce56532653ce2da33c37fe337917d32826e1bd09104615d27b1dba405157c82358801a5440afa7826f03e),ze2),(false,(zp 0x15ed1256df8e5e5ca95b56c878630a1ca624fae6d5770503fc7cd3706f331af3de61fabf6cf96397e7b79f2fc8c8275d,zp 0xf5886abb33616f07cfac605cd5194bd83d804f9da8e5cdaffa3eb442aaeb1342a8a3887ee76aa06cc2a711c9ed0f30e),ze2),(false,(zp 0x249a870907df1494e56fc219e01fde22386755f816c125f4c2cdefe8611811647fac337765ce308dd13ea9ec917f81d,zp 0xa59546d0d9d0d18614e98790bdde01f23d77cc2219a64e16678659f6f9ca9e64f594e30c3cd52b28123518842661348),ze2),(false,(zp 0x3ca74026cf32fba56ec4ffaf56bfc4d589fd5479b90e9a3832640fbf5ff16fd5c8661358f86bbd730aa1df76e95257,zp 0x16f491b5bd383da7e70c0012e06dce324741a7e96cd8fccf402fb94e1c54fc0073a49b0577775e0ba37cd47da598900),ze2),(false,(zp 0x9a76bae205af60fb63330d38d4d0d00c4d2739ae3a0b1763a9bcdec2fe60921bf629abd453bf5d35812bbf0123c972a,zp 0x79042a88c84c694ffd3fa1257cfc1f1da9301aff5ef309c649bf53444907381a7d0f976a5e2fc320bd337a5e6bf6e59),ze2),(false,(zp 0x135ff64b4d73a3a2d0f886b2eb84e8fad6b7625c837aa2728eeaf2f380047dfe3a21b11ba36890bfc74afe64e9f3840c,zp 0xcc7efdc19164223dbcb0b43e4ee3c4f4c650fbfe5a0a3700cd16a519987e4aabf6bd8d16fa3e40ac2853a97b01176dd),ze2),(true,(zp 0x148a5374166cf336bdfb590ab3e98a0f2d52eb1fc8addbd73d021e6c59ff8b91a8fb6bd02a0d320eaaf52d68933508fe,zp 0xfbfa5d5aa28b0148c5da91a16d59eff4dc469e9a00aa1e6c9128ca3eaf8fb765006eba3df1bbeb0847972fc9cc9f5ae),(zp 0xd75df1478e683d022e71dda20b2ee156e2703ab722d3d6699c526b1363aa3d7edf86279a9db8b55b3ee3937fc331282,zp 0xf657335d9eabb7551b40995f1aed0135a3006438f62b0aa29f3faebba16ed6dc4cf9025d255e0b22ef5ea34500caaa1)),(false,(zp 0x1137f470c8f7d00baa56e5c03e76ea8acb143c96671cbc65033e67ed9f2b5e180252357114e4f467f4709129c1d6d6d7,zp 0xf23701cea5719c6d8b0d3f3bc8572953d8f42a55fe9970085a5304db0b3422f71d7ac93a2a95cfa92d0088ab1308e85),ze2),(false,(zp 0x373d7203575fda92e7b4b0239b7c7695d2524211d5341f332c9317a9c538a1808d10350e8ab375f9e79671f77c33b38,zp 0x7b03ee28e327f04166f5075f657d148ed56fbf731787b28e9d5746328bce07da2a04f4154a74ef22bb2c45a0f0992be),ze2),(false,(zp 0x18b70eb629a79ff3f983498518b16faf0521c1c5a11c352341629374ff0d1ac17362c7944d2b6e4cdcfd83a0692003b0,zp 0x11fa0abe9f21dc673b14d9174289133e7279c670978cd5690526f609b923d7ba3b37b63cf6dd615a649c30b33d8b88ac),ze2),(false,(zp 0x2fc21e36ad4d0da0a00add9bd428c9c44f9a83980265ddd5cac54906e73bae3b43599982d6310ed50636162786d1b75,zp 0x2b70c4ecc512e5b7a263f208e2d6c8495568d22744ab3f376045a0b6f715c18ef69c37a80e8a4f63bb295c1f909c9f8),ze2),(false,(zp 0x10b916005fc2476498beed417afa88358fa085d4db1d9e6f864b49b4b96dc11dcb31a6b2f313b674fee5c83040549617,zp 0x185827ff9e3c833ac46e1e1674a0ba0ae49290dd243bdc6145d1d4d76b0b03b8d7da125b0a5f1bacd2bc2f38d4e1a34d),ze2),(false,(zp 0x1274aa625858db0bb675b3bfaf508b2248a1fe6ffc5d18d0da3e0d01e0bbb52a301585cf3ce32e18da41a2016fbf41b1,zp 0xcd9b76612194b440cbd9c67af3784151a3a1a7585c177cf0df8603dfa938bc22d0aa98e4cbc0be362614fff6f6d4898),ze2),(false,(zp 0x232f7c41bf2d0ca9a4a656040864a9ec51fc3fceddf7498e96b0c22d39fbbbe7f55d6bc35a50965750c7716c237772d,zp 0x126b7366a9ba4cdc1648b905eb2d53ffa24eaa0527809305911e6efcf7cc8f0983f3a122ebd5d6880bc93e525c5283bd),ze2),(false,(zp 0x3c52126f27d2dd758ab077088f758a89df448c1dd45282d9c2237332a12d63f617991e090b1d3aaedd7ae3ae5ef62ec,zp 0x19ee364564c01cbdf0bd4257877b0d7e053d12f91fa49c91b79fc38b4398e2af5a4ac3f48bf85f2a28b11ffbcc48f29d),ze2),(false,(zp 0x287b1e39767a3c2d102a8257d4c97a8e9d64c41cf2dffa1ce9896e5addb637375420be149369971c3fc33245bb7b9cb,zp 0xdccc3a8b263abdc2c1112a2ba4e1537236425a49e10a76b09b6128f5e000427659557e16f6e6c10c2da68b535025ac5),ze2),(false,(zp 0xeba32ca0fdf04b16e700d02d09be055097f3f4285b74b299e633711f24267eeff96b84c9658e94dff575b044fd12535,zp 0x1853f7c388088cef95618ee7fc016b0e19f5a9dafe6150af099ff3b68fe53867aeee330edac31a776bf2f2a7eb8d07b1),ze2),(false,(zp 0x10e5f821e745ef290f77339938e8c939bcfc597914fa0bc4ea7d0b2339e762ea1d7417bc1393c1940f25665663934fc8,zp 0x14df29fafe098da44c7fd336e97eb8687dab2a2a640c57f41257c93b17f3e38108e6f373fb68057499c7406aa1ace48),ze2),(false,(zp 0x10ff70c91cbb8869a0659bf2337805ebca15d19f40277942937c0d4560eae2eee4b7ce1e54863ab6d50bc9ff4874b6e6,zp 0x1951ff3142b9a208e5e69e5942f145b0f85554ee195ae299cddbe3decddda92adfd9039a7b3cfe640c29faece9a85e53),ze2),(false,(zp 0x15d2f6b35415870ddc7054f2e32a1465866e01898f1f3b142c02b4ccd505fbbb8d8bd06421805f763874894483dc214c,zp 0x183abed5b2d1d128fa596426b89ca852d2ba8b3590cd530181c4e72fdd8802ef73ab15eff6749d4bc9865ee9e261110a),ze2),(false,(zp 0xab36c91eeeaabb24820b390406d92af351a91a43b294110a69e73a9a0f2894ad32c28d81f078a90be515d55a39025dd,zp 0x1029fa62305109a4d20176b9533e34319846e866ad7ddd36f64973cbec18695bfc945495873b5a72e8ea0e7d255b970a),ze2),(false,(zp 0x8bda1d762c986632aeaca1e09c08bb4fe0abcaefc921a404b66f01a40c86e83fded68478deb02d48f2ee3be7ae899ed,zp 0x6d4fe75b0153bdec12dba827c67f5884f061f219cb8ff55faddee2a55b5154b35e2696672be08cacb4795f5ddd8497f),ze2),(false,(zp 0x5a79df85b0a96adf6e2dab8a322ce58631513aed92ce0df838145c7842da8419fcaba0e89eec90cedffb5559d9f7cd6,zp 0x11b7c924610a8268c34b8259fb3d98acbbe375c161f9d2a8712f911d31ea73387b467687f36133a552f9211634fe2feb),ze2),(false,(zp 0x1971f0b4a71e609b35922e78337b308d7d37a5e715e2c6a7544aef13d7757e76ac4a6a2ca05df784a5a683833d2e1464,zp 0x503aa962b29d72a5d9f6cf2771a45a92c45f43bb070b7fd3fe5162dcc95efeedb645acb9afd8643829c2749745e919d),ze2),(false,(zp 0x1657a4b33e1400ef6e296282ea313e60d4b8240679b0175efcbc9d2df3136cbd1a372ac4bb42fc51b2f0d50a3d7a6796,zp 0x10992497f5f8bf44511213229f6a20404576105e15a4930cab44b72c1fc2f89b5eaa0345af91b402ecc6cf1a742796cf),ze2),(false,(zp 0x16691c1bdf57ba041abb3d97c8d34c6b4580edfc55e023b1234a9695204bd44f55ea4de60e51e461db9c85f42519fea6,zp 0xcfbf5ccb325675b1a3becefdee4fe1d3c64b3fedec5632647f7df16fff0877b21676607a81022cb0b3b0c523ae71819),ze2),(false,(zp 0xe743528ce0c94e1a76f2f6006448cecfde912a7d2029dbcc74774ca1af660eaed4d832930d36077b6d0262e218111c1,zp 0x133d21c52017365921207d63c8fb346621601764fa91b40acd681358d077b827cc148be2e1f8a574cee0dad622d6fead),ze2),(false,(zp 0x1902b1e10713c8d95829b014d6b5d3a93563b2103c29cec1e7983befc104f7bd4886ad3a08f8bf2310745715d8e60675,zp 0x142c2105c569b0e7aee457f14605027ef09f9b7d03fcc1c2c81c0dc22eff61dca36ea27f392c934ad398e9471a2a3e6f),ze2),(false,(zp 0x27b1b3c904791e3fa942dcd803b24ff12a9cd7524a26b87c8dd9dfb56ea54ca5c9d26e68acd42eff277e12a1c665cd8,zp 0x162f5c264c2d2728aaa1f652ee6cbf6da2000115b0cca0d89754d630e027f9217dd0fba67a880435688221e820d4164e),ze2),(false,(zp 0x13a3cf500109646aac4d69e33e86b7943ceda2cc678e671964192efc9a09299ad173b34e4a074239eac7dc93b8113ddd,zp 0x12f734fc3463dc7adb90dccbbaeda04445ec73fe1fd859d6076071bd0d45623a4cfe964789c20af4b5a694d4d6d9d45d),ze2),(false,(zp 0x65c82633f9d4d20c07f6ad4f79c2172e21b91ba79a5ea2dd1453a4587d6c2ca2341043e1ed40e3c2cfcc055cd4958d6,zp 0x18a18bd0be954bbff600c7c1403276e7635ed1cd34473d3d086bc2e62775af5eae61d9aac8398341fc07277f183c17d5),ze2),(false,(zp 0x31ae02e34d7d21957899dbef96a7955cf8a3345e89477c101ffc8c27a2046327376e250e6882416d7bc0be138e4eeb2,zp 0x1900bee131450e7d7a914ea489fb49e1a36591a6b189f964d0a0095db108dfd24e92848f148232d34a8da37b7adc99a7),ze2),(false,(zp 0x141accc8970ace156fe95a366883383b5a445ca79fc407ee3f3bd12ca9ef48ef6199a7f46231a3597b09b6d5fda5c712,zp 0x18b35a8fd65ba4cbd734a0eea368fc9a21efabd91ace37d98ff3e0c3028ea8f24ee6fb30e0c805067330b20430c585c8),ze2),(false,(zp 0xaaafef3c4298542248b3a58135c684f9ac0e0a34315e044a7d66db543d3c6a626f79dea7ee6a5f3ce669de80b52ba42,zp 0x13d96385b510deff2f4d1d32ee0060a937926e9b6d6adb90abac56946f0699334fa765e60e0b267ea1f8e8dc2b83d62e),ze2),(false,(zp 0xfc955cb99bde258d876019716b9fdec9340c8f3aefa561ca412df73ae5febbec296a5fb95db0469c00d953ee476c048,zp 0x8fd02881a5331dfb0922a3b31368cfad1bcb8ef19b9d382fb88180286d20648b40806c083c7d7a804031b10c844d0cb),ze2),(false,(zp 0x5b8f08ef767ca4cf5f36622b89e509fc5decaef9cb221f15b64b681867d0f5505b9f13931f476324f857ca9daa71d3f,zp 0xa3b4aea7c32a8fc4d9a662b03710c6daa7cac50a8ca6de8554f99004f5b1f2a21b026098f44b24a23750c8f0fa6270d),ze2),(false,(zp 0x9a64184b516425353d3342b7f1e2595a7bf3cb9644dc3a23ae401e3a2c43950dd3e14a5813cf8d46ec722731cb2e790,zp 0xaf426e78303a8cf5a43520e362a12402d4cd3c50c5a5bc14b9c5ee3da9ae172d5612c391be4ad4c913b7f23ef8afc45),ze2),(false,(zp 0xdd9144f8c45e6091a6714d772bf4739ae7b1a8652c823a2aca6cfb5457ca1adc99138fe3c31209a4897e0f66a542078,zp 0xda6ef8b0ede3a09d1a5c00b21acf101ca7ff6cd9129e67a30ff4bdf679bd4a2b87fa34cc8942e9d5abaeec4938f2308),ze2),(true,(zp 0xea4a92fd6a7fada6c37e836f596f65d4b4a37bb57a0834973113079387e96d6d637efa84423b0a3a6bf47efd924c3dd,zp 0x5b7be247f2850b9608773bab9b9db45ba9d0959b3bd8de5770a36eaa83f3dcc1d95b34760a0823f91354f28328297ee),(zp 0x1142615b871d4c4963ef8ed842f9a579c71af04bbc4b9297c161b22f8b6c5a58a8fb3af7ec52a6b7026c9e97f3d6b0f8,zp 0x78e5e678d7c7e2754875c536346f6c41cfb8f5fdb95af2c9163b27340c90d31ae05f3aaa202c3156a09893b72234b5e)),(false,(zp 0xa0bad126c265d46d51689b72d7dd2e4d3d0945ac3d9cb888b9250b2bed82359a757e1269c4a4d3c7bb2576aeac0337b,zp 0x133a4335f59c0259f1a3ff195a51b1c4671888accdca74afa50259b7484098611c2cb9fdf65a98dff64d2a0fc947454f),ze2),(false,(zp 0xfb69c6a2cbfc9dfb9b0142745ea7f0421cb2dd4e5b4ed7b1142cd575c788d8d19a24ba9dd3830612c58d544327ca0f0,zp 0x10635d3a601f92ab21801ab8e85be88d689d67e6e9835268f7cee1313a095fe9e31b7072875ab3c75d3a4e43d10b2503),ze2),(false,(zp 0x28a36f542a28f6997a811fc2ce6cbed2508c5d828082677745110cbba12e028cd54150ccc1f58585e1d7b5bd45c4c1f,zp 0xac2c40f46751f043fe2833bd583e9bfd967becef21bf75f65d407bf06f076619981fe2e541d567dcc7fbea97520cd94),ze2),(false,(zp 0x125e8f976f7536a2e85ea3cfefd8d2d0063990aea5570748e35370c03766b0439ba9bc0cf8c9e8b4405badfa94226735,zp 0xc0299d504b8b7bb5ff23b7fce15918bb8dbd901b96858640d5946aef2f36a4cb42aee9b8f2d3d1bd687824c71ce27fa),ze2),(false,(zp 0x182115eb42220d34f08e487de33ed175b6d1a029dda7c9aa05a1ef8d1d2c315dd8bc62125863cf017f4f31c0054a3612,zp 0xfc2db9cb25d08faf7c8327f5daebc21a409de8913242d73b8d9e10bc6022a0994e39a0b90bfad204b39a3cbcac7b4),ze2),(false,(zp 0x159ff2806d40ff15099d52045de59d8956f5a84da299063ef6c216059e7a2a6b1a09d23cd53473f5ac7b5e99de412ea4,zp 0x69a7d5ac5a38cce584e0b0f05b60b25f325eb68e4cbd45d0014e4ca22ebdbc559a20177fdccb0d7c9716c23df3ced8f),ze2),(false,(zp 0x142182d337d4bdd0a9dc0152289c80bcf75761bc030bda9dcfd112580006deba5077fd8a5edf9450f71e9104f1c374e9,zp 0x113f465ca312058e0cd541d6b90435a9e7260873c34a0cd455f40359611c687f96c91dbee3f1affdcbbd3809a6881f8e),ze2),(false,(zp 0x10933118bcf1940615957a6c1c7bca0054ff60c0db1566767322d2c5cd33e33d6fd2e0ca2639eca99f5b1f6e6d095faa,zp 0x14ef91f0b47d2bf1313ba159c090bf9a071c2af83528b3613d49af8c8914a7628366761443e0d74cf14359d83cc60326),ze2),(false,(zp 0x5cf357e8473bba00386d2380ef2bbb3e118498031e2471fae5017af4c09ed67c5c2e5257a3deb7872768f839060087e,zp 0x82938f41814229b1224b32b425aed5972aa5f4b4d21ffc7a3913baa2c3f8f7499ac76a63b373a0d0a649113f5c7b2fe),ze2),(false,(zp 0x13847679c97ef8978b3f64c9ba622ef466154b88c6206dc00a65c7c83d9e863106be2e6e6acbdd11b2e3bf3c4e9a8fc7,zp 0x5c65be3c6a8b37e95aaa4725d46595304e94133e1524dc41b86d1ea5e2cb0e5656952930a29270a27fe8eff7ff52747),ze2),(false,(zp 0x78af2f8549231aa92bba1b374d54bf4748e38d3b2c782b3c9d8a7b7d87389e25b856b97ee48f089c7a4594a201092eb,zp 0x157a7e87571314c4eeffcc641151b627d67176b268c6b18bf425406455688e07fe496eb261acc46ca422be84be4fee75),ze2),(false,(zp 0x8f022244af0b719146e8cfb7409e84a31ef57e217e3d45daa059fc26f53a4b15d861e5d1b9ff207335fcb7b28f48654,zp 0x72c117c18b8dfa89321c27cec88b9f86c99799b380ebac98fde2d5c9ef41c16128658961fa9d79eb0320e586c2d096a),ze2),(false,(zp 0x86675ec3781ecc255b9b8f657bd72dc32622552c01c3a14efa70797ab04d5777f18cae0d8934218abbe5eda42e0374,zp 0x99b7b955ea60c02306dd0199067fb6cb2810aa19e5e838d4d7d18f24dc5139d8829c6be0db3cdd784259d6f00a05188),ze2),(false,(zp 0xf16056dd2e8b5f8240d4ac75aac0cfc9b43343826136afbd4f0931c31459109811008d17464425eeb75a1d3a3486fba,zp 0x134957b7abe963c5d074abc911c5cbb3ae17332e06f5b415438805278ea9e18b001cf7daee0993ef125a22747400b5ea),ze2),(false,(zp 0x2d6c8112234d7f18ea478ea7df5eabb84672fab4d4a6e1014e0585cd696c72e9adb4736ed72eccb4e30eeaf3b992446,zp 0x444323d14c7a3549b9f6b2738ce286aeea4511ddcb23d59ff0488c63a739029f85aec2295586dac212579b39f39df97),ze2),(false,(zp 0x65fb0c0d47de8795557bd2f9f4eb741ac78b510ccf452abbc66726ddee31b37d058d7e5bdda2d3c31051f4071ae2945,zp 0x7f9fda3fa03c5295720441d73a813ffff40ee810a12214b0d4ee64da91ea67b8a4525b4b9c37518dd4a05df7a4d6dc1),ze2)]
def AW:W12:=(((zp 0x751557ccd0e568de8f2b6c9f8f0c3bcbd02d177144b44df610160b7a5c9df7b7084529642e3f9f6c6a0c093f01edb9a,zp 0x3a018fa8cb36c23248e299ea03286248eeed1f2c477cfb32d68411a7a4c39c8741d2f067c4dd900046c11057db6c575),(zp 0x687e3f086b7fe854eb89ec494de48b9e990f2ab5c5fe133e1208a380c74369889fb3d2a78177955e698be2dd2fb45c3,zp 0x3acc6bf13ea3ac3b01a5c03abfef0c65cef58c07e598ffa21262310c5c2546736e1ee12c6dae45c57cf14fdb4e6267a),(zp 0x7dda3a1efb947cc5d9b7061a85915bf24fb6353fe36d140edbff59fb68939a96ee5b7ab1a42c199edce862e308ff8f1,zp 0x10cc233519fa1da957cef3a4a301bf377e55ec0d97992861f1b11d171adf7408eff43fd7b9da15f8b4457b89b4436c89)),((zp 0x561a60b89349ab4c1588e00f947f89e0399f1db01e296680a8676d7a09c1aa0228137835f3785c862c07a51633e9827,zp 0x942697638f329bab144afd26647be9054081e8cbded9967d18dc6743108dd74a3c9192e0144f5f2e49b3c2a6dcc8031),(zp 0xb236d849561bab4b1f77b57cb239fea2be7fe053dad9633df74103a97aea745b282344eb89cefc69cef32172fd991ca,zp 0xb72354a46c6ab3f59daa873619913479319807d21d60483fcac8615a4947d9e963d2162b242d34a16a3b267671044b2),(zp 0xecae24d88e6a1c653c20e9a46d901d9cb46546b243182a91bfdfa4742a7e961ccf3ee8c5babca70e8635cfd91b9e4eb,zp 0x19a1163b48107ce80131adee28ba723847b582239eb55a22663968b12bdbc72c03f16a1ccd75cc6e8b84f06847c637c6)))
theorem xk:(CRN G1p G2p SLP (true,K12.one,G2p)).1=true∧(CRN G1p G2p SLP (true,K12.one,G2p)).2.1=AW:=by decide+kernel
theorem MF{q:Zp×Zp}{Q:W2×W2}{e:Bool×W2×W2}{st:Bool×W12×(W2×W2)}(h:(CST q Q e st).1=true):st.1=true:=by
 obtain ⟨d,s,t⟩:=e
 cases d<;>simp[CST]at h
 ·exact h.1.1
 ·exact h.1.1.1.1
theorem Cp{q:Zp×Zp}{Q:W2×W2}: ∀(l:List (Bool×W2×W2)) (st:Bool×W12×(W2×W2)),(CRN q Q l st).1=true→st.1=true
 |[],_,h=>h
 |_::r,_,h=>MF (Cp r _ h)
theorem UU{q:Zp×Zp}{Q:W2×W2}(hQ:E2w.on Q)(e:Bool×W2×W2)(c:Bool)(f:W12)(R:W2×W2)(hR:E2w.on R)(h:(CST q Q e (c,f,R)).1=true):MSW q (some Q) e.1 (f,some R)=((CST q Q e (c,f,R)).2.1,some (CST q Q e (c,f,R)).2.2)∧E2w.on (CST q Q e (c,f,R)).2.2:=by
 obtain ⟨d,s,t⟩:=e
 have dbl:(ml2 s (ad2 R.2 R.2)=ad2 (ad2 (ml2 R.1 R.1) (ml2 R.1 R.1)) (ml2 R.1 R.1))∧¬ad2 R.2 R.2=ze2:=by
  cases d<;>simp[CST]at h
  ·exact ⟨h.1.2,h.2⟩
  ·exact ⟨h.1.1.1.2,h.1.1.2⟩
 have hs:E2w.Sl R R s:=⟨by
  show ml2 s (E2w.sub R.1 R.1)=E2w.sub R.2 R.2
  rw[E2w.sub_self,E2w.sub_self];exact R2.mul_zero s,dbl.1⟩
 have ho: ¬E2w.opp R R:=fun k=>dbl.2 k.2
 have hT:E2w.on (E2w.th R R s):=E2w.th_on hR hs
 have eA:E2w.ad (some R) (some R)=some (E2w.th R R s):=E2w.ad_sl hR hR ho hs
 have eL:LG (some R) (some R) q=LN R s q:=CV hR hR ho hs q
 cases d with
 |false=>
  refine ⟨?_,hT⟩
  show (K12.mul (K12.mul f f) (LG (some R) (some R) q),E2w.ad (some R) (some R))=_
  rw[eL,eA];rfl
 |true=>
  have ad:(ml2 t (E2w.sub (E2w.th R R s).1 Q.1)=E2w.sub (E2w.th R R s).2 Q.2)∧¬E2w.sub (E2w.th R R s).1 Q.1=ze2:=by
   simp[CST]at h
   exact ⟨h.1.2,h.2⟩
  have h3:(CST q Q (true,s,t) (c,f,R)).2.2=E2w.th (E2w.th R R s) Q t:=rfl
  have h4:(CST q Q (true,s,t) (c,f,R)).2.1=K12.mul (K12.mul (K12.mul f f) (LN R s q)) (LN (E2w.th R R s) t q):=rfl
  generalize E2w.th R R s=T at*
  have ho2: ¬E2w.opp T Q:=fun k=>ad.2 (by rw[k.1];exact E2w.sub_self _)
  obtain ⟨s',hs'⟩:=E2w.sl_is hT hQ ho2
  have e0:ml2 (E2w.sub t s') (E2w.sub T.1 Q.1)=ze2:=by
   have k1:ml2 t (E2w.sub T.1 Q.1)=ml2 s' (E2w.sub T.1 Q.1):=ad.1.trans hs'.1.symm
   have k2:ml2 (E2w.sub t s') (E2w.sub T.1 Q.1)=E2w.sub (ml2 t (E2w.sub T.1 Q.1)) (ml2 s' (E2w.sub T.1 Q.1)):=zx R2 [t,s',E2w.sub T.1 Q.1] 0x546378 0x45683578
   rw[k2,k1];exact E2w.sub_self _
  have et:t=s':=E2w.sub0 ((E2w.fd.two e0).resolve_right ad.2)
  subst et
  refine ⟨?_,by rw[h3];exact E2w.th_on hQ hs'⟩
  show (K12.mul (K12.mul (K12.mul f f) (LG (some R) (some R) q)) (LG (E2w.ad (some R) (some R)) (some Q) q),E2w.ad (E2w.ad (some R) (some R)) (some Q))=_
  rw[eL,eA,CV hT hQ ho2 hs',E2w.ad_sl hT hQ ho2 hs',h3,h4]
theorem Ls{q:Zp×Zp}{Q:W2×W2}(hQ:E2w.on Q): ∀(l:List (Bool×W2×W2)) (c:Bool) (f:W12) (R:W2×W2),E2w.on R→(CRN q Q l (c,f,R)).1=true→(MLW q (some Q) (l.map (·.1)) (f,some R)).1=(CRN q Q l (c,f,R)).2.1
 |[],_,_,_,_,_=>rfl
 |e::r,c,f,R,hR,h=>by
  obtain ⟨k,hk⟩:=UU hQ e c f R hR (Cp r _ h)
  show (MLW q (some Q) (r.map (·.1)) (MSW q (some Q) e.1 (f,some R))).1=(CRN q Q r (CST q Q e (c,f,R))).2.1
  rw[k]
  exact Ls hQ r _ _ _ hk h
def L63:List Bool:=SLP.map (·.1)
theorem tS:bS L63 1=UG:=by decide+kernel
theorem Dk:MLv L63 (some G1p) (some G2p)=AW:=by
 rw[Q2 L63 G1p (Q:=some G2p) pT]
 exact (Ls pT SLP true K12.one G2p pT xk.1).trans xk.2
/-! ### The power -/
def PB(x:W12):List Bool→W12→W12
 |[],a=>a
 |true::r,a=>PB x r (K12.mul (K12.mul a a) x)
 |false::r,a=>PB x r (K12.mul a a)
theorem ES(x:W12): ∀(l:List Bool) (n:Nat),PB x l (K12.pw x n)=K12.pw x (bS l n)
 |[],_=>rfl
 |true::r,n=>by
  rw[PB,K12.bt_y x (m:=2*n+1) rfl];exact ES x r _
 |false::r,n=>by
  rw[PB,K12.bt_n x (m:=2*n) rfl];exact ES x r _
def tB(x:W12):W12:=cb (PB x L63 x)
theorem RU:tnd UG=tB:=funext fun x=>by
 have h:=ES x L63 1
 rw[tS,K12.pw_one]at h
 rw[tnd,tB,h]
def GL2:W2:=(-(zp CNn),zp CNn)
def FRL(x:W12):W12:=((ml2 (cj2 x.1.1) (pw2 GL2 0),ml2 (cj2 x.1.2.1) (pw2 GL2 2),ml2 (cj2 x.1.2.2) (pw2 GL2 4)),(ml2 (cj2 x.2.1) (pw2 GL2 1),ml2 (cj2 x.2.2.1) (pw2 GL2 3),ml2 (cj2 x.2.2.2) (pw2 GL2 5)))
theorem NW:bO=FRL:=funext fun x=>by
 unfold bO FRL
 rw[wG];rfl
def FB(t fr:W12→W12)(x g:W12):W12:=
 let y:=(fun z=>K12.mul (fr (fr z)) z) (K12.mul (cb x) g)
 let a:=(fun z=>K12.mul (t z) (cb z)) ((fun z=>K12.mul (t z) (cb z)) y)
 let b:=(fun z=>K12.mul (t z) (fr z)) a
 K12.mul (K12.mul (K12.mul ((fun z=>K12.mul (K12.mul (t (t z)) (fr (fr z))) (cb z)) b) y) y) y
theorem Q9(x:W12):rG UG x=FB (tnd UG) bO x (iA x):=rfl
def O2:W12:=(((zp 0xce727e858bbb9928346f5f63078338c7240c3c0f51d0d8fc9a8f3b8a5fed6405148c0b3b78ba0a9bc9a422e4c4bb728,zp 0x14ce6b96183974c58f58cd74bd7c3b080f0d4de47339d2418829ee96bbbfee14c081679e859a685d4f16c798234f6b2f),(zp 0x2451f6353159b095014fbfd0e128e40540103d69fdc7e3e95283fcebb2d1d938c54d6edccbffc7e52ee9c3e18b1e220,zp 0xa246ca94d81b403c032955435a445a2c05098cd3889dcb11fe7e1797ee812367a710b5f31205b84f828730ca165f490),(zp 0x26f25bfba3b1e45506f413dd9cd9a24e462e0f20df53918999da0b3fa0721e965c265cb64107666f43035a69cd7facf,zp 0x15b7f16e466d2aa21a692e40767e3253951e28ed56b53ad4c4d8fa768411025c5d9d5d8ea3e72bf26704d14dbb508efc)),((zp 0x3266b63a5f104086324367e0d66992cb27853afa44126409a7bd2d906bc8be1e454716eeb0857866883225b50d0ce9b,zp 0x163715665461fe08dc8a265b4dd5dfed3eb47f2e76ce6eace292457ed334257792d8d9466ca14e77473ada42bd9f38b0),(zp 0x13af347b51c3b839e912192461f574243bddb4f2eaeb526ce8147722964ad520e2e8a22bd8f375fa3b9fc473cf207a44,zp 0x37009aa7a6ad750b9dad9423274f8d9725ae96f136a10316b6026ac37ecc0afd2eb082edae871555f4875ed92364c15),(zp 0xd278227e1eb20596407fd509534c958a725b6fa487995cdb6ab119621ba8cd9572b86ce8dedf41fd03a897624967acc,zp 0x193b4f09ebca8d5ba691493455ac94c9de769317c75af61e46fec0ec4159b1d0666cd93f079f9b6838eacbf8e3fcb7c3)))
theorem Rq:K12.mul AW O2=K12.one:=by decide+kernel
theorem T9:AW≠K12.zero:=by decide+kernel
theorem M_iv:iA AW=O2:=K12.inv_one (mj T9) Rq
theorem Ut:FB tB FRL AW O2≠K12.one:=by decide+kernel
theorem Ni:FN FE (MLv L63 (some G1p) (some G2p))≠K12.one:=by
 rw[Dk,FN,←ED,Q9,RU,NW,M_iv]
 exact Ut
end
section
theorem nq(x:W12): ∀n,cb (K12.pw x n)=K12.pw (cb x) n
 |0=>gC
 |n+1=>by rw[Rg.pw,iD,nq x n];rfl
def PR(l:List Bool)(e:Nat)(P:Pt Zp)(Q:Pt W2):W12:=FN e (cb (MLv l P Q))
theorem lx(l:List Bool)(e:Nat)(P:Pt Zp)(Q:Pt W2):PR l e P Q=cb (FN e (MLv l P Q)):=(nq _ e).symm
section
variable {e:Nat} {l:List Bool}
theorem Re(h6:e % (PP^6-1)=0)(hr:e*ORD % (PP^12-1)=0)(he:e-1+1=e)(hl:bS l 1=UG){P:Pt Zp}(hP:E1.onP P){Q:Pt W2}(hQ:E2w.onP Q)(hq:E2w.times Q ORD=none)(k:Nat):PR l e (E1.times P k) Q=K12.pw (PR l e P Q) k:=by
 rw[lx,lx,Jy h6 hr he hl hP hQ ((y4 hQ).2 hq),nq]
theorem VK(h6:e % (PP^6-1)=0)(hr:e*ORD % (PP^12-1)=0)(he:e-1+1=e)(hl:bS l 1=UG){P:Pt Zp}(hP:E1.onP P){Q:Pt W2}(hQ:E2w.onP Q)(hq:E2w.times Q ORD=none)(k:Nat):PR l e P (E2w.times Q k)=K12.pw (PR l e P Q) k:=by
 rw[lx,lx,KV h6 hr he hl hP hQ ((y4 hQ).2 hq),nq]
theorem PR_1(h6:e % (PP^6-1)=0)(hr:e*ORD % (PP^12-1)=0)(he:e-1+1=e)(hl:bS l 1=UG){P P':Pt Zp}(hP:E1.onP P)(hP':E1.onP P'){Q:Pt W2}(hQ:E2w.onP Q)(hq:E2w.times Q ORD=none):K12.mul (PR l e P Q) (PR l e P' Q)=PR l e (E1.ad P P') Q:=by
 rw[lx,lx,lx,←iD,Tj h6 hr he hl hP hP' hQ ((y4 hQ).2 hq)]
theorem Vg(Q:Pt W2):PR l e none Q=K12.one:=by rw[PR,BX,gC];exact kY
end
/-! ### The generators' -/
def EG:W12:=PR L63 FE (some G1p) (some G2p)
theorem Uh:EG≠K12.one:=fun h=>Ni (by
 have k:=congrArg cb h
 rw[EG,lx,n6,gC]at k
 exact k)
theorem U6:K12.pw EG ORD=K12.one:=by
 rw[EG,lx,←nq,NO Ir (by rw[Dk];exact T9),gC]
theorem Fc(n:Nat):K12.pw EG (n % ORD)=K12.pw EG n:=by
 have h:K12.pw EG n=K12.pw EG (ORD*(n / ORD)+n % ORD):=congrArg (K12.pw EG) (Nat.div_add_mod n ORD).symm
 rw[h,K12.pw_add,K12.pw_mul,U6,K12.one_pw,K12.one_mul]
theorem CF(n:Nat):K12.pw EG n=K12.one↔n % ORD=0:=by
 constructor
 ·intro h
  by_cases k:n % ORD=0
  ·exact k
  ·obtain ⟨m,hm⟩:=oy mN (Nat.pos_of_ne_zero k) (Nat.mod_lt n (Nat.lt_trans Nat.zero_lt_one mN.1))
   refine absurd ?_ Uh
   have e1:K12.pw EG ((n % ORD)*m)=K12.one:=by rw[K12.pw_mul,Fc,h,K12.one_pw]
   rw[←Fc,hm,K12.pw_one]at e1
   exact e1
 ·exact fun h=>s7 U6 h
theorem sX(k m:Nat):PR L63 FE (E1.times (some G1p) k) (E2w.times (some G2p) m)=K12.pw EG (k*m):=by
 have on2:E2w.onP (E2w.times (some G2p) m):=E2w.times_on jl m
 rw[Re IA Ir w9 tS gK on2 (E2w.times_ord jl iQ m) k,VK IA Ir w9 tS gK jl iQ m,←K12.pw_mul,Nat.mul_comm]
 rfl
end
section
section
variable {α:Type} (C:Ec α)
def Ec.t3(x:α):α:=C.R.add (C.R.add (C.R.mul x x) (C.R.mul x x)) (C.R.mul x x)
def Ec.wdL(J:α×α×α):α×α×α:=(C.sub (C.R.mul (C.t3 J.1) J.1) (C.R.mul (C.R.add J.2.1 J.2.1) J.2.1),C.R.mul (C.t3 J.1) (C.R.mul J.2.2 J.2.2),C.R.mul (C.R.mul J.2.2 (C.R.add J.2.1 J.2.1)) (C.R.mul J.2.2 J.2.2))
def Ec.wdJ(J:α×α×α):α×α×α:=
 let u:=C.t3 J.1
 let d:=C.R.mul (C.R.add J.2.1 J.2.1) J.2.1
 let h:=C.R.add d d
 let b:=C.R.mul h J.1
 let X:=C.sub (C.sub (C.R.mul u u) b) b
 (X,C.sub (C.R.mul u (C.sub b X)) (C.R.mul h d),C.R.mul J.2.2 (C.R.add J.2.1 J.2.1))
def Ec.wjU(J:α×α×α)(q:α×α):α:=C.sub (C.R.mul (C.R.mul q.2 (C.R.mul J.2.2 J.2.2)) J.2.2) J.2.1
def Ec.wjA(J:α×α×α)(q:α×α):α:=C.sub (C.R.mul q.1 (C.R.mul J.2.2 J.2.2)) J.1
def Ec.wjL(J:α×α×α)(q:α×α):α×α×α:=(C.sub (C.R.mul (C.wjU J q) q.1) (C.R.mul (C.R.mul J.2.2 (C.wjA J q)) q.2),C.wjU J q,C.R.mul J.2.2 (C.wjA J q))
def Ec.wjJ(J:α×α×α)(q:α×α):α×α×α:=
 let u:=C.wjU J q
 let a:=C.wjA J q
 let s:=C.R.mul a a
 let t:=C.R.mul s a
 let b:=C.R.mul s J.1
 let X:=C.sub (C.sub (C.sub (C.R.mul u u) t) b) b
 (X,C.sub (C.R.mul u (C.sub b X)) (C.R.mul t J.2.1),C.R.mul J.2.2 a)
theorem Ec.wdJ_dbA(J:α×α×α):C.wdJ J=C.dbA J:=C.dbl_ext (C.t3 J.1)
 (zx C.R [J.1,J.2.1,J.2.2] 0x5454777547776 0x554774776)
 (zx C.R [J.1,J.2.1,J.2.2] 0x54547775477754777 0x5554774774777)
 rfl
theorem Ec.wjJ_adG(J:α×α×α)(q:α×α):C.adG J (q.1,q.2,C.R.one)=C.wjJ J q:=by
 unfold Ec.adG
 simp only[C.R.mul_one]
 rfl
theorem Ec.wdL_ln{a:α×α}{J:α×α×α}(h:C.jr J (some a)){s:α}(hs:C.R.mul s (C.R.add a.2 a.2)=C.t3 a.1):(C.wdL J).1=C.R.mul (C.wdL J).2.2 (C.sub (C.R.mul s a.1) a.2)∧(C.wdL J).2.1=C.R.mul (C.wdL J).2.2 s:=by
 have hx:J.1=C.R.mul a.1 (C.R.mul J.2.2 J.2.2):=h.2.1
 have hy:J.2.1=C.R.mul a.2 (C.R.mul (C.R.mul J.2.2 J.2.2) J.2.2):=h.2.2
 have hs:C.R.mul s (C.R.add a.2 a.2)=C.R.add (C.R.add (C.R.mul a.1 a.1) (C.R.mul a.1 a.1)) (C.R.mul a.1 a.1):=hs
 unfold Ec.wdL
 rw[hx,hy]
 exact ⟨zl C.R [a.1,a.2,J.2.2,s] 0x454455658856588556588565885565885658856588354575588857558885755888 0x53555885588588644566566566 0x5558457558885755888588459637 0x53555885588588659477 (lcm hs),zl C.R [a.1,a.2,J.2.2,s] 0x544556588565885565885658855658856588588 0x535588558858844566566566 0x55584575588857558885889 0x535588558858859477 (lcm hs)⟩
theorem Ec.wjL_ln{a q:α×α}{J:α×α×α}(h:C.jr J (some a)){s:α}(hs:C.R.mul s (C.sub a.1 q.1)=C.sub a.2 q.2):(C.wjL J q).1=C.R.mul (C.wjL J q).2.2 (C.sub (C.R.mul s a.1) a.2)∧(C.wjL J q).2.1=C.R.mul (C.wjL J q).2.2 s:=by
 have hx:J.1=C.R.mul a.1 (C.R.mul J.2.2 J.2.2):=h.2.1
 have hy:J.2.1=C.R.mul a.2 (C.R.mul (C.R.mul J.2.2 J.2.2) J.2.2):=h.2.2
 unfold Ec.wjL Ec.wjU Ec.wjA
 rw[hx,hy]
 exact ⟨zl C.R [a.1,a.2,J.2.2,s,q.1,q.2] 0x45455b588835755888a355845a588356588b 0x55558886473b 0x55845a588356588459637 0x5555888659463a (lcm hs),zl C.R [a.1,a.2,J.2.2,s,q.1,q.2] 0x455b588835755888 0x555888473b 0x55845a5883565889 0x55588859463a (lcm hs)⟩
theorem Ec.wdL_ne{a:α×α}{J:α×α×α}(h:C.jr J (some a))(ha:a.2≠C.R.zero):(C.wdL J).2.2≠C.R.zero:=by
 have hy:J.2.1≠C.R.zero:=by rw[h.2.2];exact C.mul_ne ha (C.z3_ne h.1)
 exact C.mul_ne (C.mul_ne h.1 fun e=>hy (C.dbl0 e)) (C.z2_ne h.1)
theorem Ec.wjA_ne{a q:α×α}{J:α×α×α}(h:C.jr J (some a))(ha:a.1≠q.1):C.wjA J q≠C.R.zero:=fun e=>ha (by
 have hx:J.1=C.R.mul a.1 (C.R.mul J.2.2 J.2.2):=h.2.1
 have k:=C.sub0 e
 rw[hx]at k
 exact (C.mul_can (C.z2_ne h.1) k).symm)
theorem Ec.wjL_ne{a q:α×α}{J:α×α×α}(h:C.jr J (some a))(ha:a.1≠q.1):(C.wjL J q).2.2≠C.R.zero:=C.mul_ne h.1 (C.wjA_ne h ha)
end
section
variable {α:Type} [DecidableEq α] (C:Ec α)
theorem Ec.wdJ_jr{J:α×α×α}{P:Pt α}(hP:C.onP P)(h:C.jr J P):C.jr (C.wdJ J) (C.ad P P):=by rw[C.wdJ_dbA];exact C.dbA_jr hP h
theorem Ec.wjJ_jr{J:α×α×α}{a q:α×α}(h1:C.R.one≠C.R.zero)(ha:C.on a)(hq:C.on q)(h:C.jr J (some a))(hn:a.1≠q.1):C.jr (C.wjJ J q) (C.ad (some a) (some q)):=by
 have k:=C.adA_jr (P:=some a) (Q:=some q) ha hq h (C.jr_at q h1)
 have e:C.jh J.1 J.2.2 q.1 C.R.one≠C.R.zero:=fun e=>C.wjA_ne h hn (by
  show C.sub (C.R.mul q.1 (C.R.mul J.2.2 J.2.2)) J.1=C.R.zero
  have e:C.sub (C.R.mul q.1 (C.R.mul J.2.2 J.2.2)) (C.R.mul J.1 (C.R.mul C.R.one C.R.one))=C.R.zero:=e
  rw[C.R.mul_one,C.R.mul_one]at e
  exact e)
 rw[show C.adA J (q.1,q.2,C.R.one)=C.adG J (q.1,q.2,C.R.one)from (if_neg h.1).trans ((if_neg h1).trans (if_neg e)),C.wjJ_adG]at k
 exact k
end
theorem Rv(c:W2)(y:W12):K12.mul (em c) y=((ml2 c y.1.1,ml2 c y.1.2.1,ml2 c y.1.2.2),(ml2 c y.2.1,ml2 c y.2.2.1,ml2 c y.2.2.2)):=
 Prod.ext (Prod.ext (zx R2 [c,y.1.1,y.1.2.1,y.1.2.2,y.2.1,y.2.2.1,y.2.2.2,XI] 0x445675d4519518451451a5d451c51b5d4524451c51b51a514451b51a5d51c 0x567) (Prod.ext (zx R2 [c,y.1.1,y.1.2.1,y.1.2.2,y.2.1,y.2.2.1,y.2.2.2,XI] 0x4445685175d51944514451b51a5d51c52451a5d451c51b5d514451c51b51a 0x568) (zx R2 [c,y.1.1,y.1.2.1,y.1.2.2,y.2.1,y.2.2.1,y.2.2.2,XI] 0x44456951851744514451c51b51a524451b51a5d51c51451a5d451c51b 0x569))) (Prod.ext (zx R2 [c,y.1.1,y.1.2.1,y.1.2.2,y.2.1,y.2.2.1,y.2.2.2,XI] 0x4456a5d451c51b45175d4519518 0x56a) (Prod.ext (zx R2 [c,y.1.1,y.1.2.1,y.1.2.2,y.2.1,y.2.2.1,y.2.2.2,XI] 0x44456b51a5d51c445185175d519 0x56b) (zx R2 [c,y.1.1,y.1.2.1,y.1.2.2,y.2.1,y.2.2.1,y.2.2.2,XI] 0x44456c51b51a44519518517 0x56c)))
theorem Ju(x:W2)(c:Zp):sc2 x c=ml2 x (re2 c):=bt (by show x.1*c=x.1*c-x.2*0;rw[gX,Lo]) (by show x.2*c=x.1*0+x.2*c;rw[gX,LV])
def LNE(L:W2×W2×W2)(p:Zp×Zp):W12:=((L.1,ng2 (sc2 L.2.1 p.1),ze2),(ze2,sc2 L.2.2 p.2,ze2))
theorem F2{L:W2×W2×W2}{a:W2×W2}{s:W2}(h:L.1=ml2 L.2.2 (E2w.sub (ml2 s a.1) a.2)∧L.2.1=ml2 L.2.2 s)(p:Zp×Zp):LNE L p=K12.mul (em L.2.2) (LN a s p):=by
 rw[Rv,LNE,LN]
 refine Prod.ext (Prod.ext ?_ (Prod.ext ?_ ?_)) (Prod.ext ?_ (Prod.ext ?_ ?_))
 ·show L.1=ml2 L.2.2 (sb2 (ml2 s a.1) a.2)
  rw[k9];exact h.1
 ·show ng2 (sc2 L.2.1 p.1)=ml2 L.2.2 (ng2 (ml2 s (re2 p.1)))
  rw[Ju,h.2]
  exact zx R2 [L.2.2,s,re2 p.1] 0x355678 0x563578
 ·exact (R2.mul_zero _).symm
 ·exact (R2.mul_zero _).symm
 ·show sc2 L.2.2 p.2=ml2 L.2.2 (re2 p.2)
  exact Ju _ _
 ·exact (R2.mul_zero _).symm
end
section
abbrev WK:=(Zp×Zp)×(W2×W2)×W6
def LNR(L:W2×W2×W2)(p:Zp×Zp):W6:=(L.1,ng2 (sc2 L.2.1 p.1),sc2 L.2.2 p.2)
def lel(t:W6):W12:=((t.1,t.2.1,ze2),(ze2,t.2.2,ze2))
def wDb(w:WK):WK:=(w.1,w.2.1,E2w.wdJ w.2.2)
def rDb(w:WK):W6:=LNR (E2w.wdL w.2.2) w.1
def wJn(w:WK):WK:=if w.2.2.2.2=ze2 then (w.1,w.2.1,(w.2.1.1,w.2.1.2,on2))else (w.1,w.2.1,E2w.wjJ w.2.2 w.2.1)
def rJn(w:WK):W6:=if w.2.2.2.2=ze2 then (on2,ze2,ze2)else LNR (E2w.wjL w.2.2 w.2.1) w.1
def eS(g:WK→W6):List WK→W12→W12
 |[],f=>f
 |w::l,f=>eS g l (K12.mul (lel (g w)) f)
def rdF(d:Bool)(S:List WK×W12):List WK×W12:=
 bif d then ((S.1.map wDb).map wJn,eS rJn (S.1.map wDb) (eS rDb S.1 (K12.mul S.2 S.2)))else (S.1.map wDb,eS rDb S.1 (K12.mul S.2 S.2))
def rdK(l:List Bool)(S:List WK×W12):List WK×W12:=l.foldl (fun S d=>rdF d S) S
theorem yG(l:List Bool)(d:Bool)(S:List WK×W12):rdK (l++[d]) S=rdF d (rdK l S):=by rw[rdK,List.foldl_append];rfl
/-! ### Products -/
def gj:List W12→W12
 |[]=>K12.one
 |x::l=>K12.mul x (gj l)
theorem sf(g:WK→W6): ∀(l:List WK) (f:W12),eS g l f=K12.mul (gj (l.map fun w=>lel (g w))) f
 |[],f=>(K12.one_mul f).symm
 |w::l,f=>by
  rw[eS,sf g l,List.map_cons,gj,K12.mul_comm (lel (g w)),←K12.mul_assoc,K12.mul_comm (K12.mul _ f),←K12.mul_assoc]
theorem lW(g h:WK→W12): ∀l:List WK,gj (l.map fun w=>K12.mul (g w) (h w))=K12.mul (gj (l.map g)) (gj (l.map h))
 |[]=>(K12.one_mul _).symm
 |w::l=>by rw[List.map_cons,gj,lW g h l,K12.mul_four];rfl
def Up6(a b:W12):Prop:= ∃c:W6,c≠K6.zero∧a=K12.mul (r6 c) b
theorem Up6.refl(a:W12):Up6 a a:=⟨K6.one,by decide+kernel,by rw[FU,K12.one_mul]⟩
theorem ne6{a b:W6}(ha:a≠K6.zero)(hb:b≠K6.zero):K6.mul a b≠K6.zero:=fun e=>(fd6.two e).elim ha hb
theorem Up6.mul{a b c d:W12}(h:Up6 a b)(k:Up6 c d):Up6 (K12.mul a c) (K12.mul b d):=by
 obtain ⟨x,hx,rfl⟩:=h
 obtain ⟨y,hy,rfl⟩:=k
 exact ⟨K6.mul x y,ne6 hx hy,by rw[K12.mul_four,Dh]⟩
theorem Up6.cj{a b:W12}(h:Up6 a b):Up6 (cb a) (cb b):=by
 obtain ⟨x,hx,rfl⟩:=h
 exact ⟨x,hx,by rw[iD];exact congrArg (fun y=>K12.mul y _) (Prod.ext rfl K6.neg_zero)⟩
theorem Up6.pr{g h:WK→W12}: ∀{l:List WK},(∀w∈l,Up6 (g w) (h w))→Up6 (gj (l.map g)) (gj (l.map h))
 |[],_=>Up6.refl _
 |w::_,k=>(k w List.mem_cons_self).mul (Up6.pr fun v hv=>k v (List.mem_cons_of_mem _ hv))
theorem Up6.fn{e:Nat}(h6:e % (PP^6-1)=0){a b:W12}(h:Up6 a b):FN e a=FN e b:=by
 obtain ⟨x,hx,rfl⟩:=h
 rw[qf,xJ h6 hx,K12.one_mul]
theorem Up6.ne{a b:W12}(h:Up6 a b)(hb:b≠K12.zero):a≠K12.zero:=by
 obtain ⟨x,hx,rfl⟩:=h
 exact fun e=>(fd12.two e).elim (fun e=>hx (Dg e)) hb
/-! ### One round -/
theorem hrO{d:Nat}(h0:0<d)(h1:d<ORD): ∃e,(d*e) % ORD=1:=oy mN h0 h1
theorem tL{q:W2×W2}(hq:E2w.on q)(qr:E2w.times (some q) ORD=none){m:Nat}(h0:0<m)(h1:m<ORD):E2w.times (some q) m≠none:=fun e=>by
 have k:=E2w.times_inj (Q:=some q) hq (fun d=>hrO) qr (fun e=>by cases e) (m:=m) (n:=0) h1 om e
 omega
structure WOk(w:WK)(m:Nat):Prop where
 on:E2w.on w.2.1
 qr:E2w.times (some w.2.1) ORD=none
 jr:E2w.jr w.2.2 (E2w.times (some w.2.1) m)
theorem mc{α:Type}{P:Option α}(h:P≠none): ∃a,P=some a:=by
 cases P with
 |none=>exact absurd rfl h
 |some a=>exact ⟨a,rfl⟩
theorem VG{a:W2×W2}{s:W2}(h:E2w.Sl a a s):E2w.R.mul s (E2w.R.add a.2 a.2)=E2w.t3 a.1:=h.2
theorem y3(L:W2×W2×W2)(p:Zp×Zp):lel (LNR L p)=LNE L p:=rfl
theorem WOk.dbl{w:WK}{m:Nat}(h:WOk w m)(h0:0<m)(h1:2*m<ORD):WOk (wDb w) (2*m)∧Up6 (lel (rDb w)) (LG (E2w.times (some w.2.1) m) (E2w.times (some w.2.1) m) w.1):=by
 have hon:E2w.onP (E2w.times (some w.2.1) m):=E2w.times_on (P:=some w.2.1) h.on m
 refine ⟨⟨h.on,h.qr, ?_⟩, ?_⟩
 ·show E2w.jr (E2w.wdJ w.2.2) (E2w.times (some w.2.1) (2*m))
  rw[←E2w.dbl_times (P:=some w.2.1) h.on]
  exact E2w.wdJ_jr hon h.jr
 ·obtain ⟨a,ha⟩:=mc (tL h.on h.qr h0 om)
  have hj:=h.jr
  rw[ha]at hj hon⊢
  have ho: ¬E2w.opp a a:=fun o=>tL h.on h.qr (m:=2*m) om h1 (by rw[←E2w.dbl_times (P:=some w.2.1) h.on,ha];exact E2w.ad_opp o)
  have hy:a.2≠ze2:=fun e=>ho ⟨rfl,by rw[e];exact R2.add_zero _⟩
  have hs:=E2w.sl_slope hon hon ho
  rw[rDb,y3,F2 (E2w.wdL_ln hj (VG hs)),CV hon hon ho hs]
  exact ⟨_,fun e=>E2w.wdL_ne hj hy (congrArg Prod.fst e),rfl⟩
theorem WOk.jn{w:WK}{m:Nat}(h:WOk w m)(h0:1<m)(h1:m+1<ORD):WOk (wJn w) (m+1)∧Up6 (lel (rJn w)) (LG (E2w.times (some w.2.1) m) (some w.2.1) w.1):=by
 have hon:E2w.onP (E2w.times (some w.2.1) m):=E2w.times_on (P:=some w.2.1) h.on m
 obtain ⟨a,ha⟩:=mc (tL h.on h.qr (m:=m) om om)
 have hj:=h.jr
 rw[ha]at hj hon
 have hz: ¬w.2.2.2.2=ze2:=hj.1
 have ho: ¬E2w.opp a w.2.1:=fun o=>tL h.on h.qr (m:=m+1) om h1 (by
  show E2w.ad (E2w.times (some w.2.1) m) (some w.2.1)=none
  rw[ha];exact E2w.ad_opp o)
 have hx:a.1≠w.2.1.1:=fun hx=>by
  by_cases hy:a.2=w.2.1.2
  ·have e:E2w.times (some w.2.1) m=E2w.times (some w.2.1) 1:=by rw[ha,tm1];exact congrArg some (Prod.ext hx hy)
   have:=E2w.times_inj (Q:=some w.2.1) h.on (fun d=>hrO) h.qr (fun e=>by cases e) (m:=m) (n:=1) om om e
   omega
  ·obtain ⟨s,hs⟩:=E2w.sl_is hon h.on ho
   have e:=hs.1
   rw[hx,E2w.sub_self]at e
   exact hy (E2w.sub0 (e.symm.trans (show E2w.R.mul s E2w.R.zero=E2w.R.zero from E2w.R.mul_zero s)))
 have hs:=E2w.sl_slope hon h.on ho
 refine ⟨?_, ?_⟩
 ·rw[show wJn w=(w.1,w.2.1,E2w.wjJ w.2.2 w.2.1)from if_neg hz]
  refine ⟨h.on,h.qr, ?_⟩
  show E2w.jr (E2w.wjJ w.2.2 w.2.1) (E2w.ad (E2w.times (some w.2.1) m) (some w.2.1))
  rw[ha]
  exact E2w.wjJ_jr EI hon h.on hj hx
 ·rw[show rJn w=LNR (E2w.wjL w.2.2 w.2.1) w.1 from if_neg hz,y3,F2 (E2w.wjL_ln hj hs.1),ha,CV hon h.on ho hs]
  exact ⟨_,fun e=>E2w.wjL_ne hj hx (congrArg Prod.fst e),rfl⟩
/-! ### All rounds -/
def MV(l:List Bool)(w:WK):W12×Pt W2:=MLW w.1 (some w.2.1) l (K12.one,some w.2.1)
theorem sM(q:Zp×Zp)(Q:Pt W2)(d:Bool): ∀(l:List Bool) (st:W12×Pt W2),MLW q Q (l++[d]) st=MSW q Q d (MLW q Q l st)
 |[],_=>rfl
 |e::l,st=>sM q Q d l (MSW q Q e st)
theorem iR(d:Bool): ∀(l:List Bool) (n:Nat),bS (l++[d]) n=2*bS l n+d.toNat
 |[],n=>by cases d<;>rfl
 |e::l,n=>by rw[List.cons_append,kA,kA];exact iR d l _
theorem kv{w v:WK}(h1:v.1=w.1)(h2:v.2.1=w.2.1)(l:List Bool):MV l v=MV l w:=by rw[MV,MV,h1,h2]
theorem Ch(w:WK):(wJn w).1=w.1:=by unfold wJn;split<;>rfl
theorem xI(w:WK):(wJn w).2.1=w.2.1:=by unfold wJn;split<;>rfl
structure RdOk(l:List Bool)(S:List WK×W12):Prop where
 w: ∀w∈S.1,WOk w (bS l 1)∧(MV l w).2=E2w.times (some w.2.1) (bS l 1)
 f:Up6 S.2 (gj (S.1.map fun w=>(MV l w).1))
theorem RdOk.step{l:List Bool}{S:List WK×W12}(h:RdOk l S)(d:Bool)(h0:0<bS l 1)(h1:2*bS l 1+1<ORD):RdOk (l++[d]) (rdF d S):=by
 have k1: ∀w∈S.1,WOk (wDb w) (2*bS l 1)∧Up6 (lel (rDb w)) (LG (MV l w).2 (MV l w).2 w.1):=fun w hw=>by
  have e:=(h.w w hw).1.dbl h0 om
  rw[(h.w w hw).2];exact e
 have m1: ∀w∈S.1,(MV (l++[false]) w)=(K12.mul (K12.mul (MV l w).1 (MV l w).1) (LG (MV l w).2 (MV l w).2 w.1),E2w.ad (MV l w).2 (MV l w).2):=fun w _=>sM _ _ _ _ _
 have f1:Up6 (eS rDb S.1 (K12.mul S.2 S.2)) (gj (S.1.map fun w=>K12.mul (K12.mul (MV l w).1 (MV l w).1) (LG (MV l w).2 (MV l w).2 w.1))):=by
  rw[sf,K12.mul_comm,lW (fun w=>K12.mul (MV l w).1 (MV l w).1),lW]
  exact (h.f.mul h.f).mul (Up6.pr fun w hw=>(k1 w hw).2)
 cases d with
 |false=>
  refine ⟨fun w hw=> ?_, ?_⟩
  ·obtain ⟨v,hv,rfl⟩:=List.mem_map.1 hw
   rw[iR]
   refine ⟨(k1 v hv).1, ?_⟩
   rw[kv (v:=wDb v) (w:=v) rfl rfl,m1 v hv]
   show E2w.ad (MV l v).2 (MV l v).2=_
   rw[(h.w v hv).2]
   exact E2w.dbl_times (P:=some v.2.1) (h.w v hv).1.on _
  ·have e:(S.1.map wDb).map (fun w=>(MV (l++[false]) w).1)=S.1.map fun w=>K12.mul (K12.mul (MV l w).1 (MV l w).1) (LG (MV l w).2 (MV l w).2 w.1):=by
    rw[List.map_map]
    exact List.map_congr_left fun w hw=>show (MV (l++[false]) (wDb w)).1=_ from by rw[kv (v:=wDb w) (w:=w) rfl rfl,m1 w hw]
   show Up6 (eS rDb S.1 (K12.mul S.2 S.2)) (gj ((S.1.map wDb).map (fun w=>(MV (l++[false]) w).1)))
   rw[e];exact f1
 |true=>
  have ed: ∀w∈S.1,E2w.ad (MV l w).2 (MV l w).2=E2w.times (some w.2.1) (2*bS l 1):=fun w hw=>by
   rw[(h.w w hw).2]
   exact E2w.dbl_times (P:=some w.2.1) (h.w w hw).1.on _
  have m2: ∀w∈S.1,(MV (l++[true]) w)=(K12.mul (K12.mul (K12.mul (MV l w).1 (MV l w).1) (LG (MV l w).2 (MV l w).2 w.1)) (LG (E2w.times (some w.2.1) (2*bS l 1)) (some w.2.1) w.1),E2w.ad (E2w.times (some w.2.1) (2*bS l 1)) (some w.2.1)):=fun w hw=>by
   rw[←ed w hw];exact sM _ _ _ _ _
  have k2: ∀w∈S.1,WOk (wJn (wDb w)) (2*bS l 1+1)∧Up6 (lel (rJn (wDb w))) (LG (E2w.times (some w.2.1) (2*bS l 1)) (some w.2.1) w.1):=fun w hw=>(k1 w hw).1.jn om om
  refine ⟨fun w hw=> ?_, ?_⟩
  ·obtain ⟨u,hu,rfl⟩:=List.mem_map.1 (show w∈(S.1.map wDb).map wJn from hw)
   obtain ⟨v,hv,rfl⟩:=List.mem_map.1 hu
   rw[iR]
   refine ⟨(k2 v hv).1, ?_⟩
   rw[kv (v:=wJn (wDb v)) (w:=v) (Ch _) (xI _),m2 v hv,show (wJn (wDb v)).2.1=v.2.1 from xI _]
   rfl
  ·have e:((S.1.map wDb).map wJn).map (fun w=>(MV (l++[true]) w).1)=S.1.map fun w=>K12.mul (K12.mul (K12.mul (MV l w).1 (MV l w).1) (LG (MV l w).2 (MV l w).2 w.1)) (LG (E2w.times (some w.2.1) (2*bS l 1)) (some w.2.1) w.1):=by
    rw[List.map_map,List.map_map]
    exact List.map_congr_left fun w hw=>show (MV (l++[true]) (wJn (wDb w))).1=_ from by rw[kv (v:=wJn (wDb w)) (w:=w) (Ch _) (xI _),m2 w hw]
   show Up6 (eS rJn (S.1.map wDb) (eS rDb S.1 (K12.mul S.2 S.2))) (gj (((S.1.map wDb).map wJn).map (fun w=>(MV (l++[true]) w).1)))
   rw[e,sf,K12.mul_comm,lW (fun w=>K12.mul (K12.mul (MV l w).1 (MV l w).1) (LG (MV l w).2 (MV l w).2 w.1)),List.map_map]
   exact f1.mul (Up6.pr fun w hw=>(k2 w hw).2)
theorem pd: ∀(l:List Bool) (n:Nat),bS l n<(n+1)*2^l.length
 |[],n=>by show n<(n+1)*1;omega
 |d::l,n=>by
  rw[kA,List.length_cons,Nat.pow_succ]
  refine Nat.lt_of_lt_of_le (pd l _) ?_
  rw[Nat.mul_comm (2^l.length) 2,←Nat.mul_assoc]
  exact Nat.mul_le_mul_right _ (by cases d<;>simp[Bool.toNat]<;>omega)
theorem mx: ∀(l:List Bool) (n:Nat),0<n→0<bS l n
 |[],n,h=>h
 |d::l,n,h=>by rw[kA];exact mx l _ om
theorem RdOk.all{S:List WK×W12}(h:RdOk [] S): ∀(n:Nat) (l:List Bool),l.length=n→n≤63→RdOk l (rdK l S)
 |0,l,hl,_=>by obtain rfl:=List.length_eq_zero_iff.1 hl;exact h
 |n+1,l,hl,hn=>by
  obtain ⟨r,d,rfl⟩: ∃r d,l=r++[d]:=⟨l.dropLast,l.getLast (fun e=>by rw[e]at hl;cases hl),(List.dropLast_concat_getLast _).symm⟩
  have hr:r.length=n:=by rw[List.length_append]at hl;simpa using hl
  rw[yG]
  refine (RdOk.all h n r hr om).step d (mx r 1 Nat.one_pos) ?_
  have h1:=pd r 1
  have h2:2^r.length≤2^62:=Nat.pow_le_pow_right om om
  have h3:4*2^62+1<ORD:=by decide+kernel
  omega
def wkB(p:Zp×Zp)(q:W2×W2):WK:=(p,q,(q.1,q.2,on2))
theorem oe: ∀l:List WK,gj (l.map fun _=>K12.one)=K12.one
 |[]=>rfl
 |_::l=>by rw[List.map_cons,gj,oe l,K12.one_mul]
theorem ID(W:List WK)(hW: ∀w∈W,w=wkB w.1 w.2.1∧E2w.on w.2.1∧E2w.times (some w.2.1) ORD=none):Up6 (cb (rdK L63 (W,K12.one)).2) (cb (gj (W.map fun w=>MLv L63 (some w.1) (some w.2.1)))):=by
 have h0:RdOk [] (W,K12.one):=⟨fun w hw=>by
  obtain ⟨e,h1,h2⟩:=hW w hw
  refine ⟨⟨h1,h2, ?_⟩,rfl⟩
  show E2w.jr w.2.2 (E2w.times (some w.2.1) 1)
  rw[tm1,e]
  exact mz w.2.1,by
  show Up6 K12.one (gj (W.map fun _=>K12.one))
  rw[oe];exact Up6.refl _⟩
 have h:=h0.all 63 L63 (by decide+kernel) (Nat.le_refl _)
 have e1: ∀(l:List Bool) (S:List WK×W12),(rdK l S).1.map (fun w=>(MV L63 w).1)=S.1.map (fun w=>(MV L63 w).1):=by
  intro l
  induction l with
  |nil=>intro S;rfl
  |cons d l ih=>
   intro S
   refine (ih (rdF d S)).trans ?_
   cases d with
   |false=>
    show (S.1.map wDb).map _=_
    rw[List.map_map]
    exact List.map_congr_left fun w _=>show (MV L63 (wDb w)).1=_ from by rw[kv (v:=wDb w) (w:=w) rfl rfl]
   |true=>
    show ((S.1.map wDb).map wJn).map _=_
    rw[List.map_map,List.map_map]
    exact List.map_congr_left fun w _=>show (MV L63 (wJn (wDb w))).1=_ from by rw[kv (v:=wJn (wDb w)) (w:=w) (Ch _) (xI _)]
 have hf:=h.f
 rw[e1]at hf
 refine Up6.cj ?_
 rw[show (W.map fun w=>MLv L63 (some w.1) (some w.2.1))=W.map (fun w=>(MV L63 w).1)from List.map_congr_left fun w hw=>Q2 L63 w.1 (Q:=some w.2.1) (hW w hw).2.1]
 exact hf
end
section
open Go.RowKit
attribute [local simp] aV ba aT aO aD bd aK aJ aA PLl cv cw N1l cu cr cq a7 bc aP aZ a9 J1.bi J2.bi
theorem ent178:ai prog 178:=fun _ _=>kr
theorem ent246:ai prog 246:=fun _ _=>kr
theorem ent247:ai prog 247:=fun _ _=>kr
theorem ent213:ai prog 213:=fun _ _=>kr
theorem ent216:ai prog 216:=fun _ _=>kr
theorem ent217:ai prog 217:=fun _ _=>kr
theorem ent218:ai prog 218:=fun _ _=>kr
theorem ent248:ai prog 248:=fun _ _=>kr
theorem ent240:ai prog 240:=fun _ _=>kr
namespace Q6
def TO201:Tb prog Gt:=J2.TO68.add (yV (g:=K6.one) ent221 Jv)
def TO202:Tb prog Gt:=TO201.add (oI (g:=fun x y=>decide (x=y)) ent220 n7)
def TO203:Tb prog Gt:=TO202.add (cz (g:=K6.add) ent243 m4)
def TO204:Tb prog Gt:=TO203.add (cz (g:=sb6) ent245 p9)
def TO205:Tb prog Gt:=TO204.add (cF (g:=K6.neg) ent250 BD)
def TO206:Tb prog Gt:=TO205.add (cz (g:=K6.mul) ent242 lR)
def TO207:Tb prog Gt:=TO206.add (cF (g:=fun x=>K6.mul x x) ent276 ll)
theorem nI{f:Nat}{g:W6→W2→W6}(en:ai prog f)(h: ∀a b,PUR f [EV6 a,EV2 b] (EV6 (g a b))):Snd prog Gt f (c2 q6.ag q2.ag q6.rd g):=fW q6.ag q2.ag q6.rd en (fun a b=>bN (l2 (V6 _).symm rfl) (V6 _).symm (h a b))
def TO208:Tb prog Gt:=TO207.add (nI (g:=sc6) ent249 zv)
def TO209:Tb prog Gt:=TO208.add (cF (g:=v6) ent244 k6v)
def TO210:Tb prog Gt:=TO209.add (cF (g:=oth) ent292 pN)
def TO211:Tb prog Gt:=TO210.add (cF (g:=iv6) ent277 EM)
def TO212:Tb prog Gt:=TO211.add (E6 (g:=K12.one) ent180 pH)
def TO213:Tb prog Gt:=TO212.add (iH (g:=fun x y=>decide (x=y)) ent179 pS)
def TO215:Tb prog Gt:=TO213.add (cG (g:=cb) ent219 nN)
def TO216:Tb prog Gt:=TO215.add (gH (g:=K12.mul) ent236 vq)
def TO217:Tb prog Gt:=TO216.add (cG (g:=fun x=>K12.mul x x) ent215 iG)
def TO218:Tb prog Gt:=TO217.add (cG (g:=iA) ent238 BQ)
def XY3(x:W6):W2×W2×Bool:=if x.2.2=ze2 then (ze2,ze2,false)else (ml2 x.1 (ml2 (iv2 x.2.2) (iv2 x.2.2)),ml2 x.2.1 (ml2 (ml2 (iv2 x.2.2) (iv2 x.2.2)) (iv2 x.2.2)),true)
theorem xy3(x:W6):PUR 96 [EV6 x] (.tuple #[EV2 (XY3 x).1,EV2 (XY3 x).2.1,.bool (XY3 x).2.2]):=by
 by_cases h:x.2.2=ze2
 ·rw[show XY3 x=(ze2,ze2,false)from if_pos h];exact J2.zJ x h
 ·rw[show XY3 x=_ from if_neg h];exact J2.xm x h
theorem sN{f:Nat}{g:W6→W2×W2×Bool}(en:ai prog f)(h: ∀a,PUR f [EV6 a] (.tuple #[EV2 (g a).1,EV2 (g a).2.1,.bool (g a).2.2])):Snd prog Gt f (c1 q6.ag q2.rdBB g):=f7 q6.ag q2.rdBB en (fun a=>bN (l1 (V6 _).symm) rfl (h a))
def TO219:Tb prog Gt:=TO218.add (sN (g:=XY3) ent96 xy3)
def TG2(x y:W2):W2×W2:=(ad2 (ad2 (ml2 x x) (ml2 x x)) (ml2 x x),ad2 y y)
theorem mtan(x y:W2):PUR 246 [EV2 x,EV2 y] (.tuple #[EV2 (TG2 x y).1,EV2 (TG2 x y).2]):=pE TO219 func246 [.inl [x.1,x.2],.inl [y.1,y.2]] (.inr [.inl [((TG2 x y).1).1,((TG2 x y).1).2],.inl [((TG2 x y).2).1,((TG2 x y).2).2]]) (let t0:=ml2 x x;let t1:=ad2 (t0.1,t0.2) (t0.1,t0.2);let t2:=ad2 (t1.1,t1.2) (t0.1,t0.2);let t3:=ad2 y y;(.inr [.inl [t2.1,t2.2],.inl [t3.1,t3.2]],[])) [] kr aI rfl
theorem mu{f:Nat}{g:W2→W2→W2×W2}(en:ai prog f)(h: ∀a b,PUR f [EV2 a,EV2 b] (.tuple #[EV2 (g a b).1,EV2 (g a b).2])):Snd prog Gt f (c2 q2.ag q2.ag q2.rd2 g):=fW q2.ag q2.ag q2.rd2 en h
def TO220:Tb prog Gt:=TO219.add (mu (g:=TG2) ent246 mtan)
def LR5(p q:Zp)(a b c:W2):W6:=(a,ng2 (sc2 b p),sc2 c q)
theorem Gy(p q:Zp)(a b c:W2):PUR 247 [EV p,EV q,EV2 a,EV2 b,EV2 c] (EV6 (LR5 p q a b c)):=(bN rfl (V6 _) (pE TO220 func247 [.inl [p],.inl [q],.inl [a.1,a.2],.inl [b.1,b.2],.inl [c.1,c.2]] (.inl (.inl [(LR5 p q a b c).1.1,(LR5 p q a b c).1.2,(LR5 p q a b c).2.1.1,(LR5 p q a b c).2.1.2,(LR5 p q a b c).2.2.1,(LR5 p q a b c).2.2.2])) (let t0:=sc2 b p;let t1:=ng2 (t0.1,t0.2);let t2:=sc2 c q;(.inl (.inl [a.1,a.2,t1.1,t1.2,t2.1,t2.2]),[])) [] kr aI rfl))
theorem fN{f:Nat}{g:Zp→Zp→W2→W2→W2→W6}(en:ai prog f)(h: ∀a b c d e,PUR f [EV a,EV b,EV2 c,EV2 d,EV2 e] (EV6 (g a b c d e))):Snd prog Gt f (c5 q1.ag q1.ag q2.ag q2.ag q2.ag q6.rd g):=Ty q1.ag q1.ag q2.ag q2.ag q2.ag q6.rd en (fun a b c d e=>bN rfl (V6 _).symm (h a b c d e))
def TO221:Tb prog Gt:=TO220.add (fN (g:=LR5) ent247 Gy)
def SHT(a:W6)(b c:W2):W6:=(ad2 (ml2 a.1 b) (xi2 (ml2 a.2.2 c)),E2w.sub (E2w.sub (ml2 (ad2 a.1 a.2.1) (ad2 b c)) (ml2 a.1 b)) (ml2 a.2.1 c),ad2 (ml2 a.2.1 c) (ml2 a.2.2 b))
theorem MC(a:W6)(b c:W2):PUR 248 [EV6 a,EV2 b,EV2 c] (EV6 (SHT a b c)):=(bN (l3 (V6 _) rfl rfl) (V6 _) (pE TO221 func248 [.inl [a.1.1,a.1.2,a.2.1.1,a.2.1.2,a.2.2.1,a.2.2.2],.inl [b.1,b.2],.inl [c.1,c.2]] (.inl (.inl [(SHT a b c).1.1,(SHT a b c).1.2,(SHT a b c).2.1.1,(SHT a b c).2.1.2,(SHT a b c).2.2.1,(SHT a b c).2.2.2])) (let t0:=ml2 (a.1.1,a.1.2) b;let t1:=ml2 (a.2.1.1,a.2.1.2) c;let t2:=ad2 (a.1.1,a.1.2) (a.2.1.1,a.2.1.2);let t3:=ad2 b c;let t4:=ml2 (t2.1,t2.2) (t3.1,t3.2);let t5:=E2w.sub (t4.1,t4.2) (t0.1,t0.2);let t6:=E2w.sub (t5.1,t5.2) (t1.1,t1.2);let t7:=ml2 (a.2.2.1,a.2.2.2) c;let t8:=xi2 (t7.1,t7.2);let t9:=ad2 (t0.1,t0.2) (t8.1,t8.2);let t10:=ml2 (a.2.2.1,a.2.2.2) b;let t11:=ad2 (t1.1,t1.2) (t10.1,t10.2);(.inl (.inl [t9.1,t9.2,t6.1,t6.2,t11.1,t11.2]),[])) [] kr aI rfl))
theorem jE{f:Nat}{g:W6→W2→W2→W6}(en:ai prog f)(h: ∀a b c,PUR f [EV6 a,EV2 b,EV2 c] (EV6 (g a b c))):Snd prog Gt f (c3 q6.ag q2.ag q2.ag q6.rd g):=S6 q6.ag q2.ag q2.ag q6.rd en (fun a b c=>bN (l3 (V6 _).symm rfl rfl) (V6 _).symm (h a b c))
def TO222:Tb prog Gt:=TO221.add (jE (g:=SHT) ent248 MC)
end Q6
end
end Go.Proofs.YtfgacclgjklgnaaGreatDoor
