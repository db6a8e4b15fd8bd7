/- L2 -/
import Derived.Test.YtfakhlafilbjkaaGreatDoorL1
set_option maxRecDepth 100000
set_option maxHeartbeats 1000000
namespace Go.Proofs.YtfakhlafilbjkaaGreatDoor
open Go.Proofs.Tryz
section
open Go.RowKit
attribute [local simp] cG iU jE mq gu fE eJ oM cP oF n5 rL
def CDB(p:LW):LW:=
 let x:=p.take 12
 let y:=(p.drop 12).take 12
 let a:=EMU x x
 let b:=EMU y y
 let s1:=EMU x b
 let s2:=EAD s1 s1
 let s:=EAD s2 s2
 let m:=EAD (EAD a a) a
 let x3:=ESB (ESB (EMU m m) s) s
 let c1:=EMU b b
 let c2:=EAD c1 c1
 let c4:=EAD c2 c2
 let c:=EAD c4 c4
 let z:=EMU y (p.drop 24)
 x3++(ESB (EMU m (ESB s x3)) c++EAD z z)
def CDL(p:LW):LW:=if EZ (p.drop 24)then ((List.replicate 12 (0#64))++((List.replicate 12 (0#64))++(List.replicate 12 (0#64))))else if EZ ((p.drop 12).take 12)then ((List.replicate 12 (0#64))++((List.replicate 12 (0#64))++(List.replicate 12 (0#64))))else CDB p
theorem Du(p:LW):(CDB p).length=36:=by simp[CDB]
theorem j5(p:LW):(CDL p).length=36:=by
 unfold CDL;split
 ·simp
 split
 ·simp
 ·exact Du p
def ADh(p q:LW):LW:=ESB (EMU (q.take 12) (EMU (p.drop 24) (p.drop 24))) (EMU (p.take 12) (EMU (q.drop 24) (q.drop 24)))
def ADr(p q:LW):LW:=ESB (EMU (EMU ((q.drop 12).take 12) (EMU (p.drop 24) (p.drop 24))) (p.drop 24)) (EMU (EMU ((p.drop 12).take 12) (EMU (q.drop 24) (q.drop 24))) (q.drop 24))
def CAG(p q:LW):LW:=
 let qz:=EMU (q.drop 24) (q.drop 24)
 let u:=EMU (p.take 12) qz
 let s:=EMU (EMU ((p.drop 12).take 12) qz) (q.drop 24)
 let h:=ADh p q
 let r:=ADr p q
 let h2:=EMU h h
 let h3:=EMU h2 h
 let w:=EMU u h2
 let x:=ESB (ESB (ESB (EMU r r) h3) w) w
 x++(ESB (EMU r (ESB w x)) (EMU s h3)++EMU (EMU (p.drop 24) (q.drop 24)) h)
def CAD(p q:LW):LW:=if EZ (p.drop 24)then q else if EZ (q.drop 24)then p else if EZ (ADh p q)then (if EZ (ADr p q)then CDL p else ((List.replicate 12 (0#64))++((List.replicate 12 (0#64))++(List.replicate 12 (0#64)))))else CAG p q
theorem D8(p q:LW):(CAG p q).length=36:=by simp[CAG]
theorem oC(p q:LW)(hp:p.length=36)(hq:q.length=36):(CAD p q).length=36:=by
 unfold CAD;split
 ·exact hq
 split
 ·exact hp
 split
 ·split
  ·exact j5 p
  ·simp
 ·exact D8 p q
attribute [local simp] j5 oC
theorem jj(p:LW)(hp:p.length=36):PUR 102 [bj (p)] (.bool (EZ (p.drop 24))):=by
 intro w hw;refine Hf func102 O hw<|λhGF=>Xp<|Bx 1 hGF O<|λb1=>Asg O<|aa<|Xp<|Fa 24 O underlying130 O sizeOf128<|az (cs:=((p.drop 24)).map U64) O isAgg128 sizeOf128 (by simp[hp]) (λw' hw' j v hv=>by have:=(av (n:=1) O w' hw') _ v (pcB j v hv);rwa [Nat.zero_add]at this) O O<|Ca O (lK ((p.drop 24)) (by simp[hp]))<|Asg O<|aa<|ao<|Rr<|?_
 exact ar O O (λw' hw'=>⟨rfl,ae hw'⟩)
theorem y8(p:LW)(hp:p.length=36):PUR 109 [bj (p)] (bj (CDL p)):=by
 intro w hw;refine Hf func109 O hw<|λhGF=>Xp<|Bx 1 hGF O<|λb1=>Al 2 hGF nc<|λb2=>aa<|ah<|Xp<|aq 1 O O isAgg130 sizeOf130 (by simp[hp]) O O<|?_
 rcases Bool.eq_false_or_eq_true (EZ (p.drop 24))with h1|h1
 ·refine Cbl true O ent102 (jj (p) (by simp[hp])) (h1)<|Mv O<|Sk<|Sk<|Sk<|Pk O O O<|aa<|aQ O<|Xp<|gR iR O O<|Sa 2 hGF O O O xb<|aa<|ao<|Rr<|?_
  exact aF 2 O O O isAgg130 sizeOf130 aB (λw' hw'=>⟨by rw[CDL,if_pos h1],ae hw'⟩)
 ·refine Cbl false O ent102 (jj (p) (by simp[hp])) (h1)<|Mv O<|Fa 12 O underlying130 O sizeOf128<|az (cs:=(((p.drop 12).take 12)).map U64) O isAgg128 sizeOf128 (by simp[hp]) (λw' hw' j v hv=>by have:=(av (n:=1) O w' hw') _ v (pcM j v hv);rwa [Nat.zero_add]at this) O O<|?_
  rcases Bool.eq_false_or_eq_true (EZ ((p.drop 12).take 12))with h2|h2
  ·refine Cbl true O ent135 (lK (((p.drop 12).take 12)) (by simp[hp])) (h2)<|Pk O O O<|aa<|aQ O<|Xp<|gR iR O O<|Sa 2 hGF O O O xb<|aa<|ao<|Rr<|?_
   exact aF 2 O O O isAgg130 sizeOf130 aB (λw' hw'=>⟨by rw[CDL,h1,if_neg Bool.false_ne_true,if_pos h2],ae hw'⟩)
  ·refine Cbl false O ent135 (lK (((p.drop 12).take 12)) (by simp[hp])) (h2)<|Pk O O O<|aa<|aH O<|aw<|Xp<|Fa 0 O underlying130 O sizeOf128<|az (cs:=((p.take 12)).map U64) O isAgg128 sizeOf128 (by simp[hp]) (λw' hw' j v hv=>by have:=(av (n:=1) O w' hw') _ v (pcA j v hv);rwa [Nat.zero_add]at this) O O<|Fa 0 O underlying130 O sizeOf128<|az (cs:=((p.take 12)).map U64) O isAgg128 sizeOf128 (by simp[hp]) (λw' hw' j v hv=>by have:=(av (n:=1) O w' hw') _ v (pcA j v hv);rwa [Nat.zero_add]at this) O O<|Ca O (dr ((p.take 12)) ((p.take 12)) (by simp[hp]) (by simp[hp]))<|?_
   obtain ⟨r22,e22⟩: ∃x,x=(EMU (p.take 12) (p.take 12)):=⟨_,rfl⟩;rw[<-e22];have hr22:r22.length=12:=by rw[e22];exact cP _ _
   refine Al 3 hGF dn<|λb3=>ai 3 hGF O O O sizeOf128 (by simp[hr22]) aB (be _) O<|aa<|Xp<|Fa 12 O underlying130 O sizeOf128<|az (cs:=(((p.drop 12).take 12)).map U64) O isAgg128 sizeOf128 (by simp[hp]) (λw' hw' j v hv=>by have:=(av (n:=1) O w' hw') _ v (pcM j v hv);rwa [Nat.zero_add]at this) O O<|Fa 12 O underlying130 O sizeOf128<|az (cs:=(((p.drop 12).take 12)).map U64) O isAgg128 sizeOf128 (by simp[hp]) (λw' hw' j v hv=>by have:=(av (n:=1) O w' hw') _ v (pcM j v hv);rwa [Nat.zero_add]at this) O O<|Ca O (dr (((p.drop 12).take 12)) (((p.drop 12).take 12)) (by simp[hp]) (by simp[hp]))<|?_
   obtain ⟨r27,e27⟩: ∃x,x=(EMU ((p.drop 12).take 12) ((p.drop 12).take 12)):=⟨_,rfl⟩;rw[<-e27];have hr27:r27.length=12:=by rw[e27];exact cP _ _
   refine Al 4 hGF dn<|λb4=>ai 4 hGF O O O sizeOf128 (by simp[hr27]) aB (be _) O<|aa<|Xp<|Fa 0 O underlying130 O sizeOf128<|az (cs:=((p.take 12)).map U64) O isAgg128 sizeOf128 (by simp[hp]) (λw' hw' j v hv=>by have:=(av (n:=1) O w' hw') _ v (pcA j v hv);rwa [Nat.zero_add]at this) O O<|aq 4 O O isAgg128 sizeOf128 (by simp[hr27]) O O<|Ca O (dr ((p.take 12)) (r27) (by simp[hp]) (by simp[hr27]))<|?_
   obtain ⟨r31,e31⟩: ∃x,x=(EMU (p.take 12) r27):=⟨_,rfl⟩;rw[<-e31];have hr31:r31.length=12:=by rw[e31];exact cP _ _
   refine Al 5 hGF dn<|λb5=>ai 5 hGF O O O sizeOf128 (by simp[hr31]) aB (be _) O<|aa<|Xp<|aq 5 O O isAgg128 sizeOf128 (by simp[hr31]) O O<|aq 5 O O isAgg128 sizeOf128 (by simp[hr31]) O O<|Ca O (kF (r31) (r31) (by simp[hr31]) (by simp[hr31]))<|?_
   obtain ⟨r34,e34⟩: ∃x,x=(EAD r31 r31):=⟨_,rfl⟩;rw[<-e34];have hr34:r34.length=12:=by rw[e34];exact fE _ _
   refine ai 5 hGF O O O sizeOf128 (by simp[hr34]) (by simp[hr31]) (be _) O<|aa<|Xp<|aq 5 O O isAgg128 sizeOf128 (by simp[hr34]) O O<|aq 5 O O isAgg128 sizeOf128 (by simp[hr34]) O O<|Ca O (kF (r34) (r34) (by simp[hr34]) (by simp[hr34]))<|?_
   obtain ⟨r37,e37⟩: ∃x,x=(EAD r34 r34):=⟨_,rfl⟩;rw[<-e37];have hr37:r37.length=12:=by rw[e37];exact fE _ _
   refine ai 5 hGF O O O sizeOf128 (by simp[hr37]) (by simp[hr34]) (be _) O<|aa<|cU (E:=EE [2999999]) [0,1,2,3,4] [⟨5,6,128,((List.replicate 6 (0#64))++(List.replicate 6 (0#64))).map U64⟩] [6] de O kr kr kr kr kr kr aC (by intro x hx;simp only[List.mem_cons,List.not_mem_nil,or_false]at hx;subst hx;exact bH O dn O)<|aq 3 O O isAgg128 sizeOf128 (by simp[hr22]) O O<|aq 3 O O isAgg128 sizeOf128 (by simp[hr22]) O O<|Ca O (kF (r22) (r22) (by simp[hr22]) (by simp[hr22]))<|?_
   obtain ⟨r40,e40⟩: ∃x,x=(EAD r22 r22):=⟨_,rfl⟩;rw[<-e40];have hr40:r40.length=12:=by rw[e40];exact fE _ _
   refine aq 3 O O isAgg128 sizeOf128 (by simp[hr22]) O O<|Ca O (kF (r40) (r22) (by simp[hr40]) (by simp[hr22]))<|?_
   obtain ⟨r42,e42⟩: ∃x,x=(EAD r40 r22):=⟨_,rfl⟩;rw[<-e42];have hr42:r42.length=12:=by rw[e42];exact fE _ _
   refine aa ?_;refine ⟨_,_,rfl,hGF,by intro x hx;simp only[List.mem_cons,List.not_mem_nil,or_false]at hx;subst hx;rfl,by intro x hx;simp only[List.mem_cons,List.not_mem_nil,or_false]at hx;subst hx;rfl,λadr8=> ?_⟩
   refine ai 6 hGF O O O sizeOf128 (by simp[hr42]) aB (be _) O<|aa<|cU (E:=EE [2999999]) [0,1,2,3,4,5,6] [⟨7,7,128,((List.replicate 6 (0#64))++(List.replicate 6 (0#64))).map U64⟩] [8] de O kr kr kr kr kr kr aC (by intro x hx;simp only[List.mem_cons,List.not_mem_nil,or_false]at hx;subst hx;exact bH O dn O)<|aq 6 O O isAgg128 sizeOf128 (by simp[hr42]) O O<|aq 6 O O isAgg128 sizeOf128 (by simp[hr42]) O O<|Ca O (dr (r42) (r42) (by simp[hr42]) (by simp[hr42]))<|?_
   obtain ⟨r45,e45⟩: ∃x,x=(EMU r42 r42):=⟨_,rfl⟩;rw[<-e45];have hr45:r45.length=12:=by rw[e45];exact cP _ _
   refine aq 5 O O isAgg128 sizeOf128 (by simp[hr37]) O O<|Ca O (i3 (r45) (r37) (by simp[hr45]) (by simp[hr37]))<|?_
   obtain ⟨r47,e47⟩: ∃x,x=(ESB r45 r37):=⟨_,rfl⟩;rw[<-e47];have hr47:r47.length=12:=by rw[e47];exact eJ _ _
   refine aq 5 O O isAgg128 sizeOf128 (by simp[hr37]) O O<|Ca O (i3 (r47) (r37) (by simp[hr47]) (by simp[hr37]))<|?_
   obtain ⟨r49,e49⟩: ∃x,x=(ESB r47 r37):=⟨_,rfl⟩;rw[<-e49];have hr49:r49.length=12:=by rw[e49];exact eJ _ _
   refine aa ?_;refine ⟨_,_,rfl,hGF,by intro x hx;simp only[List.mem_cons,List.not_mem_nil,or_false]at hx;subst hx;rfl,by intro x hx;simp only[List.mem_cons,List.not_mem_nil,or_false]at hx;subst hx;rfl,λadr9=> ?_⟩
   refine ai 7 hGF O O O sizeOf128 (by simp[hr49]) aB (be _) O<|aa<|Xp<|aq 4 O O isAgg128 sizeOf128 (by simp[hr27]) O O<|aq 4 O O isAgg128 sizeOf128 (by simp[hr27]) O O<|Ca O (dr (r27) (r27) (by simp[hr27]) (by simp[hr27]))<|?_
   obtain ⟨r52,e52⟩: ∃x,x=(EMU r27 r27):=⟨_,rfl⟩;rw[<-e52];have hr52:r52.length=12:=by rw[e52];exact cP _ _
   refine Al 8 hGF dn<|λb8=>ai 8 hGF O O O sizeOf128 (by simp[hr52]) aB (be _) O<|aa<|Xp<|aq 8 O O isAgg128 sizeOf128 (by simp[hr52]) O O<|aq 8 O O isAgg128 sizeOf128 (by simp[hr52]) O O<|Ca O (kF (r52) (r52) (by simp[hr52]) (by simp[hr52]))<|?_
   obtain ⟨r55,e55⟩: ∃x,x=(EAD r52 r52):=⟨_,rfl⟩;rw[<-e55];have hr55:r55.length=12:=by rw[e55];exact fE _ _
   refine ai 8 hGF O O O sizeOf128 (by simp[hr55]) (by simp[hr52]) (be _) O<|aa<|Xp<|aq 8 O O isAgg128 sizeOf128 (by simp[hr55]) O O<|aq 8 O O isAgg128 sizeOf128 (by simp[hr55]) O O<|Ca O (kF (r55) (r55) (by simp[hr55]) (by simp[hr55]))<|?_
   obtain ⟨r58,e58⟩: ∃x,x=(EAD r55 r55):=⟨_,rfl⟩;rw[<-e58];have hr58:r58.length=12:=by rw[e58];exact fE _ _
   refine ai 8 hGF O O O sizeOf128 (by simp[hr58]) (by simp[hr55]) (be _) O<|aa<|Xp<|aq 8 O O isAgg128 sizeOf128 (by simp[hr58]) O O<|aq 8 O O isAgg128 sizeOf128 (by simp[hr58]) O O<|Ca O (kF (r58) (r58) (by simp[hr58]) (by simp[hr58]))<|?_
   obtain ⟨r61,e61⟩: ∃x,x=(EAD r58 r58):=⟨_,rfl⟩;rw[<-e61];have hr61:r61.length=12:=by rw[e61];exact fE _ _
   refine ai 8 hGF O O O sizeOf128 (by simp[hr61]) (by simp[hr58]) (be _) O<|aa<|Xp<|Fa 12 O underlying130 O sizeOf128<|az (cs:=(((p.drop 12).take 12)).map U64) O isAgg128 sizeOf128 (by simp[hp]) (λw' hw' j v hv=>by have:=(av (n:=1) O w' hw') _ v (pcM j v hv);rwa [Nat.zero_add]at this) O O<|Fa 24 O underlying130 O sizeOf128<|az (cs:=((p.drop 24)).map U64) O isAgg128 sizeOf128 (by simp[hp]) (λw' hw' j v hv=>by have:=(av (n:=1) O w' hw') _ v (pcB j v hv);rwa [Nat.zero_add]at this) O O<|Ca O (dr (((p.drop 12).take 12)) ((p.drop 24)) (by simp[hp]) (by simp[hp]))<|?_
   obtain ⟨r66,e66⟩: ∃x,x=(EMU ((p.drop 12).take 12) (p.drop 24)):=⟨_,rfl⟩;rw[<-e66];have hr66:r66.length=12:=by rw[e66];exact cP _ _
   refine Al 9 hGF dn<|λb9=>ai 9 hGF O O O sizeOf128 (by simp[hr66]) aB (be _) O<|aa<|Xd []<|aq 7 O O isAgg128 sizeOf128 (by simp[hr49]) O O<|aq 6 O O isAgg128 sizeOf128 (by simp[hr42]) O O<|aq 5 O O isAgg128 sizeOf128 (by simp[hr37]) O O<|aq 7 O O isAgg128 sizeOf128 (by simp[hr49]) O O<|Ca O (i3 (r37) (r49) (by simp[hr37]) (by simp[hr49]))<|?_
   obtain ⟨r71,e71⟩: ∃x,x=(ESB r37 r49):=⟨_,rfl⟩;rw[<-e71];have hr71:r71.length=12:=by rw[e71];exact eJ _ _
   refine Ca O (dr (r42) (r71) (by simp[hr42]) (by simp[hr71])) ?_
   obtain ⟨r72,e72⟩: ∃x,x=(EMU r42 r71):=⟨_,rfl⟩;rw[<-e72];have hr72:r72.length=12:=by rw[e72];exact cP _ _
   refine aq 8 O O isAgg128 sizeOf128 (by simp[hr61]) O O<|Ca O (i3 (r72) (r61) (by simp[hr72]) (by simp[hr61]))<|?_
   obtain ⟨r74,e74⟩: ∃x,x=(ESB r72 r61):=⟨_,rfl⟩;rw[<-e74];have hr74:r74.length=12:=by rw[e74];exact eJ _ _
   refine aq 9 O O isAgg128 sizeOf128 (by simp[hr66]) O O<|aq 9 O O isAgg128 sizeOf128 (by simp[hr66]) O O<|Ca O (kF (r66) (r66) (by simp[hr66]) (by simp[hr66]))<|?_
   obtain ⟨r77,e77⟩: ∃x,x=(EAD r66 r66):=⟨_,rfl⟩;rw[<-e77];have hr77:r77.length=12:=by rw[e77];exact fE _ _
   refine eE iR O O O (by simp[hr49]) (by simp[hr74]) (by simp[hr77]) O O<|ai 2 hGF O O O sizeOf130 (by simp[hr49,hr74,hr77]) aB (be _) O<|aa<|ao<|Rr<|?_
   exact aF 2 O O O isAgg130 sizeOf130 (by simp[hr49,hr74,hr77]) (λw' hw'=>⟨by (have hD:CDB p=(r49++(r74++(r77))):=by simp only[CDB,<-e22,<-e27,<-e31,<-e34,<-e37,<-e40,<-e42,<-e45,<-e47,<-e49,<-e52,<-e55,<-e58,<-e61,<-e66,<-e71,<-e72,<-e74,<-e77]);rw[CDL,h1,if_neg Bool.false_ne_true,h2,if_neg Bool.false_ne_true,hD],ae hw'⟩)
theorem Iu(p q:LW)(hp:p.length=36)(hq:q.length=36):PUR 110 [bj (p),bj (q)] (bj (CAD p q)):=by
 intro w hw;refine Hf func110 O hw<|λhGF=>Xp<|Bx 2 hGF O<|λb2=>Bx 3 hGF O<|λb3=>Al 4 hGF nc<|λb4=>aa<|ah<|Xp<|aq 2 O O isAgg130 sizeOf130 (by simp[hp]) O O<|?_
 rcases Bool.eq_false_or_eq_true (EZ (p.drop 24))with h1|h1
 ·refine Cbl true O ent102 (jj (p) (by simp[hp])) (h1)<|aa<|aQ O<|Xp<|aq 3 O O isAgg130 sizeOf130 (by simp[hq]) O O<|ai 4 hGF O O O sizeOf130 (by simp[hq]) aB (be _) O<|aa<|ao<|Rr<|?_
  exact aF 4 O O O isAgg130 sizeOf130 (by simp[hq]) (λw' hw'=>⟨by rw[CAD,if_pos h1],ae hw'⟩)
 ·refine Cbl false O ent102 (jj (p) (by simp[hp])) (h1)<|aa<|aH O<|aw<|ah<|Xp<|aq 3 O O isAgg130 sizeOf130 (by simp[hq]) O O<|?_
  rcases Bool.eq_false_or_eq_true (EZ (q.drop 24))with h2|h2
  ·refine Cbl true O ent102 (jj (q) (by simp[hq])) (h2)<|aa<|aQ O<|Xp<|aq 2 O O isAgg130 sizeOf130 (by simp[hp]) O O<|ai 4 hGF O O O sizeOf130 (by simp[hp]) aB (be _) O<|aa<|ao<|Rr<|?_
   exact aF 4 O O O isAgg130 sizeOf130 (by simp[hp]) (λw' hw'=>⟨by rw[CAD,h1,if_neg Bool.false_ne_true,if_pos h2],ae hw'⟩)
  ·refine Cbl false O ent102 (jj (q) (by simp[hq])) (h2)<|aa<|aH O<|aw<|cU (E:=EE [2999999]) [0,1,2,3,4,5,6,7,8,9] [⟨10,5,128,((List.replicate 6 (0#64))++(List.replicate 6 (0#64))).map U64⟩,⟨11,6,128,((List.replicate 6 (0#64))++(List.replicate 6 (0#64))).map U64⟩] [12,13] de O kr kr kr kr kr kr aC (by intro x hx;simp only[List.mem_cons,List.not_mem_nil,or_false]at hx;rcases hx with rfl|rfl<;>exact bH O dn O)<|Fa 24 O underlying130 O sizeOf128<|az (cs:=((p.drop 24)).map U64) O isAgg128 sizeOf128 (by simp[hp]) (λw' hw' j v hv=>by have:=(av (n:=2) O w' hw') _ v (pcB j v hv);rwa [Nat.zero_add]at this) O O<|Fa 24 O underlying130 O sizeOf128<|az (cs:=((p.drop 24)).map U64) O isAgg128 sizeOf128 (by simp[hp]) (λw' hw' j v hv=>by have:=(av (n:=2) O w' hw') _ v (pcB j v hv);rwa [Nat.zero_add]at this) O O<|Ca O (dr ((p.drop 24)) ((p.drop 24)) (by simp[hp]) (by simp[hp]))<|?_
   obtain ⟨r27,e27⟩: ∃x,x=(EMU (p.drop 24) (p.drop 24)):=⟨_,rfl⟩;rw[<-e27];have hr27:r27.length=12:=by rw[e27];exact cP _ _
   refine Fa 24 O underlying130 O sizeOf128<|az (cs:=((q.drop 24)).map U64) O isAgg128 sizeOf128 (by simp[hq]) (λw' hw' j v hv=>by have:=(av (n:=3) O w' hw') _ v (pcB j v hv);rwa [Nat.zero_add]at this) O O<|Fa 24 O underlying130 O sizeOf128<|az (cs:=((q.drop 24)).map U64) O isAgg128 sizeOf128 (by simp[hq]) (λw' hw' j v hv=>by have:=(av (n:=3) O w' hw') _ v (pcB j v hv);rwa [Nat.zero_add]at this) O O<|Ca O (dr ((q.drop 24)) ((q.drop 24)) (by simp[hq]) (by simp[hq]))<|?_
   obtain ⟨r32,e32⟩: ∃x,x=(EMU (q.drop 24) (q.drop 24)):=⟨_,rfl⟩;rw[<-e32];have hr32:r32.length=12:=by rw[e32];exact cP _ _
   refine aa ?_;refine ⟨_,_,rfl,hGF,by intro x hx;simp only[List.mem_cons,List.not_mem_nil,or_false]at hx;rcases hx with rfl|rfl<;>rfl,by intro x hx;simp only[List.mem_cons,List.not_mem_nil,or_false]at hx;rcases hx with rfl|rfl<;>rfl,λadr5=> ?_⟩
   refine ai 5 hGF O O O sizeOf128 (by simp[hr27]) aB (be _) O<|ai 6 hGF O O O sizeOf128 (by simp[hr32]) aB (be _) O<|aa<|cU (E:=EE [2999999]) [0,1,2,3,4,5,6,7] [⟨8,7,128,((List.replicate 6 (0#64))++(List.replicate 6 (0#64))).map U64⟩,⟨9,8,128,((List.replicate 6 (0#64))++(List.replicate 6 (0#64))).map U64⟩] [10,11] de O kr kr kr kr kr kr aC (by intro x hx;simp only[List.mem_cons,List.not_mem_nil,or_false]at hx;rcases hx with rfl|rfl<;>exact bH O dn O)<|Fa 0 O underlying130 O sizeOf128<|az (cs:=((p.take 12)).map U64) O isAgg128 sizeOf128 (by simp[hp]) (λw' hw' j v hv=>by have:=(av (n:=2) O w' hw') _ v (pcA j v hv);rwa [Nat.zero_add]at this) O O<|aq 6 O O isAgg128 sizeOf128 (by simp[hr32]) O O<|Ca O (dr ((p.take 12)) (r32) (by simp[hp]) (by simp[hr32]))<|?_
   obtain ⟨r36,e36⟩: ∃x,x=(EMU (p.take 12) r32):=⟨_,rfl⟩;rw[<-e36];have hr36:r36.length=12:=by rw[e36];exact cP _ _
   refine Fa 0 O underlying130 O sizeOf128<|az (cs:=((q.take 12)).map U64) O isAgg128 sizeOf128 (by simp[hq]) (λw' hw' j v hv=>by have:=(av (n:=3) O w' hw') _ v (pcA j v hv);rwa [Nat.zero_add]at this) O O<|aq 5 O O isAgg128 sizeOf128 (by simp[hr27]) O O<|Ca O (dr ((q.take 12)) (r27) (by simp[hq]) (by simp[hr27]))<|?_
   obtain ⟨r40,e40⟩: ∃x,x=(EMU (q.take 12) r27):=⟨_,rfl⟩;rw[<-e40];have hr40:r40.length=12:=by rw[e40];exact cP _ _
   refine aa ?_;refine ⟨_,_,rfl,hGF,by intro x hx;simp only[List.mem_cons,List.not_mem_nil,or_false]at hx;rcases hx with rfl|rfl<;>rfl,by intro x hx;simp only[List.mem_cons,List.not_mem_nil,or_false]at hx;rcases hx with rfl|rfl<;>rfl,λadr6=> ?_⟩
   refine ai 7 hGF O O O sizeOf128 (by simp[hr36]) aB (be _) O<|ai 8 hGF O O O sizeOf128 (by simp[hr40]) aB (be _) O<|aa<|cU (E:=EE [2999999]) [0,1,2,3,4,5,6,7,8,9,10,11,12,13] [⟨14,9,128,((List.replicate 6 (0#64))++(List.replicate 6 (0#64))).map U64⟩,⟨15,10,128,((List.replicate 6 (0#64))++(List.replicate 6 (0#64))).map U64⟩] [16,17] de O kr kr kr kr kr kr aC (by intro x hx;simp only[List.mem_cons,List.not_mem_nil,or_false]at hx;rcases hx with rfl|rfl<;>exact bH O dn O)<|Fa 12 O underlying130 O sizeOf128<|az (cs:=(((p.drop 12).take 12)).map U64) O isAgg128 sizeOf128 (by simp[hp]) (λw' hw' j v hv=>by have:=(av (n:=2) O w' hw') _ v (pcM j v hv);rwa [Nat.zero_add]at this) O O<|aq 6 O O isAgg128 sizeOf128 (by simp[hr32]) O O<|Ca O (dr (((p.drop 12).take 12)) (r32) (by simp[hp]) (by simp[hr32]))<|?_
   obtain ⟨r44,e44⟩: ∃x,x=(EMU ((p.drop 12).take 12) r32):=⟨_,rfl⟩;rw[<-e44];have hr44:r44.length=12:=by rw[e44];exact cP _ _
   refine Fa 24 O underlying130 O sizeOf128<|az (cs:=((q.drop 24)).map U64) O isAgg128 sizeOf128 (by simp[hq]) (λw' hw' j v hv=>by have:=(av (n:=3) O w' hw') _ v (pcB j v hv);rwa [Nat.zero_add]at this) O O<|Ca O (dr (r44) ((q.drop 24)) (by simp[hr44]) (by simp[hq]))<|?_
   obtain ⟨r47,e47⟩: ∃x,x=(EMU r44 (q.drop 24)):=⟨_,rfl⟩;rw[<-e47];have hr47:r47.length=12:=by rw[e47];exact cP _ _
   refine Fa 12 O underlying130 O sizeOf128<|az (cs:=(((q.drop 12).take 12)).map U64) O isAgg128 sizeOf128 (by simp[hq]) (λw' hw' j v hv=>by have:=(av (n:=3) O w' hw') _ v (pcM j v hv);rwa [Nat.zero_add]at this) O O<|aq 5 O O isAgg128 sizeOf128 (by simp[hr27]) O O<|Ca O (dr (((q.drop 12).take 12)) (r27) (by simp[hq]) (by simp[hr27]))<|?_
   obtain ⟨r51,e51⟩: ∃x,x=(EMU ((q.drop 12).take 12) r27):=⟨_,rfl⟩;rw[<-e51];have hr51:r51.length=12:=by rw[e51];exact cP _ _
   refine Fa 24 O underlying130 O sizeOf128<|az (cs:=((p.drop 24)).map U64) O isAgg128 sizeOf128 (by simp[hp]) (λw' hw' j v hv=>by have:=(av (n:=2) O w' hw') _ v (pcB j v hv);rwa [Nat.zero_add]at this) O O<|Ca O (dr (r51) ((p.drop 24)) (by simp[hr51]) (by simp[hp]))<|?_
   obtain ⟨r54,e54⟩: ∃x,x=(EMU r51 (p.drop 24)):=⟨_,rfl⟩;rw[<-e54];have hr54:r54.length=12:=by rw[e54];exact cP _ _
   refine aa ?_;refine ⟨_,_,rfl,hGF,by intro x hx;simp only[List.mem_cons,List.not_mem_nil,or_false]at hx;rcases hx with rfl|rfl<;>rfl,by intro x hx;simp only[List.mem_cons,List.not_mem_nil,or_false]at hx;rcases hx with rfl|rfl<;>rfl,λadr7=> ?_⟩
   refine ai 9 hGF O O O sizeOf128 (by simp[hr47]) aB (be _) O<|ai 10 hGF O O O sizeOf128 (by simp[hr54]) aB (be _) O<|aa<|cU (E:=EE [2999999]) [0,1,2,3,4,5] [⟨6,11,128,((List.replicate 6 (0#64))++(List.replicate 6 (0#64))).map U64⟩,⟨7,12,128,((List.replicate 6 (0#64))++(List.replicate 6 (0#64))).map U64⟩] [8,9] de O kr kr kr kr kr kr aC (by intro x hx;simp only[List.mem_cons,List.not_mem_nil,or_false]at hx;rcases hx with rfl|rfl<;>exact bH O dn O)<|aq 8 O O isAgg128 sizeOf128 (by simp[hr40]) O O<|aq 7 O O isAgg128 sizeOf128 (by simp[hr36]) O O<|Ca O (i3 (r40) (r36) (by simp[hr40]) (by simp[hr36]))<|?_
   obtain ⟨r57,e57⟩: ∃x,x=(ESB r40 r36):=⟨_,rfl⟩;rw[<-e57];have hr57:r57.length=12:=by rw[e57];exact eJ _ _
   refine aq 10 O O isAgg128 sizeOf128 (by simp[hr54]) O O<|aq 9 O O isAgg128 sizeOf128 (by simp[hr47]) O O<|Ca O (i3 (r54) (r47) (by simp[hr54]) (by simp[hr47]))<|?_
   obtain ⟨r60,e60⟩: ∃x,x=(ESB r54 r47):=⟨_,rfl⟩;rw[<-e60];have hr60:r60.length=12:=by rw[e60];exact eJ _ _
   refine aa ?_;refine ⟨_,_,rfl,hGF,by intro x hx;simp only[List.mem_cons,List.not_mem_nil,or_false]at hx;rcases hx with rfl|rfl<;>rfl,by intro x hx;simp only[List.mem_cons,List.not_mem_nil,or_false]at hx;rcases hx with rfl|rfl<;>rfl,λadr8=> ?_⟩
   refine ai 11 hGF O O O sizeOf128 (by simp[hr57]) aB (be _) O<|ai 12 hGF O O O sizeOf128 (by simp[hr60]) aB (be _) O<|aa<|ah<|Xp<|aq 11 O O isAgg128 sizeOf128 (by simp[hr57]) O O<|?_
   rcases Bool.eq_false_or_eq_true (EZ r57)with h3|h3
   ·refine Cbl true O ent135 (lK (r57) (by simp[hr57])) (h3)<|aa<|aQ O<|ah<|Xp<|aq 12 O O isAgg128 sizeOf128 (by simp[hr60]) O O<|?_
    rcases Bool.eq_false_or_eq_true (EZ r60)with h4|h4
    ·refine Cbl true O ent135 (lK (r60) (by simp[hr60])) (h4)<|aa<|aQ O<|Xp<|aq 2 O O isAgg130 sizeOf130 (by simp[hp]) O O<|Ca O (y8 (p) (by simp[hp]))<|?_
     obtain ⟨r66,e66⟩: ∃x,x=(CDL p):=⟨_,rfl⟩;rw[<-e66];have hr66:r66.length=36:=by rw[e66];exact j5 _
     refine ai 4 hGF O O O sizeOf130 (by simp[hr66]) aB (be _) O<|aa<|ao<|Rr<|?_
     exact aF 4 O O O isAgg130 sizeOf130 (by simp[hr66]) (λw' hw'=>⟨by (have hh:ADh p q=r57:=by simp only[ADh,<-e27,<-e32,<-e36,<-e40,<-e57]);(have hr:ADr p q=r60:=by simp only[ADr,<-e27,<-e32,<-e44,<-e47,<-e51,<-e54,<-e60]);(have hD:CDL p=r66:=by simp only[<-e66]);rw[CAD,h1,if_neg Bool.false_ne_true,h2,if_neg Bool.false_ne_true,hh,h3,if_pos O,hr,h4,if_pos O,hD],ae hw'⟩)
    ·refine Cbl false O ent135 (lK (r60) (by simp[hr60])) (h4)<|aa<|aH O<|aw<|Xp<|gR iR O O<|Sa 4 hGF O O O xb<|aa<|ao<|Rr<|?_
     exact aF 4 O O O isAgg130 sizeOf130 aB (λw' hw'=>⟨by (have hh:ADh p q=r57:=by simp only[ADh,<-e27,<-e32,<-e36,<-e40,<-e57]);(have hr:ADr p q=r60:=by simp only[ADr,<-e27,<-e32,<-e44,<-e47,<-e51,<-e54,<-e60]);rw[CAD,h1,if_neg Bool.false_ne_true,h2,if_neg Bool.false_ne_true,hh,h3,if_pos O,hr,h4,if_neg Bool.false_ne_true],ae hw'⟩)
   ·refine Cbl false O ent135 (lK (r57) (by simp[hr57])) (h3)<|aa<|aH O<|aw<|Xp<|aq 11 O O isAgg128 sizeOf128 (by simp[hr57]) O O<|aq 11 O O isAgg128 sizeOf128 (by simp[hr57]) O O<|Ca O (dr (r57) (r57) (by simp[hr57]) (by simp[hr57]))<|?_
    obtain ⟨r70,e70⟩: ∃x,x=(EMU r57 r57):=⟨_,rfl⟩;rw[<-e70];have hr70:r70.length=12:=by rw[e70];exact cP _ _
    refine Al 13 hGF dn<|λb13=>ai 13 hGF O O O sizeOf128 (by simp[hr70]) aB (be _) O<|aa<|Xp<|aq 13 O O isAgg128 sizeOf128 (by simp[hr70]) O O<|aq 11 O O isAgg128 sizeOf128 (by simp[hr57]) O O<|Ca O (dr (r70) (r57) (by simp[hr70]) (by simp[hr57]))<|?_
    obtain ⟨r73,e73⟩: ∃x,x=(EMU r70 r57):=⟨_,rfl⟩;rw[<-e73];have hr73:r73.length=12:=by rw[e73];exact cP _ _
    refine Al 14 hGF dn<|λb14=>ai 14 hGF O O O sizeOf128 (by simp[hr73]) aB (be _) O<|aa<|Xp<|aq 7 O O isAgg128 sizeOf128 (by simp[hr36]) O O<|aq 13 O O isAgg128 sizeOf128 (by simp[hr70]) O O<|Ca O (dr (r36) (r70) (by simp[hr36]) (by simp[hr70]))<|?_
    obtain ⟨r76,e76⟩: ∃x,x=(EMU r36 r70):=⟨_,rfl⟩;rw[<-e76];have hr76:r76.length=12:=by rw[e76];exact cP _ _
    refine Al 15 hGF dn<|λb15=>ai 15 hGF O O O sizeOf128 (by simp[hr76]) aB (be _) O<|aa<|cU (E:=EE [2999999]) [0,1,2,3,4,5,6,7,8] [⟨9,16,128,((List.replicate 6 (0#64))++(List.replicate 6 (0#64))).map U64⟩] [10] de O kr kr kr kr kr kr aC (by intro x hx;simp only[List.mem_cons,List.not_mem_nil,or_false]at hx;subst hx;exact bH O dn O)<|aq 12 O O isAgg128 sizeOf128 (by simp[hr60]) O O<|aq 12 O O isAgg128 sizeOf128 (by simp[hr60]) O O<|Ca O (dr (r60) (r60) (by simp[hr60]) (by simp[hr60]))<|?_
    obtain ⟨r79,e79⟩: ∃x,x=(EMU r60 r60):=⟨_,rfl⟩;rw[<-e79];have hr79:r79.length=12:=by rw[e79];exact cP _ _
    refine aq 14 O O isAgg128 sizeOf128 (by simp[hr73]) O O<|Ca O (i3 (r79) (r73) (by simp[hr79]) (by simp[hr73]))<|?_
    obtain ⟨r81,e81⟩: ∃x,x=(ESB r79 r73):=⟨_,rfl⟩;rw[<-e81];have hr81:r81.length=12:=by rw[e81];exact eJ _ _
    refine aq 15 O O isAgg128 sizeOf128 (by simp[hr76]) O O<|Ca O (i3 (r81) (r76) (by simp[hr81]) (by simp[hr76]))<|?_
    obtain ⟨r83,e83⟩: ∃x,x=(ESB r81 r76):=⟨_,rfl⟩;rw[<-e83];have hr83:r83.length=12:=by rw[e83];exact eJ _ _
    refine aq 15 O O isAgg128 sizeOf128 (by simp[hr76]) O O<|Ca O (i3 (r83) (r76) (by simp[hr83]) (by simp[hr76]))<|?_
    obtain ⟨r85,e85⟩: ∃x,x=(ESB r83 r76):=⟨_,rfl⟩;rw[<-e85];have hr85:r85.length=12:=by rw[e85];exact eJ _ _
    refine aa ?_;refine ⟨_,_,rfl,hGF,by intro x hx;simp only[List.mem_cons,List.not_mem_nil,or_false]at hx;subst hx;rfl,by intro x hx;simp only[List.mem_cons,List.not_mem_nil,or_false]at hx;subst hx;rfl,λadr16=> ?_⟩
    refine ai 16 hGF O O O sizeOf128 (by simp[hr85]) aB (be _) O<|aa<|Xd []<|aq 16 O O isAgg128 sizeOf128 (by simp[hr85]) O O<|aq 12 O O isAgg128 sizeOf128 (by simp[hr60]) O O<|aq 15 O O isAgg128 sizeOf128 (by simp[hr76]) O O<|aq 16 O O isAgg128 sizeOf128 (by simp[hr85]) O O<|Ca O (i3 (r76) (r85) (by simp[hr76]) (by simp[hr85]))<|?_
    obtain ⟨r90,e90⟩: ∃x,x=(ESB r76 r85):=⟨_,rfl⟩;rw[<-e90];have hr90:r90.length=12:=by rw[e90];exact eJ _ _
    refine Ca O (dr (r60) (r90) (by simp[hr60]) (by simp[hr90])) ?_
    obtain ⟨r91,e91⟩: ∃x,x=(EMU r60 r90):=⟨_,rfl⟩;rw[<-e91];have hr91:r91.length=12:=by rw[e91];exact cP _ _
    refine aq 9 O O isAgg128 sizeOf128 (by simp[hr47]) O O<|aq 14 O O isAgg128 sizeOf128 (by simp[hr73]) O O<|Ca O (dr (r47) (r73) (by simp[hr47]) (by simp[hr73]))<|?_
    obtain ⟨r94,e94⟩: ∃x,x=(EMU r47 r73):=⟨_,rfl⟩;rw[<-e94];have hr94:r94.length=12:=by rw[e94];exact cP _ _
    refine Ca O (i3 (r91) (r94) (by simp[hr91]) (by simp[hr94])) ?_
    obtain ⟨r95,e95⟩: ∃x,x=(ESB r91 r94):=⟨_,rfl⟩;rw[<-e95];have hr95:r95.length=12:=by rw[e95];exact eJ _ _
    refine Fa 24 O underlying130 O sizeOf128<|az (cs:=((p.drop 24)).map U64) O isAgg128 sizeOf128 (by simp[hp]) (λw' hw' j v hv=>by have:=(av (n:=2) O w' hw') _ v (pcB j v hv);rwa [Nat.zero_add]at this) O O<|Fa 24 O underlying130 O sizeOf128<|az (cs:=((q.drop 24)).map U64) O isAgg128 sizeOf128 (by simp[hq]) (λw' hw' j v hv=>by have:=(av (n:=3) O w' hw') _ v (pcB j v hv);rwa [Nat.zero_add]at this) O O<|Ca O (dr ((p.drop 24)) ((q.drop 24)) (by simp[hp]) (by simp[hq]))<|?_
    obtain ⟨r100,e100⟩: ∃x,x=(EMU (p.drop 24) (q.drop 24)):=⟨_,rfl⟩;rw[<-e100];have hr100:r100.length=12:=by rw[e100];exact cP _ _
    refine aq 11 O O isAgg128 sizeOf128 (by simp[hr57]) O O<|Ca O (dr (r100) (r57) (by simp[hr100]) (by simp[hr57]))<|?_
    obtain ⟨r102,e102⟩: ∃x,x=(EMU r100 r57):=⟨_,rfl⟩;rw[<-e102];have hr102:r102.length=12:=by rw[e102];exact cP _ _
    refine eE iR O O O (by simp[hr85]) (by simp[hr95]) (by simp[hr102]) O O<|ai 4 hGF O O O sizeOf130 (by simp[hr85,hr95,hr102]) aB (be _) O<|aa<|ao<|Rr<|?_
    exact aF 4 O O O isAgg130 sizeOf130 (by simp[hr85,hr95,hr102]) (λw' hw'=>⟨by (have hh:ADh p q=r57:=by simp only[ADh,<-e27,<-e32,<-e36,<-e40,<-e57]);(have hr:ADr p q=r60:=by simp only[ADr,<-e27,<-e32,<-e44,<-e47,<-e51,<-e54,<-e60]);(have hD:CAG p q=(r85++(r95++(r102))):=by simp only[CAG,hh,hr,<-e32,<-e36,<-e44,<-e47,<-e70,<-e73,<-e76,<-e79,<-e81,<-e83,<-e85,<-e90,<-e91,<-e94,<-e95,<-e100,<-e102]);rw[CAD,h1,if_neg Bool.false_ne_true,h2,if_neg Bool.false_ne_true,hh,h3,if_neg Bool.false_ne_true,hD],ae hw'⟩)
end
section
open Go.RowKit
attribute [local simp] cG iU jE mq gu fE eJ oM cP oF n5 rL j5 oC
def CMU(p:LW)(bs:L8):Nat->LW
 |0=>((List.replicate 12 (0#64))++((List.replicate 12 (0#64))++(List.replicate 12 (0#64))))
 |i+1=>if f8 bs i=1#8 then CAD (CDL (CMU p bs i)) p else CDL (CMU p bs i)
theorem jl(p:LW)(hp:p.length=36)(bs:L8): ∀i,(CMU p bs i).length=36
 |0=>rfl
 |i+1=>by
  unfold CMU;split
  ·exact oC _ _ (j5 _) hp
  ·exact j5 _
theorem EL(p:LW)(bs:L8)(i:Nat)(h:f8 bs i=1#8):CMU p bs (i+1)=CAD (CDL (CMU p bs i)) p:=by rw[CMU,if_pos h]
theorem EQ(p:LW)(bs:L8)(i:Nat)(h: ¬f8 bs i=1#8):CMU p bs (i+1)=CDL (CMU p bs i):=by rw[CMU,if_neg h]
theorem oZ(p:LW)(hp:p.length=36)(e:Option Addr)(cap:Nat)(bs:L8)(hlen:bs.length<=4096)(w:World)(hw:Gt w)(hby:BytesAt w e bs):
 CLS 71 [bj (p),.slice e bs.length cap].toArray w (λr w'=>r=.returned (bj (CMU p bs (8*bs.length)))/\Grow w w'):=by
 refine Hf func71 O hw<|λhGF=>Xp<|Bx 2 hGF O<|λb2=>Al 4 hGF nc<|λb4=>aa<|Xp<|Al 5 hGF nc<|λb5=>aa<|ah<|Xp<|Asg O<|aa<|au<|bW (ι:={i:Nat // i<=8*bs.length}) (λx=>[(1,.slice e bs.length cap),(2,pnt b2),(4,pnt b4),(5,pnt b5),(6,I (x.1:Int))]) (λx=>[(2,b2,p.map U64,130),(4,b4,(((List.replicate 12 (0#64))++((List.replicate 12 (0#64))++(List.replicate 12 (0#64))))).map U64,130),(5,b5,(CMU p bs x.1).map U64,130)]) (λx=>8*bs.length-x.1) ⟨0,om⟩ hGF trv trv<|?_;rintro ⟨i,hi⟩;dsimp only;refine ah<|Xp<|Mv O<|Mv O<|bB O (λ_=>aO underlying123 _ _ _ _) O O<|Bnr (v:=I (((8*bs.length:Nat):Int))) O O (λ_=>(bT _ _ _ aG).trans (by rw[show (8:Int)*(bs.length:Int)=((8*bs.length:Nat):Int) by omega]))<|Bnr O O (λ_=>aI _ _ _)<|aa<|?_
 refine cx O (λhc=> ?_) (λhc=> ?_)
 ·simp only[decide_eq_true_eq]at hc
  refine aw<|ah<|au<|Xp<|aq 5 O O isAgg130 sizeOf130 (by simp[jl p hp]) O O<|Ca O (y8 ((CMU p bs i)) (by simp[jl p hp]))<|ai 5 hGF O O O sizeOf130 (by simp[]) (by simp[jl p hp]) (be _) O<|aa<|Xp<|Mv O<|Mv O<|Bnr (v:=I (((i / 8:Nat):Int))) O O (λ_=>gP _ _ _ aC (show inI ((i / 8:Nat):Int) by unfold inI;omega))<|?_
  obtain ⟨ad,rfl,_⟩:=hby (i / 8) _ (gm U8 bs 0 (i / 8) om);refine io (i / 8) O O underlying123 sizeOf5 O om O O<|aT O isAgg5 (λw' h=>by obtain ⟨ad',e,hc⟩:=(hby.grow (ae h)) (i / 8) _ (gm U8 bs 0 (i / 8) om);cases e;exact hc) O O<|Mv O<|Bnr (v:=I (((i % 8:Nat):Int))) O O (λ_=>eu _ _ _ aC)<|Bnr (v:=I (((7-i % 8:Nat):Int))) O O (λ_=>(bC _ _ _ aG).trans (by rw[show ((7:Int)-((i % 8:Nat):Int))=((7-i % 8:Nat):Int) by omega]))<|Bnr (v:=U8 (bs.getD (i / 8) 0>>>(7-i % 8))) O O (λ_=>iJ _ _ _ om)<|Bnr (v:=U8 (f8 bs i)) O O (λ_=>eH _ _ 1#8)<|Bnr (v:=.bool (decide (f8 bs i=1#8))) O O (λ_=>(dH _ _ 1#8).trans O)<|aa<|?_
  refine cx O (λhc=> ?_) (λhc=> ?_)
  ·simp only[decide_eq_true_eq]at hc
   have hq:=hc;refine Xq<|aq 5 O O isAgg130 sizeOf130 (by simp[]) O O<|aq 2 O O isAgg130 sizeOf130 (by simp[hp]) O O<|Ca O (Iu ((CDL (CMU p bs i))) (p) (by simp[]) (by simp[hp]))<|ai 5 hGF O O O sizeOf130 (by simp[hp]) (by simp[]) (be _) O<|aa<|Xq<|Mv O<|Bnr (v:=I (((i+1:Nat):Int))) O O (λ_=>(ay _ _ _ aG).trans aE)<|Asg O<|aa<|?_
   repeat (refine bh ?_)
   exact aY<|⟨rfl,⟨i+1,om⟩,_,by show 8*bs.length-(i+1)<8*bs.length-i;omega,rfl,trv,⟨rfl,rfl,by first|(rw[EL p bs i hq];rfl)|(rw[EQ p bs i hq];rfl),trivial⟩⟩
  ·simp only[decide_eq_false_iff_not]at hc
   have hq:=hc;refine aw<|Xq<|Mv O<|Bnr (v:=I (((i+1:Nat):Int))) O O (λ_=>(ay _ _ _ aG).trans aE)<|Asg O<|aa<|?_
   repeat (refine bh ?_)
   exact aY<|⟨rfl,⟨i+1,om⟩,_,by show 8*bs.length-(i+1)<8*bs.length-i;omega,rfl,trv,⟨rfl,rfl,by first|(rw[EL p bs i hq];rfl)|(rw[EQ p bs i hq];rfl),trivial⟩⟩
 ·obtain rfl:i=8*bs.length:=by simp at hc;omega
  refine bv<|Xp<|aq 5 O O isAgg130 sizeOf130 (by simp[jl p hp]) O O<|ai 4 hGF O O O sizeOf130 (by simp[jl p hp]) (by simp[]) (be _) O<|aa<|ao<|Rr<|?_
  exact aF 4 O O O isAgg130 sizeOf130 (by simp[jl p hp]) (λw' hw'=>⟨rfl,ae hw'⟩)
theorem AR(a b:LW)(ha:a.length=6)(hb:b.length=6):PUR 107 [bj (a),bj (b)] (bj (RM a TWO++RM b TWO)):=by
 intro w hw;refine Hf func107 O hw<|λhGF=>Xp<|Bx 2 hGF O<|λb2=>Bx 3 hGF O<|λb3=>Al 4 hGF dn<|λb4=>aa<|Xp<|aq 2 O O isAgg120 sizeOf120 (by simp[ha]) O O<|aq 3 O O isAgg120 sizeOf120 (by simp[hb]) O O<|Ca O (II (a) (b) (by simp[ha]) (by simp[hb]))<|Sa 4 hGF O O O EW<|aa<|ao<|Rr<|?_
 exact aF 4 O O O isAgg128 sizeOf128 aB (λw' hw'=>⟨rfl,ae hw'⟩)
def GXW:LW:=[18103045581585958587#64,7806400890582735599#64,11623291730934869080#64,14080658508445169925#64,2780237799254240271#64,1725392847304644500#64]
def GYW:LW:=[912580534683953121#64,15005087156090211044#64,61670280795567085#64,18227722000993880822#64,11573741888802228964#64,627113611842199793#64]
def G1W:LW:=(RM GXW TWO++RM (List.replicate 6 (0#64)) TWO)++((RM GYW TWO++RM (List.replicate 6 (0#64)) TWO)++E1_)
theorem ot:G1W.length=36:=by simp[G1W]
theorem C5:GXW.length=6:=rfl
theorem CN:GYW.length=6:=rfl
attribute [local simp] C5 CN
theorem Au:PUR 70 [.bool false] (bj (G1W)):=by
 intro w hw;refine Hf func70 O hw<|λhGF=>Xp<|Al 2 hGF nc<|λb2=>aa<|ah<|Xp<|Mv O<|aa<|aH O<|aw<|Xp<|dN (n:=6) (vs:=(GXW).map U64) O O underlying120 sizeOf22 zeroValue120 O O O O<|ew zv120 underlying120 sizeOf22 O O<|Ca O (AR (GXW) ((List.replicate 6 (0#64))) aB aB)<|dN (n:=6) (vs:=(GYW).map U64) O O underlying120 sizeOf22 zeroValue120 O O O O<|ew zv120 underlying120 sizeOf22 O O<|Ca O (AR (GYW) ((List.replicate 6 (0#64))) aB aB)<|Ca O (Ba )<|eE iR O O O aB aB aB O O<|Sa 2 hGF O O O xb<|aa<|ao<|Rr<|?_;exact aF 2 O O O isAgg130 sizeOf130 aB (λw' hw'=>⟨rfl,ae hw'⟩)
end
section
open Go.RowKit
theorem ent69:aL prog 69:=λ_ _=>kr
theorem ent72:aL prog 72:=λ_ _=>kr
attribute [local simp] cG iU jE mq gu fE eJ oM cP oF n5 rL j5 oC
theorem xd:EqF prog 128 12 4:=
 have h:EqF prog 126 6 3:=Dg underlying126 O aC kr isAgg120 sizeOf120 (CG underlying120 underlying22 sizeOf22 isAgg22)
 Ez underlying128 O O aC aC kr isAgg126 sizeOf126 h isAgg126 sizeOf126 h
theorem xr(op:BinOp)(x y:Operand)(xs ys:Array Value)(w:World):(eqGuard op 128 x y (.agg xs) (.agg ys)).run prog w=.ok () w:=run_eqGuard_agg w op 128 x y xs ys kr
def CXY(p:LW):LW×LW:=if p.drop 24=E1_ then (p.take 12,(p.drop 12).take 12)else
 (EMU (p.take 12) (EMU (EIV (p.drop 24)) (EIV (p.drop 24))),EMU (EMU ((p.drop 12).take 12) (EMU (EIV (p.drop 24)) (EIV (p.drop 24)))) (EIV (p.drop 24)))
theorem Le(p:LW)(h:p.length=36):(CXY p).1.length=12:=by unfold CXY;split<;>simp[h]
theorem Kz(p:LW)(h:p.length=36):(CXY p).2.length=12:=by unfold CXY;split<;>simp[h]
theorem Mp(p:LW)(hp:p.length=36):PUR 103 [bj (p)] (.tuple #[bj ((CXY p).1),bj ((CXY p).2)]):=by
 intro w hw;refine Hf func103 O hw<|λhGF=>Xp<|Bx 1 hGF O<|λb1=>Al 2 hGF dn<|λb2=>Al 3 hGF dn<|λb3=>aa<|ah<|Xd []<|Fa 24 O underlying130 O sizeOf128<|az (cs:=((p.drop 24)).map U64) O isAgg128 sizeOf128 (by simp[hp]) (λw' hw' j v hv=>by have:=(av (n:=1) O w' hw') _ v (pcB j v hv);rwa [Nat.zero_add]at this) O O<|Ca O (Ba )<|?_
 rcases Bool.eq_false_or_eq_true (decide (p.drop 24=E1_))with h1|h1
 ·refine gW true O O (λ_=>xr _ _ _ _ _ _) (λw=>xB xd aC (p.drop 24) E1_ (by simp[hp]) aB w) (h1) O O<|aa<|aQ O<|ii (E:=EE []) (λX=>X=Hp (pl w) [(1,b1,(p).map U64,130)]) (mkB [2]) (rkB [13]) [0,1,2,3,4,5] de O kr kr kr<|cw O O<|Fa 0 O underlying130 O sizeOf128<|aa<|cw O O<|az (cs:=((p.take 12)).map U64) O isAgg128 sizeOf128 (by simp[hp]) (λw' hw' j v hv=>by have:=(av (n:=1) O w' hw') _ v (pcA j v hv);rwa [Nat.zero_add]at this) O O<|aa<|cw O O<|Fa 12 O underlying130 O sizeOf128<|aa<|mC (X:=Hp (pl w) [(1,b1,(p).map U64,130)]) O (fN aJ trv) (λ_=>rfl)<|az (cs:=(((p.drop 12).take 12)).map U64) O isAgg128 sizeOf128 (by simp[hp]) (λw' hw' j v hv=>by have:=(av (n:=1) O w' hw') _ v (pcM j v hv);rwa [Nat.zero_add]at this) O O<|aa<|gD O<|ai 2 hGF O O O sizeOf128 (by simp[hp]) aB (be _) O<|aa<|?_
  refine ⟨λ_ X hX _=>by subst hX;exact fN aJ trv, ?_⟩
  refine gD O<|ai 3 hGF O O O sizeOf128 (by simp[hp]) aB (be _) O<|aa<|?_
  refine ⟨λh=>(by cases h), ?_⟩
  refine iH<|ao<|Rr<|?_;exact xH 2 3 O O O O O isAgg128 sizeOf128 (by simp[hp]) (by simp[hp]) (λw' hw'=>⟨by rw[show CXY p=_ from if_pos (of_decide_eq_true h1)],ae hw'⟩)
 ·refine gW false O O (λ_=>xr _ _ _ _ _ _) (λw=>xB xd aC (p.drop 24) E1_ (by simp[hp]) aB w) (h1) O O<|aa<|aH O<|aw<|Xp<|Fa 24 O underlying130 O sizeOf128<|az (cs:=((p.drop 24)).map U64) O isAgg128 sizeOf128 (by simp[hp]) (λw' hw' j v hv=>by have:=(av (n:=1) O w' hw') _ v (pcB j v hv);rwa [Nat.zero_add]at this) O O<|Ca O (Gv ((p.drop 24)) (by simp[hp]))<|Al 4 hGF dn<|λb4=>ai 4 hGF O O O sizeOf128 (by simp[]) aB (be _) O<|aa<|Xp<|aq 4 O O isAgg128 sizeOf128 (by simp[]) O O<|aq 4 O O isAgg128 sizeOf128 (by simp[]) O O<|Ca O (dr ((EIV (p.drop 24))) ((EIV (p.drop 24))) (by simp[]) (by simp[]))<|Al 5 hGF dn<|λb5=>ai 5 hGF O O O sizeOf128 (by simp[]) aB (be _) O<|aa<|ii (E:=EE []) (λX=>X=Hp (pl w) []) (mkB [2]) (rkB []) [0,1,2,3,4,5,6,7,8,9,10,11] de O kr kr kr<|cw O O<|Fa 0 O underlying130 O sizeOf128<|aa<|cw O O<|az (cs:=((p.take 12)).map U64) O isAgg128 sizeOf128 (by simp[hp]) (λw' hw' j v hv=>by have:=(av (n:=1) O w' hw') _ v (pcA j v hv);rwa [Nat.zero_add]at this) O O<|aa<|cw O O<|aq 5 O O isAgg128 sizeOf128 (by simp[]) O O<|aa<|cw O O<|Ca O (dr ((p.take 12)) ((EMU (EIV (p.drop 24)) (EIV (p.drop 24)))) (by simp[hp]) (by simp[]))<|aa<|cw O O<|Fa 12 O underlying130 O sizeOf128<|aa<|cw O O<|az (cs:=(((p.drop 12).take 12)).map U64) O isAgg128 sizeOf128 (by simp[hp]) (λw' hw' j v hv=>by have:=(av (n:=1) O w' hw') _ v (pcM j v hv);rwa [Nat.zero_add]at this) O O<|aa<|cw O O<|aq 5 O O isAgg128 sizeOf128 (by simp[]) O O<|aa<|?_
  refine cw O O<|Ca O (dr (((p.drop 12).take 12)) ((EMU (EIV (p.drop 24)) (EIV (p.drop 24)))) (by simp[hp]) (by simp[]))<|aa<|cw O O<|aq 4 O O isAgg128 sizeOf128 (by simp[]) O O<|aa<|cw O O<|jP O O ent137 (dr ((EMU ((p.drop 12).take 12) (EMU (EIV (p.drop 24)) (EIV (p.drop 24))))) ((EIV (p.drop 24))) (by simp[]) (by simp[])) O O<|aa<|gD O<|ai 2 hGF O O O sizeOf128 (by simp[]) aB (be _) O<|aa<|?_
  refine ⟨λ_ X hX _=>by subst hX;exact fN aJ trivial, ?_⟩
  refine gD O<|ai 3 hGF O O O sizeOf128 (by simp[]) aB (be _) O<|aa<|?_
  refine ⟨λh=>(by cases h), ?_⟩
  refine iH<|ao<|Rr<|?_;exact xH 2 3 O O O O O isAgg128 sizeOf128 (by simp[]) (by simp[]) (λw' hw'=>⟨by rw[show CXY p=_ from if_neg (of_decide_eq_false h1)],ae hw'⟩)
theorem ti5e: ∃i,prog.info? 5=some i/\i.zero=some (.int .u8 0)/\i.size=1/\i.bytes=1:=⟨_,rfl,rfl,rfl,rfl⟩
theorem hmc{i:TypeInfo}(k:Nat)(h:prog.info? 5=some i/\i.zero=some (.int .u8 0)/\i.size=1/\i.bytes=1)(hk:(madeCells (Value.int .u8 0).cells (k*1)).toList=(List.replicate k 0#8).map U8):(madeCells (Value.int .u8 0).cells (k*i.size)).toList=(List.replicate k 0#8).map U8:=by
 rw[h.2.2.1];exact hk
theorem hmk(k:Nat)(h:k<=1000):k*ti5e.choose.size<=16777216/\ti5e.choose.bytes*k<=281474976710656/\k<=1000000:=by
 rw[ti5e.choose_spec.2.2.1,ti5e.choose_spec.2.2.2];omega
theorem mc48:(madeCells (Value.int .u8 0).cells (48*1)).toList=(List.replicate 48 0#8).map U8:=kr
def OR0(bs:L8)(v:BitVec 8):L8:=bs.set 0 (bs.getD 0 0|||v)
theorem DP(bs:L8)(v:BitVec 8):(OR0 bs v).length=bs.length:=by simp[OR0]
def NBr(x:LW):L8:=BYs (RM x N1) 48
theorem DD(x:LW):(NBr x).length=48:=ce _ _
attribute [local simp] DP DD
theorem J6(x:LW):lay 0 ((NBr x).map U8) ((List.replicate 48 0#8).map U8)=(NBr x).map U8:=dp _ _ aB
theorem sz5:(prog.info? 5).map (·.size)=some 1:=kr
def EN1(p:LW):L8:=if EZ (p.drop 24)then (List.replicate 48 0#8).set 0 192#8 else if ELG (CXY p).2 then OR0 (OR0 (NBr ((CXY p).1.take 6)) 128#8) 32#8 else OR0 (NBr ((CXY p).1.take 6)) 128#8
theorem wZ(p:LW):(EN1 p).length=48:=by unfold EN1;split<;>(try split)<;>simp
theorem pR(p:LW)(hp:p.length=36)(w:World)(hw:Gt w):CLS 69 [bj (p),.bool false].toArray w (λe w'=> ∃bm,e=.returned (.slice (spt bm) 48 48)/\Grow w w'/\w.heap.size<=bm/\OwnB w' bm ((EN1 p).map U8) 5):=by
 refine Hf func69 O hw<|λhGF=>Xp<|Bx 2 hGF O<|λb2=>Asg O<|aa<|Xp<|Asg O<|aa<|ah<|Xp<|Mv O<|aa<|aH O<|aw<|Xp<|Mv O<|C4 6 hGF O O underlying123 ti5e.choose_spec.1 ti5e.choose_spec.2.1 (hmk 48 aC) (hmc 48 ti5e.choose_spec mc48) O O<|λb6=>Asg O<|aa<|ah<|Xp<|aq 2 O O isAgg130 sizeOf130 (by simp[hp]) O O<|?_
 rcases Bool.eq_false_or_eq_true (EZ (p.drop 24))with h1|h1
 ·refine Cbl true O ent102 (jj (p) (by simp[hp])) (h1)<|aa<|aQ O<|Xp<|Mv O<|j4 0 O O underlying123 sizeOf5 aC aC O O<|bO 6 U8 hGF O O O sizeOf5 O aB O<|aa<|Xp<|Mv O<|Asg O<|aa<|ao<|Rr<|?_
  exact ar O O (λw hw=>⟨b6,rfl,ae hw,(hw.own 6 b6 _ _ O).2.elim id False.elim,by rw[show EN1 p=_ from if_pos h1];exact (hw.own 6 b6 _ _ O).1⟩)
 ·refine Cbl false O ent102 (jj (p) (by simp[hp])) (h1)<|aa<|aH O<|aw<|Xp<|aq 2 O O isAgg130 sizeOf130 (by simp[hp]) O O<|Ca O (Mp p hp)<|?_
  have h1_:=Le p hp;have h2_:=Kz p hp;refine Mv O<|Exq O O<|Exq O O<|Al 7 hGF dn<|λb7=>Al 8 hGF dn<|λb8=>ai 7 hGF O O O sizeOf128 (by simp[h1_]) aB (be _) O<|ai 8 hGF O O O sizeOf128 (by simp[h2_]) aB (be _) O<|aa<|cU (E:=EE [2999999]) [0,1,2,3,4,5,6,7] [⟨8,9,32,(List.replicate 48 (0#8)).map U8⟩,⟨9,10,32,(List.replicate 48 (0#8)).map U8⟩] [10,11] de O kr kr kr kr kr kr aC (by intro x hx;simp only[List.mem_cons,List.not_mem_nil,or_false]at hx;rcases hx with rfl|rfl<;>exact bH O zv32 O)<|Fa 0 O underlying128 O sizeOf126<|az (cs:=(((CXY p).1.take 6)).map U64) O isAgg126 sizeOf126 (by simp[h1_]) (λw' hw' j v hv=>by have:=(av (n:=7) O w' hw') _ v (pcA j v hv);rwa [Nat.zero_add]at this) O O<|Ca O (j3 (((CXY p).1.take 6)) (by simp[h1_]))<|Ca O (fB _ aB)<|?_
  rw[show BYs (RM ((CXY p).1.take 6) N1) 48=NBr ((CXY p).1.take 6)from O];refine Fa 6 O underlying128 O sizeOf126<|az (cs:=(((CXY p).1.drop 6)).map U64) O isAgg126 sizeOf126 (by simp[h1_]) (λw' hw' j v hv=>by have:=(av (n:=7) O w' hw') _ v (pcB j v hv);rwa [Nat.zero_add]at this) O O<|Ca O (j3 (((CXY p).1.drop 6)) (by simp[h1_]))<|Ca O (fB _ aB)<|?_
  rw[show BYs (RM ((CXY p).1.drop 6) N1) 48=NBr ((CXY p).1.drop 6)from O];refine aa ?_;refine ⟨_,_,rfl,hGF,by intro x hx;simp only[List.mem_cons,List.not_mem_nil,or_false]at hx;rcases hx with rfl|rfl<;>rfl,by intro x hx;simp only[List.mem_cons,List.not_mem_nil,or_false]at hx;rcases hx with rfl|rfl<;>rfl,λadr9=> ?_⟩
  refine ai 9 hGF O O O sizeOf32 aB aB (bg _) O<|ai 10 hGF O O O sizeOf32 aB aB (bg _) O<|aa<|ah<|Xp<|Mv O<|aa<|aH O<|aw<|Xd []<|Mv O<|Mv O<|Bnr (v:=I 0) O O (λ_=>bC _ _ _ aG)<|eG (l:=0) (h':=48) O underlying123 sizeOf5 O O aC O O<|ct (l:=0) (h':=48) O underlying32 sizeOf5 O O aC aC O O<|ek 6 (o:=0) (cs:=NBr ((CXY p).1.take 6)) hGF O O O underlying123 sz5 aB (λw' h=>BytesAt.range (av (n:=9) O w' h)) aB O O<|?_;rw[J6];refine aa<|Xp<|Mv O<|j4 0 O O underlying123 sizeOf5 aC aC O O<|Lmq 6 U8 0 O O isAgg5 aB<|dv (v:=U8 ((NBr ((CXY p).1.take 6)).getD 0 0|||128#8)) O O (λ_=>rfl) (λ_=>rn _ _ 128#8) O O<|j4 0 O O underlying123 sizeOf5 aC aC O O<|bO 6 U8 hGF O O O sizeOf5 O aB O<|aa<|ah<|Xp<|aq 8 O O isAgg128 sizeOf128 (by simp[h2_]) O O<|?_
  rcases Bool.eq_false_or_eq_true (ELG (CXY p).2)with h2|h2
  ·refine Cbl true O ent106 (tY ((CXY p).2) (by simp[h2_])) (h2)<|aa<|aQ O<|Xq<|Mv O<|j4 0 O O underlying123 sizeOf5 aC aC O O<|Lmq 6 U8 0 O O isAgg5 aB<|dv (v:=U8 ((OR0 (NBr ((CXY p).1.take 6)) 128#8).getD 0 0|||32#8)) O O (λ_=>rfl) (λ_=>rn _ _ 32#8) O O<|j4 0 O O underlying123 sizeOf5 aC aC O O<|bO 6 U8 hGF O O O sizeOf5 O aB O<|aa<|Xp<|Mv O<|Asg O<|aa<|ao<|Rr<|?_
   exact ar O O (λw hw=>⟨b6,rfl,ae hw,(hw.own 6 b6 _ _ O).2.elim id False.elim,by rw[show EN1 p=_ from if_neg (by rw[h1];exact Bool.false_ne_true),if_pos h2];exact (hw.own 6 b6 _ _ O).1⟩)
  ·refine Cbl false O ent106 (tY ((CXY p).2) (by simp[h2_])) (h2)<|aa<|aH O<|aw<|Xp<|Mv O<|Asg O<|aa<|ao<|Rr<|?_
   exact ar O O (λw hw=>⟨b6,rfl,ae hw,(hw.own 6 b6 _ _ O).2.elim id False.elim,by rw[show EN1 p=_ from if_neg (by rw[h1];exact Bool.false_ne_true),if_neg (by rw[h2];exact Bool.false_ne_true)];exact (hw.own 6 b6 _ _ O).1⟩)
end
section
open Go.RowKit
attribute [local simp] cG iU jE bR bz
def RRW:LW:=[18446744069414584321#64,6034159408538082302#64,3691218898639771653#64,8353516859464449352#64,0#64,0#64]
theorem C6:RRW.length=6:=rfl
attribute [local simp] C6
def SAD(a b:LW):LW:=if (SS (AS a b 6).1 RRW 6).2=0 then (SS (AS a b 6).1 RRW 6).1 else (AS a b 6).1
theorem CZ(a b:LW):(SAD a b).length=6:=by unfold SAD;split<;>simp
theorem rR_p:PUR 101 [] (bj (RRW)):=by
 intro w hw;refine Hf func101 O hw<|λhGF=>Xp<|Al 0 hGF zv120<|λb0=>aa<|Xp<|dN (n:=6) (vs:=(RRW).map U64) O O underlying120 sizeOf22 zeroValue120 O O O O<|Sa 0 hGF O O O cg<|aa<|ao<|Rr<|?_;exact aF 0 O O O isAgg120 sizeOf120 aB (λw' hw'=>⟨rfl,ae hw'⟩)
theorem HD(a b:LW)(ha:a.length=6)(hb:b.length=6):PUR 67 [bj (a),bj (b)] (bj (SAD a b)):=by
 intro w hw;refine Hf func67 O hw<|λhGF=>Xp<|Bx 2 hGF O<|λb2=>Bx 3 hGF O<|λb3=>Al 4 hGF zv120<|λb4=>aa<|Xp<|aq 2 O O isAgg120 sizeOf120 (by simp[ha]) O O<|aq 3 O O isAgg120 sizeOf120 (by simp[hb]) O O<|Ca O (jM (a) (b) (by simp[ha]) (by simp[hb]))<|Mv O<|Exq O O<|Exq O O<|Al 5 hGF zv120<|λb5=>ai 5 hGF O O O sizeOf120 (by simp[]) aB (be _) O<|Asg O<|aa<|ah<|Xa [0,1,2,3,4,5] ⟨6,7,120,(List.replicate 6 (0#64)).map U64⟩ [7,8] (bH O zv120 O)<|aq 5 O O isAgg120 sizeOf120 (by simp[]) O O<|Ca O (rR_p )<|Ca O (el ((AS a b 6).1) (RRW) (by simp[]) aB)<|Mv O<|Exq O O<|Exq O O<|aa<|?_
 refine ⟨_,_,rfl,hGF,by intro x hx;simp only[List.mem_cons,List.not_mem_nil,or_false]at hx;subst hx;rfl,by intro x hx;simp only[List.mem_cons,List.not_mem_nil,or_false]at hx;subst hx;rfl,λadr2=> ?_⟩
 refine ai 7 hGF O O O sizeOf120 (by simp[]) aB (be _) O<|Asg O<|aa<|Xp<|Mv O<|?_
 rcases Bool.eq_false_or_eq_true ((SS (AS a b 6).1 RRW 6).2==0#64)with h1|h1
 ·refine Bnb true O O (λ_=>bA _ (SS (AS a b 6).1 RRW 6).2 0#64) (h1)<|aa<|aQ O<|Xq<|aq 7 O O isAgg120 sizeOf120 (by simp[]) O O<|ai 5 hGF O O O sizeOf120 (by simp[]) (by simp[]) (be _) O<|aa<|Xp<|aq 5 O O isAgg120 sizeOf120 (by simp[]) O O<|ai 4 hGF O O O sizeOf120 (by simp[]) aB (be _) O<|aa<|ao<|Rr<|?_
  exact aF 4 O O O isAgg120 sizeOf120 (by simp[]) (λw' hw'=>⟨by rw[show SAD a b=_ from if_pos (beq_iff_eq.1 h1)],ae hw'⟩)
 ·refine Bnb false O O (λ_=>bA _ (SS (AS a b 6).1 RRW 6).2 0#64) (h1)<|aa<|aH O<|aw<|Xp<|aq 5 O O isAgg120 sizeOf120 (by simp[]) O O<|ai 4 hGF O O O sizeOf120 (by simp[]) aB (be _) O<|aa<|ao<|Rr<|?_
  exact aF 4 O O O isAgg120 sizeOf120 (by simp[]) (λw' hw'=>⟨by rw[show SAD a b=_ from if_neg (beq_eq_false_iff_ne.1 h1)],ae hw'⟩)
theorem q8(a:LW)(ha:a.length=6)(w:World)(hw:Gt w):CLS 72 [bj (a)].toArray w (λe w'=> ∃bm i,i<=47/\(∀j,j<i->(BYs a 48).getD j 0#8=0#8)/\e=.returned (.slice (some ⟨bm,i,none⟩) (48-i) (48-i))/\Grow w w'/\w.heap.size<=bm/\OwnB w' bm ((BYs a 48).map U8) 32):=by
 refine Hf func72 O hw<|λhGF=>Xp<|Bx 1 hGF O<|λb1=>Asg O<|aa<|Xp<|aq 1 O O isAgg120 sizeOf120 (by simp[ha]) O O<|Ca O (fB a ha)<|Al 3 hGF zv32<|λb3=>ai 3 hGF O O O sizeOf32 (by simp[ce]) aB (bg _) O<|aa<|Xp<|Asg O<|aa<|ah<|au<|bW (ι:={i:Nat // i<=47/\∀j,j<i->(BYs a 48).getD j 0#8=0#8}) (λx=>[(1,pnt b1),(3,pnt b3),(4,I (x.1:Int))]) (λx=>[(1,b1,a.map U64,120),(3,b3,(BYs a 48).map U8,32)]) (λx=>47-x.1) ⟨0,om,λj hj=>absurd hj (Nat.not_lt_zero j)⟩ hGF trv trv<|?_
 rintro ⟨i,hi,hz⟩;dsimp only;refine ah<|Xp<|Mv O<|?_;rcases Bool.eq_false_or_eq_true (decide ((i:Int)<47))with h1|h1
 ·refine Bnb true O O (λ_=>aI _ (i:Int) 47) (h1)<|Mv O<|Mv O<|j7 i O O underlying32 sizeOf5 O (by simp at h1;omega) O O<|?_
  refine aT (v:=U8 (BYs a 48)[i]!) O isAgg5 (λw' hw'=>by have:=(av (n:=3) O w' hw') i (U8 (BYs a 48)[i]!) (by rw[List.getElem?_map,List.getElem?_eq_getElem (by rw[ce];simp at h1;omega),getElem!_pos (BYs a 48) i (by rw[ce];simp at h1;omega)];rfl);simpa using this) O O ?_
  rcases Bool.eq_false_or_eq_true ((BYs a 48)[i]! ==0#8)with h2|h2
  ·refine Bnb true O O (λ_=>dH _ (BYs a 48)[i]! 0#8) (h2)<|Pk O O O<|aa<|aQ O<|aw<|au<|Xq<|Mv O<|Bnr (v:=I (((i+1:Nat):Int))) O O (λ_=>(ay _ _ _ aG).trans aE)<|Asg O<|aa<|?_
   repeat (refine bh ?_)
   refine aY ?_;have hlt:i<47:=by simp at h1;omega
   exact ⟨rfl,⟨i+1,om,λj hj=>(Nat.lt_or_ge j i).elim (hz j) (λh=>by have e:j=i:=om;subst e;have h3:=beq_iff_eq.1 h2;rw[getElem!_pos (BYs a 48) j (by rw[ce];omega)]at h3;rw[List.getD_eq_getElem?_getD,List.getElem?_eq_getElem (by rw[ce];omega)];exact h3)⟩,_,by show 47-(i+1)<47-i;omega,rfl,trv,trv⟩
  ·refine Bnb false O O (λ_=>dH _ (BYs a 48)[i]! 0#8) (h2)<|Pk O O O<|aa<|aH O<|bv<|Xp<|Mv O<|ct (l:=i) (h':=48) O underlying32 sizeOf5 O O om om O O<|Asg O<|aa<|ao<|Rr<|?_
   exact ar O O (λw hw=>⟨b3,i,hi,hz,rfl,ae hw,(hw.own 3 b3 _ _ O).2.elim id False.elim,(hw.own 3 b3 _ _ O).1⟩)
 ·refine Bnb false O O (λ_=>aI _ (i:Int) 47) (h1)<|Mv O<|Sk<|Sk<|Sk<|Sk<|Pk O O O<|aa<|aH O<|bv<|Xp<|Mv O<|ct (l:=i) (h':=48) O underlying32 sizeOf5 O O om om O O<|Asg O<|aa<|ao<|Rr<|?_
  exact ar O O (λw hw=>⟨b3,i,hi,hz,rfl,ae hw,(hw.own 3 b3 _ _ O).2.elim id False.elim,(hw.own 3 b3 _ _ O).1⟩)
def Z36:LW:=List.replicate 12 (0#64)++(List.replicate 12 (0#64)++List.replicate 12 (0#64))
theorem Mw:CDL Z36=Z36:=by
 unfold CDL;rw[if_pos aC];rfl
theorem tg(p:LW)(ys:L8)(i:Nat)(h: ∀j,j<i->ys.getD j 0#8=0#8): ∀k,k<=8*i->CMU p ys k=Z36
 |0,_=>rfl
 |k+1,hk=>by
  rw[CMU,tg p ys i h k om,Mw,if_neg];rw[f8,show ys.getD (k / 8) 0=0#8 from h (k / 8) om];simp
theorem oY(p:LW)(ys:L8)(i:Nat)(h: ∀j,j<i->ys.getD j 0#8=0#8): ∀k,CMU p ys (8*i+k)=CMU p (ys.drop i) k
 |0=>by rw[Nat.add_zero,tg p ys i h _ (Nat.le_refl _)];rfl
 |k+1=>by
  have e:f8 ys (8*i+k)=f8 (ys.drop i) k:=by
   rw[f8,f8,show (8*i+k) / 8=i+k / 8 from by omega,show (8*i+k) % 8=k % 8 from by omega,List.getD_eq_getElem?_getD,List.getD_eq_getElem?_getD,List.getElem?_drop]
  rw[<-Nat.add_assoc,CMU,CMU,oY p ys i h k,e]
def KYW(s:LW):L8:=EN1 (CMU G1W (BYs s 48) 384)
theorem BF{s q:LW}{i:Nat}{ys bs:L8}(h0: ∀j,j<i->(BYs s 48).getD j 0#8=0#8)(hi:i<=47)(hys:BYs s 48=ys)(hb:bs.length=48-i)(hbe:ys.drop i=bs)(hq:CMU G1W bs (8*bs.length)=q):EN1 q=KYW s:=by
 have h:=oY G1W (BYs s 48) i h0 (8*bs.length);rw[hys,hbe,hq,show 8*i+8*bs.length=384 from by omega,<-hys]at h
 rw[KYW,h]
end
section
open Go.RowKit
open Sh
structure Cf where
 g:L8
 v:L8
 s:BitVec 64
 e:BitVec 64
 z:Int
def Cf.cs(c:Cf):List Value:=c.g.map U8++(c.v.map U8++[U64 c.s,U64 c.e,I c.z])
structure Cf.Ok(c:Cf):Prop where
 g:c.g.length=32
 v:c.v.length=4
theorem Cf.len{c:Cf}(h:c.Ok):c.cs.length=39:=by simp[Cf.cs,h.g,h.v]
structure Cn where
 (bc bw bm:Nat) (cf:Cf) (sd:BitVec 64) (aA:Option Addr) (cA:Nat) (ats:L6) (aD:Option Addr) (cD:Nat) (ms:List Co)
 (aK:Option Addr) (cK nK:Nat) (xK:List Value) (aS:Option Addr) (cS nS:Nat) (xS:List Value) (tx px:Value)
def Cn.cs(c:Cn):List Value:=pnt c.bw::pnt c.bm::(c.cf.cs++[U64 c.sd,.slice c.aA c.ats.length c.cA,.slice c.aD c.ms.length c.cD])
def Cn.ws(c:Cn):List Value:=[pnt c.bm,.slice c.aK c.nK c.cK,.slice c.aS c.nS c.cS,c.tx,c.px]
def Cn.own(c:Cn)(k:Nat):Prop:=k=c.bc\/k=c.bw\/Of c.aA k\/Of c.aD k\/Of c.aK k\/Of c.aS k
structure ChAt(w:World)(c:Cn):Prop where
 oc:OwnB w c.bc c.cs 61
 ow:OwnB w c.bw c.ws 115
 oA:SlV 22 w c.aA c.cA (c.ats.map U64)
 oD:SlW 35 49 w c.aD c.cD c.ms.length (c.ms.flatMap Co.cs)
 oK:SlW 33 48 w c.aK c.cK c.nK c.xK
 oS:SlW 120 6 w c.aS c.cS c.nS c.xS
 ks: ∀m∈c.ms,m.Ok/\RwsAt 48 w m.ka m.ks/\∀k,Of m.ka k->¬c.own k/\k<w.heap.size
 mkr:gZ w c.bm
 cf:c.cf.Ok
 d1:c.bc≠c.bw
 dA: ∀k,Of c.aA k->k≠c.bc/\k≠c.bw
 dD: ∀k,Of c.aD k->k≠c.bc/\k≠c.bw/\¬Of c.aA k
 dK: ∀k,Of c.aK k->k≠c.bc/\k≠c.bw/\¬Of c.aA k/\¬Of c.aD k
 dS: ∀k,Of c.aS k->k≠c.bc/\k≠c.bw/\¬Of c.aA k/\¬Of c.aD k/\¬Of c.aK k
 dm: ¬c.own c.bm
 low: ∀k,c.own k->6<=k
 one:c.tx.oneCell'=true/\c.px.oneCell'=true
 ln:c.ats.length=c.ms.length
 kw: ∀m∈c.ms,SlW 33 48 w m.ka m.kc m.ks.length (m.ks.flatten.map U8)/\∀k,Of m.ka k->6<=k
theorem ChAt.grow{w w':World}{c:Cn}(h:ChAt w c)(g:Grow w w'):ChAt w' c:=
 ⟨h.oc.grow g,h.ow.grow g,h.oA.grow g,h.oD.grow g,h.oK.grow g,h.oS.grow g,λm hm=>⟨(h.ks m hm).1,(h.ks m hm).2.1.grow g,λk hk=>⟨((h.ks m hm).2.2 k hk).1,Nat.lt_of_lt_of_le ((h.ks m hm).2.2 k hk).2 g.size⟩⟩,h.mkr.grow g,h.cf,h.d1,h.dA,h.dD,h.dK,h.dS,h.dm,h.low,h.one,h.ln,λm hm=>⟨(h.kw m hm).1.grow g,(h.kw m hm).2⟩⟩
theorem ChAt.lt{w:World}{c:Cn}(h:ChAt w c)(k:Nat)(hk:c.own k):k<w.heap.size:=by
 rcases hk with rfl|rfl|hk|hk|hk|hk
 ·exact h.oc.lt
 ·exact h.ow.lt
 ·obtain ⟨ad,e,rfl⟩:=hk;exact h.oA.lt ad e
 ·exact h.oD.lt k hk
 ·exact h.oK.lt k hk
 ·exact h.oS.lt k hk
theorem Cn.len{c:Cn}(h:c.cf.Ok):c.cs.length=44:=by simp[Cn.cs,Cf.len h]
theorem Cn.end_{c:Cn}(h:c.cf.Ok)(j:Nat):c.cs[41+j]? =[U64 c.sd,.slice c.aA c.ats.length c.cA,.slice c.aD c.ms.length c.cD][j]? :=by
 rw[show 41+j=(39+j)+1+1 from by omega]
 show (c.cf.cs++_)[39+j]? =_;rw[List.getElem?_append_right (by rw[Cf.len h];omega),Cf.len h,Nat.add_sub_cancel_left]
theorem ChAt.stK{w w':World}{c:Cn}(h:ChAt w c)(hm:MM (Of c.aK) w w')(ho:SlW 33 48 w' c.aK c.cK c.nK c.xK):ChAt w' c:=
 ⟨hm.own h.oc (λx=>(h.dK _ x).1 O),hm.own h.ow (λx=>(h.dK _ x).2.1 O),h.oA.mm hm (λad e x=>(h.dK _ x).2.2.1 ⟨ad,e,rfl⟩),h.oD.mm hm (λ_k hk x=>(h.dK _ x).2.2.2 hk),ho,h.oS.mm hm (λ_k hk x=>(h.dS _ hk).2.2.2.2 x),
  λm hmm=>⟨(h.ks m hmm).1,(h.ks m hmm).2.1.mm hm (λ_ k hk x=>((h.ks m hmm).2.2 k hk).1 (.inr (.inr (.inr (.inr (.inl x)))))),λk hk=>⟨((h.ks m hmm).2.2 k hk).1,Nat.lt_of_lt_of_le ((h.ks m hmm).2.2 k hk).2 hm.size⟩⟩,hm.own h.mkr (λx=>h.dm (.inr (.inr (.inr (.inr (.inl x)))))),h.cf,h.d1,h.dA,h.dD,h.dK,h.dS,h.dm,h.low,h.one,h.ln,λm hmm=>⟨(h.kw m hmm).1.mm hm (λk hk x=>((h.ks m hmm).2.2 k hk).1 (.inr (.inr (.inr (.inr (.inl x)))))),(h.kw m hmm).2⟩⟩
theorem ChAt.stS{w w':World}{c:Cn}(h:ChAt w c)(hm:MM (Of c.aS) w w')(ho:SlW 120 6 w' c.aS c.cS c.nS c.xS):ChAt w' c:=
 ⟨hm.own h.oc (λx=>(h.dS _ x).1 O),hm.own h.ow (λx=>(h.dS _ x).2.1 O),h.oA.mm hm (λad e x=>(h.dS _ x).2.2.1 ⟨ad,e,rfl⟩),h.oD.mm hm (λ_k hk x=>(h.dS _ x).2.2.2.1 hk),h.oK.mm hm (λ_k hk x=>(h.dS _ x).2.2.2.2 hk),ho,
  λm hmm=>⟨(h.ks m hmm).1,(h.ks m hmm).2.1.mm hm (λ_ k hk x=>((h.ks m hmm).2.2 k hk).1 (.inr (.inr (.inr (.inr (.inr x)))))),λk hk=>⟨((h.ks m hmm).2.2 k hk).1,Nat.lt_of_lt_of_le ((h.ks m hmm).2.2 k hk).2 hm.size⟩⟩,hm.own h.mkr (λx=>h.dm (.inr (.inr (.inr (.inr (.inr x)))))),h.cf,h.d1,h.dA,h.dD,h.dK,h.dS,h.dm,h.low,h.one,h.ln,λm hmm=>⟨(h.kw m hmm).1.mm hm (λk hk x=>((h.ks m hmm).2.2 k hk).1 (.inr (.inr (.inr (.inr (.inr x)))))),(h.kw m hmm).2⟩⟩
theorem ChAt.mm{M:Nat->Prop}{w w':World}{c:Cn}(h:ChAt w c)(hm:MM M w w')(ho: ∀k,c.own k->¬M k)(hu: ∀m∈c.ms,∀k,Of m.ka k->¬M k)(hb: ¬M c.bm):ChAt w' c:=
 ⟨hm.own h.oc (ho _ (.inl O)),hm.own h.ow (ho _ (.inr (.inl O))),h.oA.mm hm (λad e=>ho _ (.inr (.inr (.inl ⟨ad,e,rfl⟩)))),h.oD.mm hm (λ_k hk=>ho _ (.inr (.inr (.inr (.inl hk))))),h.oK.mm hm (λ_k hk=>ho _ (.inr (.inr (.inr (.inr (.inl hk)))))),h.oS.mm hm (λ_k hk=>ho _ (.inr (.inr (.inr (.inr (.inr hk)))))),
  λm hmm=>⟨(h.ks m hmm).1,(h.ks m hmm).2.1.mm hm (λ_=>hu m hmm),λk hk=>⟨((h.ks m hmm).2.2 k hk).1,Nat.lt_of_lt_of_le ((h.ks m hmm).2.2 k hk).2 hm.size⟩⟩,hm.own h.mkr hb,h.cf,h.d1,h.dA,h.dD,h.dK,h.dS,h.dm,h.low,h.one,h.ln,λm hmm=>⟨(h.kw m hmm).1.mm hm (hu m hmm),(h.kw m hmm).2⟩⟩
def Fx(Q:World->Prop):Cls:=λw=>Gt w/\Q w
theorem dk{Q:World->Prop}(hq: ∀w w',Q w->Grow w w'->Q w'):dB Gt (Fx Q):=
 ⟨λw w' h g=>⟨gt_low.same w w' (λk hk=>g.block k (Nat.lt_of_lt_of_le hk (gt_low.size w h.1))) h.1,hq w w' h.2 g⟩,λ_ h=>h.1⟩
theorem bQ{C:Cls}{Q:World->Prop}(h:dB Gt C)(hq: ∀w w',Q w->Grow w w'->Q w'):dB Gt (λw=>C w/\Q w):=⟨λw w' x g=>⟨h.1 w w' x.1 g,hq w w' x.2 g⟩,λw x=>h.2 w x.1⟩
theorem Fj(w:World):(zeroValue 33).run prog w=.ok (.agg ((List.replicate 48 (0#8)).map U8).toArray) w:=(zeroValue33 w).trans aE
theorem Dh:TI prog 33 (.agg ((List.replicate 48 (0#8)).map U8).toArray) 48 48:=lN kr
theorem zh:TI prog 120 (bj (List.replicate 6 (0#64))) 6 48:=lN kr
def Cn.pub(c:Cn)(a1:Option Addr)(c1:Nat)(x1:List Value)(a2:Option Addr)(c2:Nat)(x2:List Value):Cn:=⟨c.bc,c.bw,c.bm,c.cf,c.sd,c.aA,c.cA,c.ats,c.aD,c.cD,c.ms,a1,c1,c.nK+1,x1,a2,c2,c.nS+1,x2,c.tx,c.px⟩
theorem sJ{c:Cn}{w w5 w8:World}{a1 a2:Option Addr}{c1 c2:Nat}{x1 x2:List Value}(h0:ChAt w c)(hw:Gt w)(h5:ChAt w5 c)(hK:SlW 33 48 w5 a1 c1 (c.nK+1) x1)(hS:SlW 120 6 w5 a2 c2 (c.nS+1) x2)
 (n1: ∀k,Of a1 k->Of c.aK k\/w.heap.size<=k) (n2: ∀k,Of a2 k->Of c.aS k\/w.heap.size<=k) (n12: ∀k,Of a1 k->¬Of a2 k) (m:MM (λk=>k=c.bw) w5 w8)
 (ho:OwnB w8 c.bw ((c.ws.set 1 (.slice a1 (c.nK+1) c1)).set 2 (.slice a2 (c.nS+1) c2)) 115):ChAt w8 (c.pub a1 c1 x1 a2 c2 x2):=by
 have hz:=gt_low.size w hw;have L:=h0.lt;have eK: ∀k,Of a1 k->k≠c.bc/\k≠c.bw/\¬Of c.aA k/\¬Of c.aD k:=λk hk=>by
  rcases n1 k hk with h|h
  ·exact h0.dK k h
  ·exact ⟨λe=>by have:=L c.bc (.inl O);omega,λe=>by have:=L c.bw (.inr (.inl O));omega,λe=>by have:=L k (.inr (.inr (.inl e)));omega,λe=>by have:=L k (.inr (.inr (.inr (.inl e))));omega⟩
 have eS: ∀k,Of a2 k->k≠c.bc/\k≠c.bw/\¬Of c.aA k/\¬Of c.aD k:=λk hk=>by
  rcases n2 k hk with h|h
  ·exact ⟨(h0.dS k h).1,(h0.dS k h).2.1,(h0.dS k h).2.2.1,(h0.dS k h).2.2.2.1⟩
  ·exact ⟨λe=>by have:=L c.bc (.inl O);omega,λe=>by have:=L c.bw (.inr (.inl O));omega,λe=>by have:=L k (.inr (.inr (.inl e)));omega,λe=>by have:=L k (.inr (.inr (.inr (.inl e))));omega⟩
 have hsub: ∀k,(c.pub a1 c1 x1 a2 c2 x2).own k->c.own k\/w.heap.size<=k:=λk hk=>by
  rcases hk with h|h|h|h|h|h
  ·exact .inl (.inl h)
  ·exact .inl (.inr (.inl h))
  ·exact .inl (.inr (.inr (.inl h)))
  ·exact .inl (.inr (.inr (.inr (.inl h))))
  ·exact (n1 k h).imp (λh=>(.inr (.inr (.inr (.inr (.inl h)))))) id
  ·exact (n2 k h).imp (λh=>(.inr (.inr (.inr (.inr (.inr (h))))))) id
 refine ⟨m.own h5.oc h0.d1,ho,h5.oA.mm m (λad e x=>(h0.dA _ ⟨ad,e,rfl⟩).2 x),h5.oD.mm m (λk hk x=>(h0.dD k hk).2.1 x),hK.mm m (λk hk x=>(eK k hk).2.1 x),hS.mm m (λk hk x=>(eS k hk).2.1 x),
  λq hq=> ?_,m.own h5.mkr (λx=>h0.dm (.inr (.inl x))),h0.cf,h0.d1,h0.dA,h0.dD,λk hk=>eK k hk,λk hk=>⟨(eS k hk).1,(eS k hk).2.1,(eS k hk).2.2.1,(eS k hk).2.2.2,λx=>n12 k x hk⟩,λx=> ?_,λk hk=> ?_,h0.one,h0.ln,λq hq=>⟨(h5.kw q hq).1.mm m (λk hk x=>((h5.ks q hq).2.2 k hk).1 (.inr (.inl x))),(h5.kw q hq).2⟩⟩
 ·obtain ⟨q1,q2,q3⟩:=h5.ks q hq
  refine ⟨q1,q2.mm m (λ_ k hk x=>(q3 k hk).1 (.inr (.inl x))),λk hk=>⟨λx=> ?_,Nat.lt_of_lt_of_le (q3 k hk).2 m.size⟩⟩;rcases hsub k x with h|h
  ·exact (q3 k hk).1 h
  ·have:=((h0.ks q hq).2.2 k hk).2;omega
 ·rcases hsub _ x with h|h
  ·exact h0.dm h
  ·have:=h0.mkr.lt;exact absurd h (Nat.not_le.2 this)
 ·rcases hsub k hk with h|h
  ·exact h0.low k h
  ·omega
end
section
open Go.RowKit
open Sh
theorem ent68:aL prog 68:=λ_ _=>kr
theorem ent29:aL prog 29:=λ_ _=>kr
theorem ent33:aL prog 33:=λ_ _=>kr
theorem ent28:aL prog 28:=λ_ _=>kr
theorem ent66:aL prog 66:=λ_ _=>kr
theorem ent10:aL prog 10:=λ_ _=>kr
theorem ent11:aL prog 11:=λ_ _=>kr
theorem ent26:aL prog 26:=λ_ _=>kr
theorem ent30:aL prog 30:=λ_ _=>kr
theorem ent31:aL prog 31:=λ_ _=>kr
theorem sM{c:Cn}{w:World}{a1 a2:Option Addr}{c1 c2:Nat}{x1 x2:List Value}(n1: ∀k,Of a1 k->Of c.aK k\/w.heap.size<=k)(n2: ∀k,Of a2 k->Of c.aS k\/w.heap.size<=k): ∀k,(c.pub a1 c1 x1 a2 c2 x2).own k->c.own k\/w.heap.size<=k:=λk hk=>by
 rcases hk with h|h|h|h|h|h
 ·exact .inl (.inl h)
 ·exact .inl (.inr (.inl h))
 ·exact .inl (.inr (.inr (.inl h)))
 ·exact .inl (.inr (.inr (.inr (.inl h))))
 ·exact (n1 k h).imp (λh=>(.inr (.inr (.inr (.inr (.inl h)))))) id
 ·exact (n2 k h).imp (λh=>(.inr (.inr (.inr (.inr (.inr (h))))))) id
theorem xT(c:Cn)(s:LW)(hs:s.length=6)(hnK:c.nK<=1000000)(hnS:c.nS<=1000000)(w:World)(hw:Gt w)(hch:ChAt w c):CLS 68 [pnt c.bc,bj (s)].toArray w (λe w'=> ∃(kb:L8) (a1:Option Addr) (c1:Nat) (x1:List Value) (a2:Option Addr) (c2:Nat) (x2:List Value),e=.returned (.agg (kb.map U8).toArray)/\kb.length=48/\kb=KYW s/\MM c.own w w'/\ChAt w' (c.pub a1 c1 x1 a2 c2 x2)/\∀k,(c.pub a1 c1 x1 a2 c2 x2).own k->c.own k\/w.heap.size<=k):=by
 refine Hf func68 O hw<|λhGF=>am (E:=EE [72,69])<|Bx 3 hGF O<|λb3=>Al 4 hGF Fj<|λb4=>aa<|am (E:=EE [72,69])<|Al 5 hGF Fj<|λb5=>aa<|Xd [72,69]<|d9 (n:=48) O underlying33 sizeOf5 aC O O<|Ca O Au<|aq 3 O O isAgg120 sizeOf120 (by simp[hs]) O O<|?_
 refine cn O O ent72 O O (λw' hw'=>(q8 s hs w' (hGF.g _ _ _ hw')).mono λe w'' h=> ?_);obtain ⟨bm,i,hi,hi0,rfl,hg,hbn,hob⟩:=h;obtain ⟨ys,hys⟩: ∃y,BYs s 48=y:=⟨_,rfl⟩;have hyl:ys.length=48:=by rw[<-hys];exact ce _ _
 rw[hys]at hob;refine ⟨_,_,rfl,aU hGF,hw'.news aJ hg [(9,bm,ys.map U8,32)] ?_ cE, ?_⟩
 ·exact λn' b' c' t' hl=>(bx hl).elim (λ⟨_,e⟩=>by cases e;exact ⟨hbn,hob⟩) (λ⟨_,hl⟩=>by cases hl)
 clear hw' hg hbn hob;obtain ⟨bs,hbs,hbe⟩: ∃bs:L8,bs.length=48-i/\ys.drop i=bs:=⟨_,by rw[List.length_drop,hyl],rfl⟩
 rw[<-hbs];refine Cc O ent71 (λw' hw' hG=>oZ G1W ot _ bs.length bs om w' hG (BytesAt.range (λj v hv=>by rw[<-hbe,List.map_drop,List.getElem?_drop]at hv;have:=(av (n:=9) O w' hw') (i+j) v hv;rwa [Nat.zero_add]at this))) ?_
 obtain ⟨q,hq⟩: ∃q,CMU G1W bs (8*bs.length)=q:=⟨_,rfl⟩;have hql:q.length=36:=by rw[<-hq];exact jl _ ot _ _
 rw[hq];refine cn O O ent69 O O (λw' hw'=>(pR q hql w' (hGF.g _ _ _ hw')).mono λe w'' h=> ?_);obtain ⟨bm2,rfl,hg,hbn,hob⟩:=h;obtain ⟨kb,hkb⟩: ∃x,EN1 q=x:=⟨_,rfl⟩;have hkl:kb.length=48:=by rw[<-hkb];exact wZ q
 have hky:kb=KYW s:=by rw[<-hkb];exact BF hi0 hi hys hbs hbe hq
 rw[hkb]at hob;refine ⟨_,_,rfl,aU hGF,hw'.news aJ hg [(11,bm2,kb.map U8,5)] ?_ cE, ?_⟩
 ·exact λn' b' c' t' hl=>(bx hl).elim (λ⟨_,e⟩=>by cases e;exact ⟨hbn,hob⟩) (λ⟨_,hl⟩=>by cases hl)
 clear hw' hg hbn hob;refine ek 5 (o:=0) (cs:=kb) hGF O O O underlying123 sz5 (by rw[hkl];rfl) (λw' h=>BytesAt.range (av (n:=11) O w' h)) (by simp[hkl]) O O ?_
 rw[show lay 0 (kb.map U8) ((List.replicate 48 (0#8)).map U8)=kb.map U8 from dp _ _ (by simp[hkl])]
 refine aa ?_;have hch0:=hch;have hltc:=hch.lt;have hz0:=gt_low.size w hw;refine vB (C':=Fx λw'=>OwnB w' b3 (s.map U64) 120/\OwnB w' b4 ((List.replicate 48 (0#8)).map U8) 33/\OwnB w' b5 (kb.map U8) 33/\ChAt w' c/\MM c.own w w'/\w.heap.size<=b3/\w.heap.size<=b4/\w.heap.size<=b5) ?_ (λ_ h=>h) (λw' h=>⟨hGF.g _ _ _ h,(h.own 3 _ _ _ O).1,(h.own 4 _ _ _ O).1,(h.own 5 _ _ _ O).1,hch.grow (ae h),aZ (ae h),(h.own 3 _ _ _ O).2.elim id False.elim,(h.own 4 _ _ _ O).2.elim id False.elim,(h.own 5 _ _ _ O).2.elim id False.elim⟩) (λ_=>dk λ_ _ h g=>⟨h.1.grow g,h.2.1.grow g,h.2.2.1.grow g,h.2.2.2.1.grow g,h.2.2.2.2.1.trans' (M':=λ_=>False) (aZ g) (λ_ h _=>h.elim),h.2.2.2.2.2⟩);refine su (EE [2999997,2999998]) de kr kr<|bM (m:=10) [0,1,2,3,4,5,6,7,8,9,10,11,12,13,14,15,18,19,20,21,22,23,24,25] kr<|Mv O<|aR O O O<|Fa 0 O underlying61 O sizeOf44<|aT (v:=pnt c.bw) O isAgg44 (λw' h=>(h.2.2.2.2.1.oc.cell 0).trans O) O O<|Mv O<|aR O O O<|Fa 0 O underlying61 O sizeOf44<|aT (v:=pnt c.bw) O isAgg44 (λw' h=>(h.2.2.2.2.1.oc.cell 0).trans O) O O<|Mv O<|aR O O O<|Fa 0 O underlying61 O sizeOf44<|aT (v:=pnt c.bw) O isAgg44 (λw' h=>(h.2.2.2.2.1.oc.cell 0).trans O) O O<|aR O O O<|Fa 1 O underlying115 O sizeOf31<|aT (v:=.slice c.aK c.nK c.cK) O isAgg31 (λw' h=>(h.2.2.2.2.1.ow.cell 1).trans O) O O<|aP (cs:=kb.map U8) O isAgg33 sizeOf33 (by rw[List.length_map];exact hkl) (λw' h j v hv=>by have:=h.2.2.2.1.range j v hv;rwa [Addr.add_mid]) O O<|Mv O<|aR O O O<|Fa 0 O underlying61 O sizeOf44<|aT (v:=pnt c.bw) O isAgg44 (λw' h=>(h.2.2.2.2.1.oc.cell 0).trans O) O O<|aR O O O<|Fa 2 O underlying115 O sizeOf111<|aT (v:=.slice c.aS c.nS c.cS) O isAgg111 (λw' h=>(h.2.2.2.2.1.ow.cell 2).trans O) O O<|aP (cs:=s.map U64) O isAgg120 sizeOf120 (by rw[List.length_map];exact hs) (λw' h j v hv=>by have:=h.2.1.range j v hv;rwa [Addr.add_mid]) O O<|aa<|jy (m:=9) [16,26] kr kr aC<|?_
 intro i hi;simp only[List.mem_cons,List.not_mem_nil,or_false]at hi;rcases hi with rfl|rfl
 ·refine jf (b0:=w.heap.size) (kb.map U8) (dk λ_ _ h g=>⟨h.1.grow g,h.2.1.grow g,h.2.2.1.grow g,h.2.2.2.1.grow g,h.2.2.2.2.1.trans' (M':=λ_=>False) (aZ g) (λ_ h _=>h.elim),h.2.2.2.2.2⟩) (λ_ h=>gt_low.plain h) (λw' h=>h.2.2.2.2.2.1.size) O (by rw[List.length_map];exact hkl) aC aC underlying31 sizeOf33 zeroValue33 O O<|λb29 hb29=>aa<|jy (m:=8) [17,26] kr kr aC<|?_
  intro i hi;simp only[List.mem_cons,List.not_mem_nil,or_false]at hi;rcases hi with rfl|rfl
  ·refine fD (b0:=w.heap.size) (xs:=c.xK) (ys:=kb.map U8) (nx:=c.nK) (ny:=1) (U:=(λk=>k=b4\/False)) gt_low (bQ (dk λ_ _ h g=>⟨h.1.grow g,h.2.1.grow g,h.2.2.1.grow g,h.2.2.2.1.grow g,h.2.2.2.2.1.trans' (M':=λ_=>False) (aZ g) (λ_ h _=>h.elim),h.2.2.2.2.2⟩) (λ_ _ x g=>x.grow g)) (λw' h=>h.1.2.2.2.2.2.1.size) (λw' h k hk=>hk.elim (λe=>e▸h.1.2.2.1.lt) (λh=>h.elim)) O O Dh O (λw' h=>h.1.2.2.2.2.1.oK) (λk hk=>hch0.low k (.inr (.inr (.inr (.inr (.inl hk)))))) (λw' h i hi hz hs' hb=>ASrc.of underlying31 hi hz (by rw[hs'];exact Src.ofSlice w' underlying31 ⟨b29,0,none⟩ 1 1 _ (by rw[List.length_map,hkl]) (λj u hu=>by rw[Addr.add_mid,Nat.zero_add];have:=h.2.range j u hu;rwa [Nat.zero_add]at this) (λu hu=>by obtain ⟨q,_,rfl⟩:=List.mem_map.1 hu;rfl))) om om O O (λw1 w2 h hg hm hs=>⟨⟨hg,hm.own h.1.2.1 (λx=>by have h1:=(hltc _ (.inr (.inr (.inr (.inr (.inl x))))));have h2:=h.1.2.2.2.2.2.2;omega),hm.own h.1.2.2.1 (λx=>by have h1:=(hltc _ (.inr (.inr (.inr (.inr (.inl x))))));have h2:=h.1.2.2.2.2.2.2;omega),hm.own h.1.2.2.2.1 (λx=>by have h1:=(hltc _ (.inr (.inr (.inr (.inr (.inl x))))));have h2:=h.1.2.2.2.2.2.2;omega),h.1.2.2.2.2.1.stK hm hs,h.1.2.2.2.2.2.1.trans' hm (λi hi _=>(.inr (.inr (.inr (.inr (.inl hi)))))),h.1.2.2.2.2.2.2⟩,hm.own h.2 (λx=>by have h1:=(hltc _ (.inr (.inr (.inr (.inr (.inl x))))));have h2:=hb29;omega)⟩)<|λa30 c30 ha30=>aa<|bM (m:=7) [26] kr<|jf (b0:=w.heap.size) (s.map U64) (bQ (bQ (dk λ_ _ h g=>⟨h.1.grow g,h.2.1.grow g,h.2.2.1.grow g,h.2.2.2.1.grow g,h.2.2.2.2.1.trans' (M':=λ_=>False) (aZ g) (λ_ h _=>h.elim),h.2.2.2.2.2⟩) (λ_ _ x g=>x.grow g)) (λ_ _ x g=>x.grow g)) (λ_ h=>gt_low.plain h) (λw' h=>h.1.1.2.2.2.2.2.1.size) O (by rw[List.length_map];exact hs) aC aC underlying111 sizeOf120 zeroValue120 O O<|λb39 hb39=>aa<|bM (m:=6) [27] kr<|fD (b0:=w.heap.size) (xs:=c.xS) (ys:=s.map U64) (nx:=c.nS) (ny:=1) (U:=(λk=>k=b4\/Of a30 k)) gt_low (bQ (bQ (bQ (dk λ_ _ h g=>⟨h.1.grow g,h.2.1.grow g,h.2.2.1.grow g,h.2.2.2.1.grow g,h.2.2.2.2.1.trans' (M':=λ_=>False) (aZ g) (λ_ h _=>h.elim),h.2.2.2.2.2⟩) (λ_ _ x g=>x.grow g)) (λ_ _ x g=>x.grow g)) (λ_ _ x g=>x.grow g)) (λw' h=>h.1.1.1.2.2.2.2.2.1.size) (λw' h k hk=>hk.elim (λe=>e▸h.1.1.1.2.2.1.lt) (h.1.2.lt k)) O O zh O (λw' h=>h.1.1.1.2.2.2.2.1.oS) (λk hk=>hch0.low k (.inr (.inr (.inr (.inr (.inr (hk))))))) (λw' h i hi hz hs' hb=>ASrc.of underlying111 hi hz (by rw[hs'];exact Src.ofSlice w' underlying111 ⟨b39,0,none⟩ 1 1 _ (by rw[List.length_map,hs]) (λj u hu=>by rw[Addr.add_mid,Nat.zero_add];have:=h.2.range j u hu;rwa [Nat.zero_add]at this) (λu hu=>by obtain ⟨q,_,rfl⟩:=List.mem_map.1 hu;rfl))) om om O O (λw1 w2 h hg hm hs=>⟨⟨⟨⟨hg,hm.own h.1.1.1.2.1 (λx=>by have h1:=(hltc _ (.inr (.inr (.inr (.inr (.inr (x)))))));have h2:=h.1.1.1.2.2.2.2.2.2;omega),hm.own h.1.1.1.2.2.1 (λx=>by have h1:=(hltc _ (.inr (.inr (.inr (.inr (.inr (x)))))));have h2:=h.1.1.1.2.2.2.2.2.2;omega),hm.own h.1.1.1.2.2.2.1 (λx=>by have h1:=(hltc _ (.inr (.inr (.inr (.inr (.inr (x)))))));have h2:=h.1.1.1.2.2.2.2.2.2;omega),h.1.1.1.2.2.2.2.1.stS hm hs,h.1.1.1.2.2.2.2.2.1.trans' hm (λi hi _=>(.inr (.inr (.inr (.inr (.inr (hi))))))),h.1.1.1.2.2.2.2.2.2⟩,hm.own h.1.1.2 (λx=>by have h1:=(hltc _ (.inr (.inr (.inr (.inr (.inr (x)))))));have h2:=hb29;omega)⟩,h.1.2.mm hm (λk hk x=>(ha30 k hk).elim (λh1=>(hch0.dS k x).2.2.2.2 h1) (λh1=>absurd (hltc k (.inr (.inr (.inr (.inr (.inr (x))))))) (Nat.not_lt.2 h1.1)))⟩,hm.own h.2 (λx=>by have h1:=(hltc _ (.inr (.inr (.inr (.inr (.inr (x)))))));have h2:=hb39;omega)⟩)<|λa40 c40 ha40=>aa<|bM (m:=4) [28,29] kr<|aR O O O<|Fa 1 O underlying115 O sizeOf31<|aa<|bM (m:=3) [30] kr<|?_
   refine eV gt_low (λw' h=>h.1.1.1.1.1) (λw' h=>h.1.1.1.1.2.2.2.2.1.ow) (hch0.low _ (.inr (.inl O))) O O sizeOf31 O (by show 1<5;decide) O (λw5 w6 h g6 m6 o6=> ?_)
   have hGF6:=gt_low.plain g6;have F5:=h;refine aa<|bM (m:=1) [31,32] kr<|aR O O O<|Fa 2 O underlying115 O sizeOf111<|aa<|bM (m:=0) [33] kr<|?_;refine eV gt_low (λw' h=>hGF6.g _ _ _ h) (λw' h=>o6.grow (ae h)) (hch0.low _ (.inr (.inl O))) O O sizeOf111 O (by show 2<5;decide) O (λw7 w8 hC7 g8 m8 o8=> ?_)
   have m58:MM (λk=>k=c.bw) w5 w8:=(m6.trans (aZ (ae hC7))).trans m8;have n2': ∀k,Of a40 k->Of c.aS k\/w.heap.size<=k:=λk hk=>(ha40 k hk).imp id And.left;have n1': ∀k,Of a30 k->Of c.aK k\/w.heap.size<=k:=λk hk=>(ha30 k hk).imp id And.left;have n12: ∀k,Of a30 k->¬Of a40 k:=λk hk hk2=>(ha40 k hk2).elim (λh1=>(ha30 k hk).elim (λh2=>(hch0.dS k h1).2.2.2.2 h2) (λh2=>absurd (hltc k (.inr (.inr (.inr (.inr (.inr (h1))))))) (Nat.not_lt.2 h2.1))) (λh1=>h1.2 (.inr hk));have hfin:=sJ hch0 hw F5.1.1.1.1.2.2.2.2.1 F5.1.1.2 F5.2 n1' n2' n12 m58 o8;have hmm:MM c.own w w8:=F5.1.1.1.1.2.2.2.2.2.1.trans' m58 (λi hi _=>(.inr (.inl hi)));have hsz5:=F5.1.1.1.1.2.2.2.2.2.2;have hbw:=hltc _ (.inr (.inl O));have k8:=m58.own F5.1.1.1.1.2.2.2.1 om;have c8:=m58.own F5.1.1.1.1.2.2.1 om;have hGF8:=gt_low.plain g8;refine aa<|fO kr<|aY<|am (E:=EE [2999997,2999998])<|aP (cs:=kb.map U8) O isAgg33 sizeOf33 (by rw[List.length_map];exact hkl) (λw' h j v hv=>by have:=(k8.grow (ae h)).range j v hv;rwa [Addr.add_mid]) O O<|?_
   refine fL gt_low (λw' h=>hGF8.g _ _ _ h) (λw' h=>c8.grow (ae h)) om O O sizeOf33 (by rw[List.length_map];exact hkl) (bg _) (by simp[hkl]) O (λw9 w10 hC9 g10 m10 o10=> ?_)
   have o11:OwnB w10 b4 (kb.map U8) 33:=by rw[dp _ _ (by simp[hkl])]at o10;exact o10
   have hGF10:=gt_low.plain g10;refine aa<|ao<|Rr<|?_;refine d8 O O isAgg33 sizeOf33 (by rw[List.length_map];exact hkl) (λw' h=>(o11.grow (ae h)).range) (λw' h=>⟨kb,a30,c30,c.xK++kb.map U8,a40,c40,c.xS++s.map U64,rfl,hkl,hky, ?_, ?_, ?_⟩)
   ·exact ((hmm.trans (aZ (ae hC9))).trans' m10 (λi hi h1=>om)).trans' (M':=λ_=>False) (aZ (ae h)) (λ_ h _=>h.elim)
   ·refine (((hfin.grow (ae hC9)).mm m10 (λk hk e=> ?_) (λm hm k hk e=> ?_) (λe=> ?_))).grow (ae h)
    ·subst e;rcases hk with e|e|e|e|e|e
     ·have:=hltc _ (.inl e);omega
     ·have:=hltc _ (.inr (.inl e));omega
     ·have:=hltc _ (.inr (.inr (.inl e)));omega
     ·have:=hltc _ (.inr (.inr (.inr (.inl e))));omega
     ·exact (ha30 _ e).elim (λh1=>by have:=hltc _ (.inr (.inr (.inr (.inr (.inl h1)))));omega) (λh1=>h1.2 (.inl O))
     ·exact (ha40 _ e).elim (λh1=>by have:=hltc _ (.inr (.inr (.inr (.inr (.inr (h1))))));omega) (λh1=>h1.2 (.inl O))
    ·have:=((hch0.ks m hm).2.2 k hk).2;omega
    ·have h1:=hch0.mkr.lt;have h2:c.bm=_:=e;omega
   ·exact sM n1' n2'
  ·refine jf (b0:=w.heap.size) (s.map U64) (bQ (dk λ_ _ h g=>⟨h.1.grow g,h.2.1.grow g,h.2.2.1.grow g,h.2.2.2.1.grow g,h.2.2.2.2.1.trans' (M':=λ_=>False) (aZ g) (λ_ h _=>h.elim),h.2.2.2.2.2⟩) (λ_ _ x g=>x.grow g)) (λ_ h=>gt_low.plain h) (λw' h=>h.1.2.2.2.2.2.1.size) O (by rw[List.length_map];exact hs) aC aC underlying111 sizeOf120 zeroValue120 O O<|λb39 hb39=>aa<|bM (m:=7) [17] kr<|fD (b0:=w.heap.size) (xs:=c.xK) (ys:=kb.map U8) (nx:=c.nK) (ny:=1) (U:=(λk=>k=b4\/False)) gt_low (bQ (bQ (dk λ_ _ h g=>⟨h.1.grow g,h.2.1.grow g,h.2.2.1.grow g,h.2.2.2.1.grow g,h.2.2.2.2.1.trans' (M':=λ_=>False) (aZ g) (λ_ h _=>h.elim),h.2.2.2.2.2⟩) (λ_ _ x g=>x.grow g)) (λ_ _ x g=>x.grow g)) (λw' h=>h.1.1.2.2.2.2.2.1.size) (λw' h k hk=>hk.elim (λe=>e▸h.1.1.2.2.1.lt) (λh=>h.elim)) O O Dh O (λw' h=>h.1.1.2.2.2.2.1.oK) (λk hk=>hch0.low k (.inr (.inr (.inr (.inr (.inl hk)))))) (λw' h i hi hz hs' hb=>ASrc.of underlying31 hi hz (by rw[hs'];exact Src.ofSlice w' underlying31 ⟨b29,0,none⟩ 1 1 _ (by rw[List.length_map,hkl]) (λj u hu=>by rw[Addr.add_mid,Nat.zero_add];have:=h.1.2.range j u hu;rwa [Nat.zero_add]at this) (λu hu=>by obtain ⟨q,_,rfl⟩:=List.mem_map.1 hu;rfl))) om om O O (λw1 w2 h hg hm hs=>⟨⟨⟨hg,hm.own h.1.1.2.1 (λx=>by have h1:=(hltc _ (.inr (.inr (.inr (.inr (.inl x))))));have h2:=h.1.1.2.2.2.2.2.2;omega),hm.own h.1.1.2.2.1 (λx=>by have h1:=(hltc _ (.inr (.inr (.inr (.inr (.inl x))))));have h2:=h.1.1.2.2.2.2.2.2;omega),hm.own h.1.1.2.2.2.1 (λx=>by have h1:=(hltc _ (.inr (.inr (.inr (.inr (.inl x))))));have h2:=h.1.1.2.2.2.2.2.2;omega),h.1.1.2.2.2.2.1.stK hm hs,h.1.1.2.2.2.2.2.1.trans' hm (λi hi _=>(.inr (.inr (.inr (.inr (.inl hi)))))),h.1.1.2.2.2.2.2.2⟩,hm.own h.1.2 (λx=>by have h1:=(hltc _ (.inr (.inr (.inr (.inr (.inl x))))));have h2:=hb29;omega)⟩,hm.own h.2 (λx=>by have h1:=(hltc _ (.inr (.inr (.inr (.inr (.inl x))))));have h2:=hb39;omega)⟩)<|λa30 c30 ha30=>aa<|bM (m:=6) [27] kr<|fD (b0:=w.heap.size) (xs:=c.xS) (ys:=s.map U64) (nx:=c.nS) (ny:=1) (U:=(λk=>k=b4\/Of a30 k)) gt_low (bQ (bQ (bQ (dk λ_ _ h g=>⟨h.1.grow g,h.2.1.grow g,h.2.2.1.grow g,h.2.2.2.1.grow g,h.2.2.2.2.1.trans' (M':=λ_=>False) (aZ g) (λ_ h _=>h.elim),h.2.2.2.2.2⟩) (λ_ _ x g=>x.grow g)) (λ_ _ x g=>x.grow g)) (λ_ _ x g=>x.grow g)) (λw' h=>h.1.1.1.2.2.2.2.2.1.size) (λw' h k hk=>hk.elim (λe=>e▸h.1.1.1.2.2.1.lt) (h.2.lt k)) O O zh O (λw' h=>h.1.1.1.2.2.2.2.1.oS) (λk hk=>hch0.low k (.inr (.inr (.inr (.inr (.inr (hk))))))) (λw' h i hi hz hs' hb=>ASrc.of underlying111 hi hz (by rw[hs'];exact Src.ofSlice w' underlying111 ⟨b39,0,none⟩ 1 1 _ (by rw[List.length_map,hs]) (λj u hu=>by rw[Addr.add_mid,Nat.zero_add];have:=h.1.2.range j u hu;rwa [Nat.zero_add]at this) (λu hu=>by obtain ⟨q,_,rfl⟩:=List.mem_map.1 hu;rfl))) om om O O (λw1 w2 h hg hm hs=>⟨⟨⟨⟨hg,hm.own h.1.1.1.2.1 (λx=>by have h1:=(hltc _ (.inr (.inr (.inr (.inr (.inr (x)))))));have h2:=h.1.1.1.2.2.2.2.2.2;omega),hm.own h.1.1.1.2.2.1 (λx=>by have h1:=(hltc _ (.inr (.inr (.inr (.inr (.inr (x)))))));have h2:=h.1.1.1.2.2.2.2.2.2;omega),hm.own h.1.1.1.2.2.2.1 (λx=>by have h1:=(hltc _ (.inr (.inr (.inr (.inr (.inr (x)))))));have h2:=h.1.1.1.2.2.2.2.2.2;omega),h.1.1.1.2.2.2.2.1.stS hm hs,h.1.1.1.2.2.2.2.2.1.trans' hm (λi hi _=>(.inr (.inr (.inr (.inr (.inr (hi))))))),h.1.1.1.2.2.2.2.2.2⟩,hm.own h.1.1.2 (λx=>by have h1:=(hltc _ (.inr (.inr (.inr (.inr (.inr (x)))))));have h2:=hb29;omega)⟩,hm.own h.1.2 (λx=>by have h1:=(hltc _ (.inr (.inr (.inr (.inr (.inr (x)))))));have h2:=hb39;omega)⟩,h.2.mm hm (λk hk x=>(ha30 k hk).elim (λh1=>(hch0.dS k x).2.2.2.2 h1) (λh1=>absurd (hltc k (.inr (.inr (.inr (.inr (.inr (x))))))) (Nat.not_lt.2 h1.1)))⟩)<|λa40 c40 ha40=>aa<|bM (m:=4) [28,29] kr<|aR O O O<|Fa 1 O underlying115 O sizeOf31<|aa<|bM (m:=3) [30] kr<|?_
   refine eV gt_low (λw' h=>h.1.1.1.1.1) (λw' h=>h.1.1.1.1.2.2.2.2.1.ow) (hch0.low _ (.inr (.inl O))) O O sizeOf31 O (by show 1<5;decide) O (λw5 w6 h g6 m6 o6=> ?_)
   have hGF6:=gt_low.plain g6;have F5:=h;refine aa<|bM (m:=1) [31,32] kr<|aR O O O<|Fa 2 O underlying115 O sizeOf111<|aa<|bM (m:=0) [33] kr<|?_;refine eV gt_low (λw' h=>hGF6.g _ _ _ h) (λw' h=>o6.grow (ae h)) (hch0.low _ (.inr (.inl O))) O O sizeOf111 O (by show 2<5;decide) O (λw7 w8 hC7 g8 m8 o8=> ?_)
   have m58:MM (λk=>k=c.bw) w5 w8:=(m6.trans (aZ (ae hC7))).trans m8;have n2': ∀k,Of a40 k->Of c.aS k\/w.heap.size<=k:=λk hk=>(ha40 k hk).imp id And.left;have n1': ∀k,Of a30 k->Of c.aK k\/w.heap.size<=k:=λk hk=>(ha30 k hk).imp id And.left;have n12: ∀k,Of a30 k->¬Of a40 k:=λk hk hk2=>(ha40 k hk2).elim (λh1=>(ha30 k hk).elim (λh2=>(hch0.dS k h1).2.2.2.2 h2) (λh2=>absurd (hltc k (.inr (.inr (.inr (.inr (.inr (h1))))))) (Nat.not_lt.2 h2.1))) (λh1=>h1.2 (.inr hk));have hfin:=sJ hch0 hw F5.1.1.1.1.2.2.2.2.1 F5.1.2 F5.2 n1' n2' n12 m58 o8;have hmm:MM c.own w w8:=F5.1.1.1.1.2.2.2.2.2.1.trans' m58 (λi hi _=>(.inr (.inl hi)));have hsz5:=F5.1.1.1.1.2.2.2.2.2.2;have hbw:=hltc _ (.inr (.inl O));have k8:=m58.own F5.1.1.1.1.2.2.2.1 om;have c8:=m58.own F5.1.1.1.1.2.2.1 om;have hGF8:=gt_low.plain g8;refine aa<|fO kr<|aY<|am (E:=EE [2999997,2999998])<|aP (cs:=kb.map U8) O isAgg33 sizeOf33 (by rw[List.length_map];exact hkl) (λw' h j v hv=>by have:=(k8.grow (ae h)).range j v hv;rwa [Addr.add_mid]) O O<|?_
   refine fL gt_low (λw' h=>hGF8.g _ _ _ h) (λw' h=>c8.grow (ae h)) om O O sizeOf33 (by rw[List.length_map];exact hkl) (bg _) (by simp[hkl]) O (λw9 w10 hC9 g10 m10 o10=> ?_)
   have o11:OwnB w10 b4 (kb.map U8) 33:=by rw[dp _ _ (by simp[hkl])]at o10;exact o10
   have hGF10:=gt_low.plain g10;refine aa<|ao<|Rr<|?_;refine d8 O O isAgg33 sizeOf33 (by rw[List.length_map];exact hkl) (λw' h=>(o11.grow (ae h)).range) (λw' h=>⟨kb,a30,c30,c.xK++kb.map U8,a40,c40,c.xS++s.map U64,rfl,hkl,hky, ?_, ?_, ?_⟩)
   ·exact ((hmm.trans (aZ (ae hC9))).trans' m10 (λi hi h1=>om)).trans' (M':=λ_=>False) (aZ (ae h)) (λ_ h _=>h.elim)
   ·refine (((hfin.grow (ae hC9)).mm m10 (λk hk e=> ?_) (λm hm k hk e=> ?_) (λe=> ?_))).grow (ae h)
    ·subst e;rcases hk with e|e|e|e|e|e
     ·have:=hltc _ (.inl e);omega
     ·have:=hltc _ (.inr (.inl e));omega
     ·have:=hltc _ (.inr (.inr (.inl e)));omega
     ·have:=hltc _ (.inr (.inr (.inr (.inl e))));omega
     ·exact (ha30 _ e).elim (λh1=>by have:=hltc _ (.inr (.inr (.inr (.inr (.inl h1)))));omega) (λh1=>h1.2 (.inl O))
     ·exact (ha40 _ e).elim (λh1=>by have:=hltc _ (.inr (.inr (.inr (.inr (.inr (h1))))));omega) (λh1=>h1.2 (.inl O))
    ·have:=((hch0.ks m hm).2.2 k hk).2;omega
    ·have h1:=hch0.mkr.lt;have h2:c.bm=_:=e;omega
   ·exact sM n1' n2'
 ·refine jf (b0:=w.heap.size) (s.map U64) (dk λ_ _ h g=>⟨h.1.grow g,h.2.1.grow g,h.2.2.1.grow g,h.2.2.2.1.grow g,h.2.2.2.2.1.trans' (M':=λ_=>False) (aZ g) (λ_ h _=>h.elim),h.2.2.2.2.2⟩) (λ_ h=>gt_low.plain h) (λw' h=>h.2.2.2.2.2.1.size) O (by rw[List.length_map];exact hs) aC aC underlying111 sizeOf120 zeroValue120 O O<|λb39 hb39=>aa<|bM (m:=8) [16] kr<|jf (b0:=w.heap.size) (kb.map U8) (bQ (dk λ_ _ h g=>⟨h.1.grow g,h.2.1.grow g,h.2.2.1.grow g,h.2.2.2.1.grow g,h.2.2.2.2.1.trans' (M':=λ_=>False) (aZ g) (λ_ h _=>h.elim),h.2.2.2.2.2⟩) (λ_ _ x g=>x.grow g)) (λ_ h=>gt_low.plain h) (λw' h=>h.1.2.2.2.2.2.1.size) O (by rw[List.length_map];exact hkl) aC aC underlying31 sizeOf33 zeroValue33 O O<|λb29 hb29=>aa<|bM (m:=7) [17] kr<|fD (b0:=w.heap.size) (xs:=c.xK) (ys:=kb.map U8) (nx:=c.nK) (ny:=1) (U:=(λk=>k=b4\/False)) gt_low (bQ (bQ (dk λ_ _ h g=>⟨h.1.grow g,h.2.1.grow g,h.2.2.1.grow g,h.2.2.2.1.grow g,h.2.2.2.2.1.trans' (M':=λ_=>False) (aZ g) (λ_ h _=>h.elim),h.2.2.2.2.2⟩) (λ_ _ x g=>x.grow g)) (λ_ _ x g=>x.grow g)) (λw' h=>h.1.1.2.2.2.2.2.1.size) (λw' h k hk=>hk.elim (λe=>e▸h.1.1.2.2.1.lt) (λh=>h.elim)) O O Dh O (λw' h=>h.1.1.2.2.2.2.1.oK) (λk hk=>hch0.low k (.inr (.inr (.inr (.inr (.inl hk)))))) (λw' h i hi hz hs' hb=>ASrc.of underlying31 hi hz (by rw[hs'];exact Src.ofSlice w' underlying31 ⟨b29,0,none⟩ 1 1 _ (by rw[List.length_map,hkl]) (λj u hu=>by rw[Addr.add_mid,Nat.zero_add];have:=h.2.range j u hu;rwa [Nat.zero_add]at this) (λu hu=>by obtain ⟨q,_,rfl⟩:=List.mem_map.1 hu;rfl))) om om O O (λw1 w2 h hg hm hs=>⟨⟨⟨hg,hm.own h.1.1.2.1 (λx=>by have h1:=(hltc _ (.inr (.inr (.inr (.inr (.inl x))))));have h2:=h.1.1.2.2.2.2.2.2;omega),hm.own h.1.1.2.2.1 (λx=>by have h1:=(hltc _ (.inr (.inr (.inr (.inr (.inl x))))));have h2:=h.1.1.2.2.2.2.2.2;omega),hm.own h.1.1.2.2.2.1 (λx=>by have h1:=(hltc _ (.inr (.inr (.inr (.inr (.inl x))))));have h2:=h.1.1.2.2.2.2.2.2;omega),h.1.1.2.2.2.2.1.stK hm hs,h.1.1.2.2.2.2.2.1.trans' hm (λi hi _=>(.inr (.inr (.inr (.inr (.inl hi)))))),h.1.1.2.2.2.2.2.2⟩,hm.own h.1.2 (λx=>by have h1:=(hltc _ (.inr (.inr (.inr (.inr (.inl x))))));have h2:=hb39;omega)⟩,hm.own h.2 (λx=>by have h1:=(hltc _ (.inr (.inr (.inr (.inr (.inl x))))));have h2:=hb29;omega)⟩)<|λa30 c30 ha30=>aa<|bM (m:=6) [27] kr<|fD (b0:=w.heap.size) (xs:=c.xS) (ys:=s.map U64) (nx:=c.nS) (ny:=1) (U:=(λk=>k=b4\/Of a30 k)) gt_low (bQ (bQ (bQ (dk λ_ _ h g=>⟨h.1.grow g,h.2.1.grow g,h.2.2.1.grow g,h.2.2.2.1.grow g,h.2.2.2.2.1.trans' (M':=λ_=>False) (aZ g) (λ_ h _=>h.elim),h.2.2.2.2.2⟩) (λ_ _ x g=>x.grow g)) (λ_ _ x g=>x.grow g)) (λ_ _ x g=>x.grow g)) (λw' h=>h.1.1.1.2.2.2.2.2.1.size) (λw' h k hk=>hk.elim (λe=>e▸h.1.1.1.2.2.1.lt) (h.2.lt k)) O O zh O (λw' h=>h.1.1.1.2.2.2.2.1.oS) (λk hk=>hch0.low k (.inr (.inr (.inr (.inr (.inr (hk))))))) (λw' h i hi hz hs' hb=>ASrc.of underlying111 hi hz (by rw[hs'];exact Src.ofSlice w' underlying111 ⟨b39,0,none⟩ 1 1 _ (by rw[List.length_map,hs]) (λj u hu=>by rw[Addr.add_mid,Nat.zero_add];have:=h.1.1.2.range j u hu;rwa [Nat.zero_add]at this) (λu hu=>by obtain ⟨q,_,rfl⟩:=List.mem_map.1 hu;rfl))) om om O O (λw1 w2 h hg hm hs=>⟨⟨⟨⟨hg,hm.own h.1.1.1.2.1 (λx=>by have h1:=(hltc _ (.inr (.inr (.inr (.inr (.inr (x)))))));have h2:=h.1.1.1.2.2.2.2.2.2;omega),hm.own h.1.1.1.2.2.1 (λx=>by have h1:=(hltc _ (.inr (.inr (.inr (.inr (.inr (x)))))));have h2:=h.1.1.1.2.2.2.2.2.2;omega),hm.own h.1.1.1.2.2.2.1 (λx=>by have h1:=(hltc _ (.inr (.inr (.inr (.inr (.inr (x)))))));have h2:=h.1.1.1.2.2.2.2.2.2;omega),h.1.1.1.2.2.2.2.1.stS hm hs,h.1.1.1.2.2.2.2.2.1.trans' hm (λi hi _=>(.inr (.inr (.inr (.inr (.inr (hi))))))),h.1.1.1.2.2.2.2.2.2⟩,hm.own h.1.1.2 (λx=>by have h1:=(hltc _ (.inr (.inr (.inr (.inr (.inr (x)))))));have h2:=hb39;omega)⟩,hm.own h.1.2 (λx=>by have h1:=(hltc _ (.inr (.inr (.inr (.inr (.inr (x)))))));have h2:=hb29;omega)⟩,h.2.mm hm (λk hk x=>(ha30 k hk).elim (λh1=>(hch0.dS k x).2.2.2.2 h1) (λh1=>absurd (hltc k (.inr (.inr (.inr (.inr (.inr (x))))))) (Nat.not_lt.2 h1.1)))⟩)<|λa40 c40 ha40=>aa<|bM (m:=4) [28,29] kr<|aR O O O<|Fa 1 O underlying115 O sizeOf31<|aa<|bM (m:=3) [30] kr<|?_
  refine eV gt_low (λw' h=>h.1.1.1.1.1) (λw' h=>h.1.1.1.1.2.2.2.2.1.ow) (hch0.low _ (.inr (.inl O))) O O sizeOf31 O (by show 1<5;decide) O (λw5 w6 h g6 m6 o6=> ?_)
  have hGF6:=gt_low.plain g6;have F5:=h;refine aa<|bM (m:=1) [31,32] kr<|aR O O O<|Fa 2 O underlying115 O sizeOf111<|aa<|bM (m:=0) [33] kr<|?_;refine eV gt_low (λw' h=>hGF6.g _ _ _ h) (λw' h=>o6.grow (ae h)) (hch0.low _ (.inr (.inl O))) O O sizeOf111 O (by show 2<5;decide) O (λw7 w8 hC7 g8 m8 o8=> ?_)
  have m58:MM (λk=>k=c.bw) w5 w8:=(m6.trans (aZ (ae hC7))).trans m8;have n2': ∀k,Of a40 k->Of c.aS k\/w.heap.size<=k:=λk hk=>(ha40 k hk).imp id And.left;have n1': ∀k,Of a30 k->Of c.aK k\/w.heap.size<=k:=λk hk=>(ha30 k hk).imp id And.left;have n12: ∀k,Of a30 k->¬Of a40 k:=λk hk hk2=>(ha40 k hk2).elim (λh1=>(ha30 k hk).elim (λh2=>(hch0.dS k h1).2.2.2.2 h2) (λh2=>absurd (hltc k (.inr (.inr (.inr (.inr (.inr (h1))))))) (Nat.not_lt.2 h2.1))) (λh1=>h1.2 (.inr hk));have hfin:=sJ hch0 hw F5.1.1.1.1.2.2.2.2.1 F5.1.2 F5.2 n1' n2' n12 m58 o8;have hmm:MM c.own w w8:=F5.1.1.1.1.2.2.2.2.2.1.trans' m58 (λi hi _=>(.inr (.inl hi)));have hsz5:=F5.1.1.1.1.2.2.2.2.2.2;have hbw:=hltc _ (.inr (.inl O));have k8:=m58.own F5.1.1.1.1.2.2.2.1 om;have c8:=m58.own F5.1.1.1.1.2.2.1 om;have hGF8:=gt_low.plain g8;refine aa<|fO kr<|aY<|am (E:=EE [2999997,2999998])<|aP (cs:=kb.map U8) O isAgg33 sizeOf33 (by rw[List.length_map];exact hkl) (λw' h j v hv=>by have:=(k8.grow (ae h)).range j v hv;rwa [Addr.add_mid]) O O<|?_
  refine fL gt_low (λw' h=>hGF8.g _ _ _ h) (λw' h=>c8.grow (ae h)) om O O sizeOf33 (by rw[List.length_map];exact hkl) (bg _) (by simp[hkl]) O (λw9 w10 hC9 g10 m10 o10=> ?_)
  have o11:OwnB w10 b4 (kb.map U8) 33:=by rw[dp _ _ (by simp[hkl])]at o10;exact o10
  have hGF10:=gt_low.plain g10;refine aa<|ao<|Rr<|?_;refine d8 O O isAgg33 sizeOf33 (by rw[List.length_map];exact hkl) (λw' h=>(o11.grow (ae h)).range) (λw' h=>⟨kb,a30,c30,c.xK++kb.map U8,a40,c40,c.xS++s.map U64,rfl,hkl,hky, ?_, ?_, ?_⟩)
  ·exact ((hmm.trans (aZ (ae hC9))).trans' m10 (λi hi h1=>om)).trans' (M':=λ_=>False) (aZ (ae h)) (λ_ h _=>h.elim)
  ·refine (((hfin.grow (ae hC9)).mm m10 (λk hk e=> ?_) (λm hm k hk e=> ?_) (λe=> ?_))).grow (ae h)
   ·subst e;rcases hk with e|e|e|e|e|e
    ·have:=hltc _ (.inl e);omega
    ·have:=hltc _ (.inr (.inl e));omega
    ·have:=hltc _ (.inr (.inr (.inl e)));omega
    ·have:=hltc _ (.inr (.inr (.inr (.inl e))));omega
    ·exact (ha30 _ e).elim (λh1=>by have:=hltc _ (.inr (.inr (.inr (.inr (.inl h1)))));omega) (λh1=>h1.2 (.inl O))
    ·exact (ha40 _ e).elim (λh1=>by have:=hltc _ (.inr (.inr (.inr (.inr (.inr (h1))))));omega) (λh1=>h1.2 (.inl O))
   ·have:=((hch0.ks m hm).2.2 k hk).2;omega
   ·have h1:=hch0.mkr.lt;have h2:c.bm=_:=e;omega
  ·exact sM n1' n2'
end
section
open Go.RowKit
open Sh
def cq:L6->List Co->BitVec 64->Option Co
 |a::us,m::ms,q=>if a=q then some m else cq us ms q
 |_,_,_=>none
theorem wB{q:BitVec 64}{m:Co}: ∀(us:L6) (ms:List Co) (i:Nat),us[i]? =some q->ms[i]? =some m->(∀j,j<i->us.getD j 0#64≠q)->cq us ms q=some m
 |a::us,x::ms,0,h1,h2,_=>by
  simp only[List.getElem?_cons_zero,Option.some.injEq]at h1 h2;rw[cq,if_pos h1,h2]
 |a::us,x::ms,i+1,h1,h2,h3=>by
  rw[cq,if_neg (by have:=h3 0 om;simpa using this)]
  exact wB us ms i (by simpa using h1) (by simpa using h2) (λj hj=>by have:=h3 (j+1) om;simpa using this)
 |[],_,_,h1,_,_=>by simp at h1
 |_::_,[],_,_,h2,_=>by simp at h2
theorem jG{q a:BitVec 64}{m:Co}: ∀(us:L6) (ms:List Co),us.length=ms.length->cq (us++[a]) (ms++[m]) q=(cq us ms q).or (if a=q then some m else none)
 |[],[],_=>by simp[cq]
 |b::us,x::ms,h=>by
  rw[List.cons_append,List.cons_append,cq,cq];by_cases e:b=q
  ·rw[if_pos e,if_pos e];rfl
  ·rw[if_neg e,if_neg e];exact jG us ms (by simpa using h)
theorem il{q:BitVec 64}{m:Co}: ∀(us:L6) (ms:List Co),cq us ms q=some m->m∈ms
 |a::us,x::ms,h=>by
  rw[cq]at h;split at h
  ·cases h;exact List.mem_cons_self
  ·exact List.mem_cons_of_mem _ (il us ms h)
 |[],_,h=>by simp[cq]at h
 |_::_,[],h=>by simp[cq]at h
theorem j6{q:BitVec 64}: ∀(us:L6) (ms:List Co),(∀j,j<us.length->us.getD j 0#64≠q)->cq us ms q=none
 |a::us,x::ms,h=>by
  rw[cq,if_neg (by have:=h 0 aB;simpa using this)]
  exact j6 us ms (λj hj=>by have:=h (j+1) (by simpa using hj);simpa using this)
 |[],_,_=>by simp[cq]
 |_::_,[],_=>by simp[cq]
def Co0:Co:=⟨[],none,0,(List.replicate 48 (0#8))⟩
theorem Co.one(c:Co):c.cs.all (·.oneCell')=true:=by
 simp only[Co.cs,List.all_cons,bg,Bool.and_true];rfl
theorem sN: ∀(ms:List Co) (i j:Nat) (m:Co),(∀m∈ms,m.Ok)->ms[i]? =some m->j<49->(ms.flatMap Co.cs)[i*49+j]? =m.cs[j]?
 |x::ms,0,j,m,h,hm,hj=>by
  simp only[List.getElem?_cons_zero,Option.some.injEq]at hm;subst hm;rw[List.flatMap_cons,Nat.zero_mul,Nat.zero_add,List.getElem?_append_left (by rw[Co.len (h x List.mem_cons_self)];exact hj)]
 |x::ms,i+1,j,m,h,hm,hj=>by
  rw[List.flatMap_cons,List.getElem?_append_right (by rw[Co.len (h x List.mem_cons_self)];omega),Co.len (h x List.mem_cons_self),show (i+1)*49+j-49=i*49+j from by omega]
  exact sN ms i j m (λy hy=>h y (List.mem_cons_of_mem _ hy)) (by simpa using hm) hj
 |[],_,_,_,_,hm,_=>by simp at hm
theorem zv35(w:World):(zeroValue 35).run prog w=.ok (.agg Co0.cs.toArray) w:=(zeroValue35 w).trans aE
theorem ID:TI prog 35 (.agg Co0.cs.toArray) 49 72:=lN kr
theorem G3:TI prog 22 (.int .u64 0) 1 8:=lN kr
theorem Cn.at41{c:Cn}(h:c.cf.Ok):c.cs[41]? =some (U64 c.sd):=c.end_ h 0
theorem Cn.at42{c:Cn}(h:c.cf.Ok):c.cs[42]? =some (.slice c.aA c.ats.length c.cA):=c.end_ h 1
theorem Cn.at43{c:Cn}(h:c.cf.Ok):c.cs[43]? =some (.slice c.aD c.ms.length c.cD):=c.end_ h 2
theorem Cn.at40{c:Cn}(h:c.cf.Ok):c.cs[40]? =some (I c.cf.z):=by
 show (c.cf.cs++_)[38]? =_;rw[List.getElem?_append_left (by rw[Cf.len h];decide),Cf.cs,<-List.append_assoc,List.getElem?_append_right (by simp[h.g,h.v])]
 simp[h.g,h.v]
def mR(a b:BitVec 64):BitVec 64:=
 let x:=a*11400714819323198485#64+b*13787848793156543929#64+10723151780598845931#64
 let y:=(x^^^(x>>>29))*13787848793156543929#64
 y^^^(y>>>32)
theorem rB(a b:BitVec 64):PUR 64 [U64 a,U64 b] (U64 (mR a b)):=by
 intro w hw;refine Hf func64 O hw<|λhGF=>Xp<|Asg O<|aa<|Xp<|Mv O<|Bnr (v:=U64 (a*11400714819323198485#64)) O O (λ_=>cy _ a 11400714819323198485#64)<|Mv O<|Bnr (v:=U64 (b*13787848793156543929#64)) O O (λ_=>cy _ b 13787848793156543929#64)<|Bnr (v:=U64 ((a*11400714819323198485#64)+(b*13787848793156543929#64))) O O (λ_=>aM _ (a*11400714819323198485#64) (b*13787848793156543929#64))<|Bnr (v:=U64 ((a*11400714819323198485#64)+(b*13787848793156543929#64)+10723151780598845931#64)) O O (λ_=>aM _ ((a*11400714819323198485#64)+(b*13787848793156543929#64)) 10723151780598845931#64)<|Asg O<|aa<|Xp<|Mv O<|Mv O<|Bnr (v:=U64 (((a*11400714819323198485#64)+(b*13787848793156543929#64)+10723151780598845931#64)>>>29)) O O (λ_=>cI _ ((a*11400714819323198485#64)+(b*13787848793156543929#64)+10723151780598845931#64) 29#64)<|dv (v:=U64 (((a*11400714819323198485#64)+(b*13787848793156543929#64)+10723151780598845931#64)^^^(((a*11400714819323198485#64)+(b*13787848793156543929#64)+10723151780598845931#64)>>>29))) O O (λ_=>rfl) (λ_=>nI _ ((a*11400714819323198485#64)+(b*13787848793156543929#64)+10723151780598845931#64) (((a*11400714819323198485#64)+(b*13787848793156543929#64)+10723151780598845931#64)>>>29)) O O<|Asg O<|aa<|Xp<|Mv O<|dv (v:=U64 ((((a*11400714819323198485#64)+(b*13787848793156543929#64)+10723151780598845931#64)^^^(((a*11400714819323198485#64)+(b*13787848793156543929#64)+10723151780598845931#64)>>>29))*13787848793156543929#64)) O O (λ_=>rfl) (λ_=>cy _ (((a*11400714819323198485#64)+(b*13787848793156543929#64)+10723151780598845931#64)^^^(((a*11400714819323198485#64)+(b*13787848793156543929#64)+10723151780598845931#64)>>>29)) 13787848793156543929#64) O O<|Asg O<|aa<|Xp<|Mv O<|Mv O<|dv (v:=U64 (((((a*11400714819323198485#64)+(b*13787848793156543929#64)+10723151780598845931#64)^^^(((a*11400714819323198485#64)+(b*13787848793156543929#64)+10723151780598845931#64)>>>29))*13787848793156543929#64)>>>32)) O O (λ_=>rfl) (λ_=>cI _ ((((a*11400714819323198485#64)+(b*13787848793156543929#64)+10723151780598845931#64)^^^(((a*11400714819323198485#64)+(b*13787848793156543929#64)+10723151780598845931#64)>>>29))*13787848793156543929#64) 32#64) O O<|dv (v:=U64 (((((a*11400714819323198485#64)+(b*13787848793156543929#64)+10723151780598845931#64)^^^(((a*11400714819323198485#64)+(b*13787848793156543929#64)+10723151780598845931#64)>>>29))*13787848793156543929#64)^^^(((((a*11400714819323198485#64)+(b*13787848793156543929#64)+10723151780598845931#64)^^^(((a*11400714819323198485#64)+(b*13787848793156543929#64)+10723151780598845931#64)>>>29))*13787848793156543929#64)>>>32))) O O (λ_=>rfl) (λ_=>nI _ ((((a*11400714819323198485#64)+(b*13787848793156543929#64)+10723151780598845931#64)^^^(((a*11400714819323198485#64)+(b*13787848793156543929#64)+10723151780598845931#64)>>>29))*13787848793156543929#64) (((((a*11400714819323198485#64)+(b*13787848793156543929#64)+10723151780598845931#64)^^^(((a*11400714819323198485#64)+(b*13787848793156543929#64)+10723151780598845931#64)>>>29))*13787848793156543929#64)>>>32)) O O<|Asg O<|aa<|ao<|Rr<|?_;exact ar O O (λw' hw'=>⟨rfl,ae hw'⟩)
def Cn.re(c:Cn)(i:Nat)(a1:Option Addr)(c1:Nat)(x1:List Value)(a2:Option Addr)(c2:Nat)(x2:List Value):Cn:=⟨c.bc,c.bw,c.bm,c.cf,c.sd,c.aA,c.cA,c.ats,c.aD,c.cD,c.ms,a1,c1,c.nK+i,x1,a2,c2,c.nS+i,x2,c.tx,c.px⟩
def SEC(x:BitVec 64)(i:Nat):LW:=(1#64+mR x (BitVec.ofInt 64 (i:Int)) % 4000#64)::List.replicate 5 0
def SMW(x:BitVec 64):Nat->LW
 |0=>(List.replicate 6 (0#64))
 |i+1=>SAD (SMW x i) (SEC x i)
def xR(sd:BitVec 64)(n:Nat)(q:BitVec 64)(m:Co):Prop:=m.ks=(List.range n).map (λi=>KYW (SEC (sd+q) i))/\m.sum=KYW (SMW (sd+q) n)
structure Ext(w:World)(n:Nat)(c d:Cn):Prop where
 bc:d.bc=c.bc
 bw:d.bw=c.bw
 bm:d.bm=c.bm
 cf:d.cf=c.cf
 sd:d.sd=c.sd
 nK:d.nK<=c.nK+n
 nS:d.nS<=c.nS+n
 nA:d.ats.length<=c.ats.length+n
 old: ∀q m,cq c.ats c.ms q=some m->cq d.ats d.ms q=some m
 sub: ∀k,d.own k->c.own k\/w.heap.size<=k
 key: ∀m∈d.ms,m∈c.ms\/∀k,Of m.ka k->w.heap.size<=k
 doc: ∀q m,cq d.ats d.ms q=some m->cq c.ats c.ms q=some m\/xR c.sd c.cf.z.toNat q m
theorem Ext.refl(w:World)(c:Cn):Ext w 0 c c:=⟨rfl,rfl,rfl,rfl,rfl,Nat.le_refl _,Nat.le_refl _,Nat.le_refl _,λ_ _ h=>h,λ_ h=>.inl h,λ_ h=>.inl h,λ_ _ h=>.inl h⟩
theorem Ext.trans{w w':World}{n m:Nat}{c d e:Cn}(h:Ext w n c d)(k:Ext w' m d e)(hs:w.heap.size<=w'.heap.size):Ext w (n+m) c e:=
 ⟨k.bc.trans h.bc,k.bw.trans h.bw,k.bm.trans h.bm,k.cf.trans h.cf,k.sd.trans h.sd,by have:=h.nK;have:=k.nK;omega,by have:=h.nS;have:=k.nS;omega,by have:=h.nA;have:=k.nA;omega,λq m hq=>k.old q m (h.old q m hq),
  λx hx=>(k.sub x hx).elim (h.sub x) λh=>.inr (Nat.le_trans hs h),
  λx hx=>(k.key x hx).elim (h.key x) λh=>.inr λj hj=>Nat.le_trans hs (h j hj),
  λq m hq=>(k.doc q m hq).elim (h.doc q m) λx=>.inr (by rw[h.sd,h.cf]at x;exact x)⟩
end
section
open Go.RowKit
open Sh
theorem Ext.le{w:World}{n m:Nat}{c d:Cn}(h:Ext w n c d)(hm:n<=m):Ext w m c d:=⟨h.bc,h.bw,h.bm,h.cf,h.sd,by have:=h.nK;omega,by have:=h.nS;omega,by have:=h.nA;omega,h.old,h.sub,h.key,h.doc⟩
theorem mr{e:TypeId}{w:World}{a:Option Addr}{cap:Nat}{xs:List Value}:SlV e w a cap xs↔SlW e 1 w a cap xs.length xs:=by
 unfold SlV SlW;constructor
 ·rintro (⟨h1,h2,h3⟩|⟨b,c,h1,h2,h3,h4,h5⟩)
  ·exact .inl ⟨h1,h2,by rw[h2];rfl,h3⟩
  ·exact .inr ⟨b,c,h1,h2,by rw[Nat.mul_one];exact h3,h4,(Nat.mul_one _).symm,h5⟩
 ·rintro (⟨h1,h2,_,h3⟩|⟨b,c,h1,h2,h3,h4,_,h5⟩)
  ·exact .inl ⟨h1,h2,h3⟩
  ·exact .inr ⟨b,c,h1,h2,by rw[Nat.mul_one]at h3;exact h3,h4,h5⟩
structure CI(w0:World)(c:Cn)(x:BitVec 64)(b4 b6 b7 i:Nat)(w:World)(sm:LW)(aX:Option Addr)(cX:Nat)(ks:List By)(d:Cn):Prop where
 g:Gt w
 ch:ChAt w d
 mm:MM c.own w0 w
 sub: ∀k,d.own k->c.own k\/w0.heap.size<=k
 o4:OwnB w b4 Co0.cs 35
 o6:OwnB w b6 (.slice aX i cX::(List.replicate 48 (0#8)).map U8) 35
 o7:OwnB w b7 (sm.map U64) 120
 n4: ¬d.own b4
 n6: ¬d.own b6
 n7: ¬d.own b7
 hs:sm.length=6
 sl:SlW 33 48 w aX cX i (ks.flatten.map U8)
 kl:ks.length=i
 k48: ∀r∈ks,r.length=48
 dj: ∀k,Of aX k->¬d.own k/\k≠b4/\k≠b6/\k≠b7/\w0.heap.size<=k
 kd:ks=(List.range i).map (λj=>KYW (SEC x j))
 sd:sm=SMW x i
theorem ci_0{w0 w:World}{c:Cn}{x:BitVec 64}{b4 b6 b7:Nat}(g:Gt w)(hg:Grow w0 w)(h:ChAt w0 c)(o4:OwnB w b4 Co0.cs 35)(o6:OwnB w b6 Co0.cs 35)(o7:OwnB w b7 ((List.replicate 6 (0#64)).map U64) 120)(z4:w0.heap.size<=b4)(z6:w0.heap.size<=b6)(z7:w0.heap.size<=b7):
 CI w0 c x b4 b6 b7 0 w (List.replicate 6 (0#64)) none 0 [] (c.re 0 c.aK c.cK c.xK c.aS c.cS c.xS):=
 have n: ∀b,w0.heap.size<=b->¬c.own b:=λb hb x=>absurd (h.lt b x) (Nat.not_lt.2 hb)
 ⟨g,h.grow hg,aZ hg,λ_ x=>.inl x,o4,o6,o7,n _ z4,n _ z6,n _ z7,rfl,.inl ⟨rfl,rfl,rfl,rfl⟩,rfl,λ_ h=>by simp at h,λk ⟨_,e,_⟩=>(by cases e),rfl,rfl⟩
def mkP(o:Oper):Bool:=match o.op with
 | .call c=>match c.callee with
  | .value (.func f)=>Nat.beq f 68
  |_=>false
 | .buildSlice .. =>true
 |_=>false
theorem Lb(v:Value)(vs ys:List Value)(h:vs.length=ys.length):lay 1 vs (v::ys)=v::vs:=by
 rw[iy _ _ _ (by rw[List.length_cons,h];omega),Nat.add_comm,List.drop_succ_cons,List.drop_eq_nil_of_le om,List.append_nil]
 rfl
theorem SlW.le{e:TypeId}{s:Nat}{w:World}{a:Option Addr}{cap nx:Nat}{xs:List Value}(h:SlW e s w a cap nx xs):nx<=cap:=by
 rcases h with ⟨_,_,h1,h2⟩|⟨_,_,_,_,_,h,_⟩
 ·omega
 ·exact h
theorem u9: ∀(ks:List By) (i j:Nat) (r:By),(∀r∈ks,r.length=48)->ks[i]? =some r->j<48->ks.flatten[i*48+j]? =r[j]?
 |x::ks,0,j,r,h,hr,hj=>by
  simp only[List.getElem?_cons_zero,Option.some.injEq]at hr;subst hr;rw[List.flatten_cons,Nat.zero_mul,Nat.zero_add,List.getElem?_append_left (by rw[h x List.mem_cons_self];exact hj)]
 |x::ks,i+1,j,r,h,hr,hj=>by
  rw[List.flatten_cons,List.getElem?_append_right (by rw[h x List.mem_cons_self];omega),h x List.mem_cons_self,show (i+1)*48+j-48=i*48+j from by omega]
  exact u9 ks i j r (λy hy=>h y (List.mem_cons_of_mem _ hy)) (by simpa using hr) hj
 |[],_,_,_,_,hr,_=>by simp at hr
theorem oO{e:TypeId}{w:World}{a:Option Addr}{cap n:Nat}{ks:List By}(h:SlW e 48 w a cap n (ks.flatten.map U8))(_hn:ks.length=n)(hk: ∀r∈ks,r.length=48):RwsAt 48 w a ks:=λi r hr=>by
 have h0:ks.flatten.map U8≠[]:=λe0=>by
  have h1:=u9 ks i 0 r hk hr aC;rw[List.map_eq_nil_iff]at e0;rw[e0]at h1;have h2:=hk r (List.mem_of_getElem? hr);rw[List.getElem?_eq_getElem (l:=r) (i:=0) om]at h1
  cases h1
 obtain ⟨b,hb,hat⟩:=h.at h0;refine ⟨_,hb,λj v hv=> ?_⟩;have hj:j<48:=by have:=(List.getElem?_eq_some_iff.1 hv).1;rw[List.length_map,hk r (List.mem_of_getElem? hr)]at this;exact this
 have h2:=hat (i*48+j) v (by rw[List.getElem?_map,u9 ks i j r hk hr hj,<-List.getElem?_map];exact hv)
 rw[Addr.add_mid,Addr.add_mid,Nat.add_assoc];exact h2
theorem IK{c:Cn}(h:c.cf.Ok)(x y:Value):(c.cs.set 42 x).set 43 y=pnt c.bw::pnt c.bm::(c.cf.cs++[U64 c.sd,x,y]):=by
 show pnt c.bw::pnt c.bm::(((c.cf.cs++[U64 c.sd,.slice c.aA c.ats.length c.cA,.slice c.aD c.ms.length c.cD]).set 40 x).set 41 y)=_;rw[List.set_append_right _ _ (by rw[Cf.len h];decide),List.set_append_right _ _ (by rw[Cf.len h];decide),Cf.len h]
 rfl
def Cn.add(c:Cn)(p:BitVec 64)(m:Co)(a1:Option Addr)(c1:Nat)(a2:Option Addr)(c2:Nat):Cn:=⟨c.bc,c.bw,c.bm,c.cf,c.sd,a1,c1,c.ats++[p],a2,c2,c.ms++[m],c.aK,c.cK,c.nK,c.xK,c.aS,c.cS,c.nS,c.xS,c.tx,c.px⟩
theorem ChAt.stA{w w':World}{c:Cn}(h:ChAt w c)(hm:MM (Of c.aA) w w')(ho:SlW 22 1 w' c.aA c.cA c.ats.length (c.ats.map U64)):ChAt w' c:=
 ⟨hm.own h.oc (λx=>(h.dA _ x).1 O),hm.own h.ow (λx=>(h.dA _ x).2 O),mr.2 (by rw[List.length_map];exact ho),h.oD.mm hm (λk hk=>(h.dD k hk).2.2),h.oK.mm hm (λk hk=>(h.dK k hk).2.2.1),h.oS.mm hm (λk hk=>(h.dS _ hk).2.2.1),
  λm hmm=>⟨(h.ks m hmm).1,(h.ks m hmm).2.1.mm hm (λ_ k hk x=>((h.ks m hmm).2.2 k hk).1 (.inr (.inr (.inl x)))),λk hk=>⟨((h.ks m hmm).2.2 k hk).1,Nat.lt_of_lt_of_le ((h.ks m hmm).2.2 k hk).2 hm.size⟩⟩,hm.own h.mkr (λx=>h.dm (.inr (.inr (.inl x)))),h.cf,h.d1,h.dA,h.dD,h.dK,h.dS,h.dm,h.low,h.one,h.ln,λm hmm=>⟨(h.kw m hmm).1.mm hm (λk hk x=>((h.ks m hmm).2.2 k hk).1 (.inr (.inr (.inl x)))),(h.kw m hmm).2⟩⟩
theorem ChAt.stD{w w':World}{c:Cn}(h:ChAt w c)(hm:MM (Of c.aD) w w')(ho:SlW 35 49 w' c.aD c.cD c.ms.length (c.ms.flatMap Co.cs)):ChAt w' c:=
 ⟨hm.own h.oc (λx=>(h.dD _ x).1 O),hm.own h.ow (λx=>(h.dD _ x).2.1 O),h.oA.mm hm (λad e x=>(h.dD _ x).2.2 ⟨ad,e,rfl⟩),ho,h.oK.mm hm (λk hk=>(h.dK k hk).2.2.2),h.oS.mm hm (λ_k hk=>(h.dS _ hk).2.2.2.1),
  λm hmm=>⟨(h.ks m hmm).1,(h.ks m hmm).2.1.mm hm (λ_ k hk x=>((h.ks m hmm).2.2 k hk).1 (.inr (.inr (.inr (.inl x))))),λk hk=>⟨((h.ks m hmm).2.2 k hk).1,Nat.lt_of_lt_of_le ((h.ks m hmm).2.2 k hk).2 hm.size⟩⟩,hm.own h.mkr (λx=>h.dm (.inr (.inr (.inr (.inl x))))),h.cf,h.d1,h.dA,h.dD,h.dK,h.dS,h.dm,h.low,h.one,h.ln,λm hmm=>⟨(h.kw m hmm).1.mm hm (λk hk x=>((h.ks m hmm).2.2 k hk).1 (.inr (.inr (.inr (.inl x))))),(h.kw m hmm).2⟩⟩
theorem sD{c:Cn}{p:BitVec 64}{m:Co}{w w5 w8:World}{a1 a2:Option Addr}{c1 c2:Nat}(h0:ChAt w c)(hw:Gt w)(h5:ChAt w5 c)(hA:SlW 22 1 w5 a1 c1 (c.ats.length+1) (c.ats.map U64++[U64 p]))(hD:SlW 35 49 w5 a2 c2 (c.ms.length+1) (c.ms.flatMap Co.cs++m.cs))
 (n1: ∀k,Of a1 k->Of c.aA k\/w.heap.size<=k) (n2: ∀k,Of a2 k->Of c.aD k\/w.heap.size<=k) (n12: ∀k,Of a1 k->¬Of a2 k) (hs5:w.heap.size<=w5.heap.size) (mm:MM (λk=>k=c.bc) w5 w8)
 (ho:OwnB w8 c.bc ((c.cs.set 42 (.slice a1 (c.ats.length+1) c1)).set 43 (.slice a2 (c.ms.length+1) c2)) 61) (hm:m.Ok) (hr:RwsAt 48 w5 m.ka m.ks) (hkw:SlW 33 48 w5 m.ka m.kc m.ks.length (m.ks.flatten.map U8)) (hkl: ∀k,Of m.ka k->6<=k) (hk: ∀k,Of m.ka k->¬c.own k/\k<w.heap.size/\¬Of a1 k/\¬Of a2 k):ChAt w8 (c.add p m a1 c1 a2 c2):=by
 have hz:=gt_low.size w hw;have L:=h0.lt;have eA: ∀k,Of a1 k->k≠c.bc/\k≠c.bw/\¬Of c.aK k/\¬Of c.aS k:=λk hk=>by
  rcases n1 k hk with h|h
  ·exact ⟨(h0.dA k h).1,(h0.dA k h).2,λx=>(h0.dK k x).2.2.1 h,λx=>(h0.dS k x).2.2.1 h⟩
  ·exact ⟨λe=>by have:=L c.bc (.inl O);omega,λe=>by have:=L c.bw (.inr (.inl O));omega,λe=>by have:=L k (.inr (.inr (.inr (.inr (.inl e)))));omega,λe=>by have:=L k (.inr (.inr (.inr (.inr (.inr (e))))));omega⟩
 have eD: ∀k,Of a2 k->k≠c.bc/\k≠c.bw/\¬Of c.aK k/\¬Of c.aS k:=λk hk=>by
  rcases n2 k hk with h|h
  ·exact ⟨(h0.dD k h).1,(h0.dD k h).2.1,λx=>(h0.dK k x).2.2.2 h,λx=>(h0.dS k x).2.2.2.1 h⟩
  ·exact ⟨λe=>by have:=L c.bc (.inl O);omega,λe=>by have:=L c.bw (.inr (.inl O));omega,λe=>by have:=L k (.inr (.inr (.inr (.inr (.inl e)))));omega,λe=>by have:=L k (.inr (.inr (.inr (.inr (.inr (e))))));omega⟩
 have hsub: ∀k,(c.add p m a1 c1 a2 c2).own k->c.own k\/w.heap.size<=k:=λk hk=>by
  rcases hk with h|h|h|h|h|h
  ·exact .inl (.inl h)
  ·exact .inl (.inr (.inl h))
  ·exact (n1 k h).imp (λh=>(.inr (.inr (.inl h)))) id
  ·exact (n2 k h).imp (λh=>(.inr (.inr (.inr (.inl h))))) id
  ·exact .inl (.inr (.inr (.inr (.inr (.inl h)))))
  ·exact .inl (.inr (.inr (.inr (.inr (.inr (h))))))
 have hown: ∀k,(c.add p m a1 c1 a2 c2).own k->c.own k\/Of a1 k\/Of a2 k:=λk hk=>by
  rcases hk with h|h|h|h|h|h
  ·exact .inl (.inl h)
  ·exact .inl (.inr (.inl h))
  ·exact .inr (.inl h)
  ·exact .inr (.inr h)
  ·exact .inl (.inr (.inr (.inr (.inr (.inl h)))))
  ·exact .inl (.inr (.inr (.inr (.inr (.inr (h))))))
 have hcs:(c.cs.set 42 (.slice a1 (c.ats.length+1) c1)).set 43 (.slice a2 (c.ms.length+1) c2)=(c.add p m a1 c1 a2 c2).cs:=by
  rw[IK h0.cf];show _=pnt c.bw::pnt c.bm::(c.cf.cs++[U64 c.sd,.slice a1 (c.ats++[p]).length c1,.slice a2 (c.ms++[m]).length c2]);rw[List.length_append,List.length_append];rfl
 rw[hcs]at ho;refine ⟨ho,mm.own h5.ow (λe=>h0.d1 e.symm),mr.2 ?_, ?_,h5.oK.mm mm (λk hk x=>(h0.dK k hk).1 x),h5.oS.mm mm (λk hk x=>(h0.dS k hk).1 x),
  λq hq=> ?_,mm.own h5.mkr (λx=>h0.dm (.inl x)),h0.cf,h0.d1,λk hk=>⟨(eA k hk).1,(eA k hk).2.1⟩,λk hk=>⟨(eD k hk).1,(eD k hk).2.1,λx=>n12 k x hk⟩,λk hk=>⟨(h0.dK k hk).1,(h0.dK k hk).2.1,λx=>(eA k x).2.2.1 hk,λx=>(eD k x).2.2.1 hk⟩,λk hk=>⟨(h0.dS k hk).1,(h0.dS k hk).2.1,λx=>(eA k x).2.2.2 hk,λx=>(eD k x).2.2.2 hk,(h0.dS k hk).2.2.2.2⟩,λx=> ?_,λk hk=> ?_,h0.one,by show (c.ats++[p]).length=(c.ms++[m]).length;rw[List.length_append,List.length_append,h0.ln];rfl,λq hq=> ?_⟩
 ·show SlW 22 1 w8 a1 c1 ((c.ats++[p]).map U64).length ((c.ats++[p]).map U64)
  rw[List.length_map,List.length_append,List.map_append];exact hA.mm mm (λk hk x=>(eA k hk).1 x)
 ·show SlW 35 49 w8 a2 c2 (c.ms++[m]).length ((c.ms++[m]).flatMap Co.cs)
  rw[List.length_append,List.flatMap_append,List.flatMap_singleton];exact hD.mm mm (λk hk x=>(eD k hk).1 x)
 ·rcases List.mem_append.1 hq with hq|hq
  ·obtain ⟨q1,q2,q3⟩:=h5.ks q hq
   refine ⟨q1,q2.mm mm (λ_ k hk x=>(q3 k hk).1 (.inl x)),λk hk=>⟨λx=> ?_,Nat.lt_of_lt_of_le (q3 k hk).2 mm.size⟩⟩;rcases hsub k x with h|h
   ·exact (q3 k hk).1 h
   ·have:=((h0.ks q hq).2.2 k hk).2;omega
  ·rw[List.mem_singleton]at hq
   subst hq;refine ⟨hm,hr.mm mm (λ_ k hk' x=>(hk k hk').1 (.inl x)),λk hk'=>⟨λx=> ?_, ?_⟩⟩
   ·rcases hown k x with h|h|h
    ·exact (hk k hk').1 h
    ·exact (hk k hk').2.2.1 h
    ·exact (hk k hk').2.2.2 h
   ·have h1:=(hk k hk').2.1;have h2:=mm.size;omega
 ·rcases hsub _ x with h|h
  ·exact h0.dm h
  ·have:=h0.mkr.lt;exact absurd h (Nat.not_le.2 this)
 ·rcases hsub k hk with h|h
  ·exact h0.low k h
  ·omega
 ·rcases List.mem_append.1 hq with hq|hq
  ·exact ⟨(h5.kw q hq).1.mm mm (λk hk x=>((h5.ks q hq).2.2 k hk).1 (.inl x)),(h5.kw q hq).2⟩
  ·rw[List.mem_singleton]at hq
   subst hq;exact ⟨hkw.mm mm (λk hk' x=>(hk k hk').1 (.inl x)),hkl⟩
theorem k5{c:Cn}{p:BitVec 64}{m:Co}{a1 a2:Option Addr}{c1 c2 k:Nat}(hk:(c.add p m a1 c1 a2 c2).own k):c.own k\/Of a1 k\/Of a2 k:=by
 rcases hk with h|h|h|h|h|h
 ·exact .inl (.inl h)
 ·exact .inl (.inr (.inl h))
 ·exact .inr (.inl h)
 ·exact .inr (.inr h)
 ·exact .inl (.inr (.inr (.inr (.inr (.inl h)))))
 ·exact .inl (.inr (.inr (.inr (.inr (.inr (h))))))
theorem mI{w:World}{c:Cn}{p:BitVec 64}{m:Co}{n:Nat}{a1 a2 b1 b2:Option Addr}{c1 c2 d1 d2:Nat}{x1 x2:List Value}(_hno: ∀j,j<c.ats.length->c.ats.getD j 0#64≠p)(hl:c.ats.length=c.ms.length)(hdoc:xR c.sd c.cf.z.toNat p m)
 (hkm: ∀k,Of m.ka k->w.heap.size<=k) (hs: ∀k,((c.re n a1 c1 x1 a2 c2 x2).add p m b1 d1 b2 d2).own k->c.own k\/w.heap.size<=k):Ext w (n+1) c ((c.re n a1 c1 x1 a2 c2 x2).add p m b1 d1 b2 d2):=
 ⟨rfl,rfl,rfl,rfl,rfl,by show c.nK+n<=_;omega,by show c.nS+n<=_;omega,by show (c.ats++[p]).length<=c.ats.length+(n+1);rw[List.length_append];show _+1<=_;omega,λq q' hq=>by show cq (c.ats++[p]) (c.ms++[m]) q=_;rw[jG _ _ hl,hq];rfl,hs,λx hx=>(List.mem_append.1 hx).imp id (λh k hk=>by rw[List.mem_singleton]at h;rw[h]at hk;exact hkm k hk),
  λq x hx=>by
  have hx:cq (c.ats++[p]) (c.ms++[m]) q=some x:=hx;rw[jG _ _ hl]at hx
  cases h:cq c.ats c.ms q with
  |some y=>rw[h]at hx;exact .inl hx
  |none=>
   rw[h]at hx;by_cases e:p=q
   ·rw[if_pos e]at hx;cases hx;subst e;exact .inr hdoc
   ·rw[if_neg e]at hx;cases hx⟩
theorem nq(c:Cn)(p:BitVec 64)(n:Nat)(hz:c.cf.z=(n:Int))(hn:n<=512)(hnK:c.nK<=500000)(hnS:c.nS<=500000)(hnA:c.ats.length<=500000)(hmn: ∀m∈c.ms,m.ks.length=n)(w:World)(hw:Gt w)(hch:ChAt w c):CLS 29 [pnt c.bc,U64 p].toArray w (λe w'=> ∃m d,e=.returned (.agg m.cs.toArray)/\MM c.own w w'/\ChAt w' d/\Ext w (n+1) c d/\cq d.ats d.ms p=some m/\(∀m∈d.ms,m.ks.length=n)/\∀x,cq c.ats c.ms p=some x->Grow w w'/\d=c):=by
 refine Hf func29 O hw<|λhGF=>Xp<|Al 4 hGF zv35<|λb4=>aa<|ah<|Xp<|Asg O<|aa<|au<|bW (ι:={i:Nat // i<=c.ats.length/\∀j,j<i->c.ats.getD j 0#64≠p}) (λx=>[(0,pnt c.bc),(1,U64 p),(4,pnt b4),(5,I (x.1:Int))]) (λx=>[(4,b4,Co0.cs,35)]) (λx=>c.ats.length-x.1) ⟨0,Nat.zero_le _,λ_ h=>absurd h (Nat.not_lt_zero _)⟩ hGF trv trv<|?_;rintro ⟨i,hi,hno⟩;dsimp only;refine ah<|Xp<|Mv O<|Mv O<|aR O O O<|Fa 42 O underlying61 O sizeOf58<|aT (v:=.slice c.aA c.ats.length c.cA) O isAgg58 (λw' h=>((hch.grow (ae h)).oc.cell 42).trans (Cn.at42 hch.cf)) O O<|bB O (λ_=>aO underlying58 _ _ _ _) O O<|Bnr O O (λ_=>aI _ _ _)<|aa<|?_;refine cx O (λhc=> ?_) (λhc=> ?_)
 ·have hlt:i<c.ats.length:=by simp at hc;omega
  clear hc;refine aw<|ah<|au<|Xp<|Mv O<|aR O O O<|Fa 42 O underlying61 O sizeOf58<|aT (v:=.slice c.aA c.ats.length c.cA) O isAgg58 (λw' h=>((hch.grow (ae h)).oc.cell 42).trans (Cn.at42 hch.cf)) O O<|Mv O<|?_;obtain ⟨ad,hae,hcell⟩:=hch.oA.cells i _ (gm U64 c.ats 0#64 i hlt);refine dJ (ad:=ad) i 1 (by rw[<-hae];rfl) O underlying58 sizeOf22 O hlt O O<|aT (v:=U64 (c.ats.getD i 0#64)) O isAgg22 (λw' h=>by rw[Nat.mul_one];exact ((ae h).cell (block_lt_of_cell hcell)).trans hcell) O O<|Mv O<|?_
  rcases Bool.eq_false_or_eq_true (c.ats.getD i 0#64==p)with hq|hq
  ·refine Bnb true O O (λ_=>bA _ (c.ats.getD i 0#64) p) (hq)<|aa<|aQ O<|Xp<|Mv O<|aR O O O<|Fa 43 O underlying61 O sizeOf59<|aT (v:=.slice c.aD c.ms.length c.cD) O isAgg59 (λw' h=>((hch.grow (ae h)).oc.cell 43).trans (Cn.at43 hch.cf)) O O<|Mv O<|?_
   obtain ⟨m,hm⟩: ∃m,c.ms[i]? =some m:=⟨_,List.getElem?_eq_getElem (by rw[<-hch.ln];exact hlt)⟩
   have hmm:=List.mem_of_getElem? hm;have hmo:=(hch.ks m hmm).1;obtain ⟨bD,hbD,hrD⟩:=hch.oD.at (λe=>by have h1:=sN c.ms i 0 m (λy hy=>(hch.ks y hy).1) hm aC;rw[e]at h1;simp[Co.cs]at h1)
   refine dJ (ad:=⟨bD,0,none⟩) i 49 (by rw[<-hbD];rfl) O underlying59 sizeOf35 O (by rw[<-hch.ln];exact hlt) O O ?_
   refine aP (cs:=m.cs) O isAgg35 sizeOf35 (Co.len hmo) (λw' h j v hv=>by have h2:=hrD (i*49+j) v (by rw[sN c.ms i j m (λy hy=>(hch.ks y hy).1) hm (by have:=(List.getElem?_eq_some_iff.1 hv).1;rw[Co.len hmo]at this;exact this)];exact hv);rw[Addr.add_mid,Addr.add_mid,Nat.add_assoc];exact ((ae h).cell (block_lt_of_cell h2)).trans h2) O O ?_
   refine ai 4 hGF O O O sizeOf35 (Co.len hmo) O (Co.one _) O<|aa<|ao<|Rr<|?_;exact aF 4 O O O isAgg35 sizeOf35 (Co.len hmo) (λw' hw'=>⟨m,c,rfl,aZ (ae hw'),hch.grow (ae hw'),(Ext.refl w c).le (Nat.zero_le _),wB c.ats c.ms i (by rw[List.getElem?_eq_getElem hlt];have h1:=beq_iff_eq.1 hq;rw[List.getD_eq_getElem?_getD,List.getElem?_eq_getElem hlt]at h1;exact congrArg some h1) hm hno,hmn,λ_ _=>⟨ae hw',rfl⟩⟩)
  ·refine Bnb false O O (λ_=>bA _ (c.ats.getD i 0#64) p) (hq)<|aa<|aH O<|aw<|Xq<|Mv O<|Bnr (v:=I (((i+1:Nat):Int))) O O (λ_=>(ay _ _ _ aG).trans aE)<|Asg O<|aa<|?_
   repeat (refine bh ?_)
   exact aY<|⟨rfl,⟨i+1,om,λj hj=>(Nat.lt_or_ge j i).elim (hno j) (λh=>by rw[show j=i from by omega];exact beq_eq_false_iff_ne.1 hq)⟩,_,by show c.ats.length-(i+1)<c.ats.length-i;omega,rfl,trv,trv⟩
 ·have hile:i=c.ats.length:=by simp at hc;omega
  subst hile;clear hc;refine bv<|Xp<|Al 6 hGF zv35<|λb6=>aa<|Xp<|Al 7 hGF zv120<|λb7=>aa<|ah<|Xp<|Asg O<|aa<|au<|?_;refine eR gt_low (λw1 hC1 gw1=> ?_);have hG1:Grow w w1:=ae hC1;have hz0:=gt_low.size w hw;have z4:w.heap.size<=b4:=(hC1.own 4 _ _ _ O).2.elim id False.elim;have z6:w.heap.size<=b6:=(hC1.own 6 _ _ _ O).2.elim id False.elim;have z7:w.heap.size<=b7:=(hC1.own 7 _ _ _ O).2.elim id False.elim;have hne:b4≠b6/\b4≠b7/\b6≠b7:=⟨λe=>by subst e;exact absurd (hC1.inj 4 6 _ _ _ _ _ O O) aC,λe=>by subst e;exact absurd (hC1.inj 4 7 _ _ _ _ _ O O) aC,λe=>by subst e;exact absurd (hC1.inj 6 7 _ _ _ _ _ O O) aC⟩
  have ci0:=ci_0 (x:=c.sd+p) gw1 hG1 hch (hC1.own 4 _ _ _ O).1 (hC1.own 6 _ _ _ O).1 (hC1.own 7 _ _ _ O).1 z4 z6 z7;clear hC1;refine j8 gt_low (ι:={x:Nat×World×LW×Option Addr×Nat×List By×Option Addr×Nat×List Value×Option Addr×Nat×List Value // x.1<=n/\CI w c (c.sd+p) b4 b6 b7 x.1 x.2.1 x.2.2.1 x.2.2.2.1 x.2.2.2.2.1 x.2.2.2.2.2.1 (c.re x.1 x.2.2.2.2.2.2.1 x.2.2.2.2.2.2.2.1 x.2.2.2.2.2.2.2.2.1 x.2.2.2.2.2.2.2.2.2.1 x.2.2.2.2.2.2.2.2.2.2.1 x.2.2.2.2.2.2.2.2.2.2.2)}) (λx=>[(0,pnt c.bc),(1,U64 p),(4,pnt b4),(6,pnt b6),(7,pnt b7),(8,I (x.1.1:Int))]) (λx=>x.1.2.1) (λx=>n-x.1.1) ⟨(0,w1,(List.replicate 6 (0#64)),none,0,[],c.aK,c.cK,c.xK,c.aS,c.cS,c.xS),Nat.zero_le _,ci0⟩ (λx=>x.2.2.g) O trv ?_;rintro ⟨⟨i,wk,sm,aX,cX,ks,a1,c1,x1,a2,c2,x2⟩,hi,hA⟩;dsimp only at hi hA⊢;have hGF:BOk Gt (pl wk):=gt_low.plain hA.g;refine ah<|Xp<|Mv O<|Mv O<|aR O O O<|Fa 2 O underlying61 O sizeOf50<|Fa 40 O underlying50 O sizeOf3<|aT (v:=I (n:Int)) O isAgg3 (λw' h=>((hA.ch.grow (ae h)).oc.cell 40).trans (by rw[Cn.at40 hA.ch.cf];exact congrArg (λz=>some (I z)) hz)) O O<|Bnr O O (λ_=>aI _ _ _)<|aa<|?_
  refine cx O (λhc=> ?_) (λhc=> ?_)
  ·have hlt:i<n:=by simp at hc;omega
   clear hc;refine aw<|ah<|au<|Xp<|Mv O<|aR O O O<|Fa 41 O underlying61 O sizeOf22<|aT (v:=U64 c.sd) O isAgg22 (λw' h=>((hA.ch.grow (ae h)).oc.cell 41).trans (Cn.at41 hA.ch.cf)) O O<|Mv O<|Bnr O O (λ_=>aM _ _ _)<|Mv O<|bI O O (λ_=>dg underlying3 underlying22 _) O O<|Ca O (rB _ _)<|?_;obtain ⟨mx,hmx⟩: ∃x,mR (c.sd+p) (BitVec.ofInt 64 (i:Int))=x:=⟨_,rfl⟩;rw[hmx];refine Bnr (v:=U64 (mx % 4000#64)) O O (λ_=>fg _ _ _ aC)<|Bnr (v:=U64 (1#64+mx % 4000#64)) O O (λ_=>aM _ 1#64 _)<|gS (1#64+mx % 4000#64) O underlying120 sizeOf22 zv120 O O<|?_;obtain ⟨sk,hsk⟩: ∃x,((1#64+mx % 4000#64)::List.replicate 5 0)=x:=⟨_,rfl⟩;have hskl:sk.length=6:=by rw[<-hsk];rfl
   have hskd:sk=SEC (c.sd+p) i:=by rw[<-hsk,<-hmx];rfl
   rw[hsk];refine Al 9 hGF zv120<|λb9=>ai 9 hGF O O O sizeOf120 (by rw[List.length_map];exact hskl) O (be _) O<|aa<|Xp<|aP (cs:=sm.map U64) O isAgg120 sizeOf120 (by rw[List.length_map];exact hA.hs) (λw' h j v hv=>by have:=(hA.o7.grow (ae h)).range j v hv;rwa [Addr.add_mid]) O O<|aq 9 O O isAgg120 sizeOf120 (by rw[List.length_map];exact hskl) O O<|Ca O (HD sm sk hA.hs hskl)<|?_
   obtain ⟨sm',hsm⟩: ∃x,SAD sm sk=x:=⟨_,rfl⟩;have hsml:sm'.length=6:=by rw[<-hsm];exact CZ _ _
   have hsmd:sm'=SMW (c.sd+p) (i+1):=by rw[<-hsm,hA.sd,hskd];rfl
   rw[hsm];refine fL gt_low (λw' h=>hGF.g _ _ _ h) (λw' h=>hA.o7.grow (ae h)) om O O sizeOf120 (by rw[List.length_map];exact hsml) (be _) (by simp[hA.hs,hsml]) O (λwa wb hCa gb mb ob=> ?_)
   have hGa:Grow wk wa:=ae hCa;have hGFb:=gt_low.plain gb;have h7lt:=hA.o7.lt;have z9:wk.heap.size<=b9:=(hCa.own 9 _ _ _ O).2.elim id False.elim;have o9:=mb.own (hCa.own 9 _ _ _ O).1 om;rw[dp _ _ (by simp[hA.hs,hsml])]at ob
   have o4b:=mb.own (hA.o4.grow hGa) hne.2.1;have o6b:=mb.own (hA.o6.grow hGa) hne.2.2;have slb:=(hA.sl.grow hGa).mm mb (λk hk=>(hA.dj k hk).2.2.2.1);have chb:=(hA.ch.grow hGa).mm mb (λk hk e=>hA.n7 (e▸hk)) (λm hm k hk e=>by have:=((hch.ks m hm).2.2 k hk).2;omega) (λe=>by have h1:=hch.mkr.lt;have h2:c.bm=b7:=e;omega)
   have mmb:MM c.own w wb:=(hA.mm.trans (aZ hGa)).trans' mb (λk hk hlt=>om);refine aa<|wl (E:=EE [68]) (λX=>X=λw'=>OwnB w' b6 (.slice aX i cX::(List.replicate 48 (0#8)).map U8) 35) mkP (rkB [60]) [0,1,2,3,4,5,6,7,8] de O kr kr kr<|cw O O<|Fa 0 O underlying35 O sizeOf31<|aa<|mC (X:=λw'=>OwnB w' b6 (.slice aX i cX::(List.replicate 48 (0#8)).map U8) 35) O (λw' h=>o6b.grow (ae h)) (λ_=>rfl)<|aT (v:=.slice aX i cX) O isAgg31 (λw' h=>(h.cell 0).trans O) O O<|aa<|cw O O<|Mv O<|aa<|cw O O<|aP (cs:=sk.map U64) O isAgg120 sizeOf120 (by rw[List.length_map];exact hskl) (λw' h j v hv=>by have:=(o9.grow (ae h)).range j v hv;rwa [Addr.add_mid]) O O<|aa<|gD O<|?_
   refine ff gt_low (M:=(c.re i a1 c1 x1 a2 c2 x2).own) hA.ch.low O O ent68 O O hGFb (Q:=λw1 w2 v=> ∃(kb:L8) (a1':Option Addr) (c1':Nat) (x1':List Value) (a2':Option Addr) (c2':Nat) (x2':List Value),v=.agg (kb.map U8).toArray/\(kb.length=48/\kb=KYW sk)/\ChAt w2 (c.re (i+1) a1' c1' x1' a2' c2' x2')/\∀k,(c.re (i+1) a1' c1' x1' a2' c2' x2').own k->(c.re i a1 c1 x1 a2 c2 x2).own k\/w1.heap.size<=k) (λw1 h1 g1=>(xT (c.re i a1 c1 x1 a2 c2 x2) sk hskl (by show c.nK+i<=_;omega) (by show c.nS+i<=_;omega) w1 g1 (chb.grow h1)).mono λe w2 ⟨kb,a1',c1',x1',a2',c2',x2',he,hk,hk2,hm,hc,hs⟩=>⟨_,he,hm,kb,a1',c1',x1',a2',c2',x2',rfl,⟨hk,hk2⟩,hc,hs⟩) (λw2 wc v g12 hm2 gc hq=> ?_)
   obtain ⟨kb,a1',c1',x1',a2',c2',x2',rfl,⟨hkl,hkbd⟩,chc,subc⟩:=hq;have hGFc:=gt_low.plain gc;have o4c:=hm2.own (o4b.grow g12) hA.n4;have o6c:=hm2.own (o6b.grow g12) hA.n6;have o7c:=hm2.own (ob.grow g12) hA.n7;have slc:=(slb.grow g12).mm hm2 (λk hk=>(hA.dj k hk).1);have n4c: ¬(c.re (i+1) a1' c1' x1' a2' c2' x2').own b4:=λx=>(subc _ x).elim hA.n4 (λh=>absurd (o4b.grow g12).lt (Nat.not_lt.2 h));have n6c: ¬(c.re (i+1) a1' c1' x1' a2' c2' x2').own b6:=λx=>(subc _ x).elim hA.n6 (λh=>absurd (o6b.grow g12).lt (Nat.not_lt.2 h));have n7c: ¬(c.re (i+1) a1' c1' x1' a2' c2' x2').own b7:=λx=>(subc _ x).elim hA.n7 (λh=>absurd (ob.grow g12).lt (Nat.not_lt.2 h));have djc: ∀k,Of aX k->¬(c.re (i+1) a1' c1' x1' a2' c2' x2').own k:=λk hk x=>(subc _ x).elim (hA.dj k hk).1 (λh=>absurd ((slb.grow g12).lt k hk) (Nat.not_lt.2 h));have szb:w.heap.size<=w2.heap.size:=Nat.le_trans mmb.size g12.size;have sube: ∀k,(c.re (i+1) a1' c1' x1' a2' c2' x2').own k->c.own k\/w.heap.size<=k:=λk x=>(subc k x).elim (hA.sub k) (λh=>.inr (Nat.le_trans szb h));have mmc:MM c.own w wc:=(mmb.trans (aZ g12)).trans' hm2 (λk hk hlt=>(hA.sub k hk).elim id (λh=>absurd hlt (Nat.not_lt.2 h)));refine aa ?_;refine ⟨λ_ X hX _=>by subst hX;exact λw' h=>o6c.grow (ae h), ?_⟩
   refine gD O<|ig 64 (kb.map U8) hGFc O (by rw[List.length_map];exact hkl) aC aC underlying31 sizeOf33 zeroValue33 O O<|λb64=>aa<|?_
   refine ⟨λ_ X hX _=>by subst hX;exact λw' h=>o6c.grow (ae h), ?_⟩
   refine gD O ?_;refine Ee (xs:=ks.flatten.map U8) (ys:=kb.map U8) (nx:=i) (ny:=1) gt_low (λw' h=>hGFc.g _ _ _ h) O O Dh O (λw' h=>slc.grow (ae h)) (λk hk=>by have:=(hA.dj k hk).2.2.2.2;omega) (λw' h i9 hi9 hz9 hs9 _=>ASrc.of underlying31 hi9 hz9 (by rw[hs9];exact Src.ofSlice w' underlying31 ⟨b64,0,none⟩ 1 1 _ (by rw[List.length_map,hkl]) (λj u hu=>by rw[Addr.add_mid,Nat.zero_add];have:=(h.own 64 _ _ _ O).1.range j u hu;rwa [Nat.zero_add]at this) (λu hu=>by obtain ⟨q,_,rfl⟩:=List.mem_map.1 hu;rfl))) om om O O (λwd we aN cN hCd ge me sle ofe=> ?_)
   have hGd:Grow wc wd:=ae hCd;have hGFe:=gt_low.plain ge;have o4e:=me.own (o4c.grow hGd) (λx=>(hA.dj _ x).2.1 O);have o6e:=me.own (o6c.grow hGd) (λx=>(hA.dj _ x).2.2.1 O);have o7e:=me.own (o7c.grow hGd) (λx=>(hA.dj _ x).2.2.2.1 O);have che:=(chc.grow hGd).mm me (λk hk x=>djc k x hk) (λm hm k hk x=>by have h1:=((hch.ks m hm).2.2 k hk).2;have h2:=(hA.dj k x).2.2.2.2;omega) (λx=>by have h1:=hch.mkr.lt;have h2:=(hA.dj _ x).2.2.2.2;have h3:(c.re (i+1) a1' c1' x1' a2' c2' x2').bm=c.bm:=rfl;omega)
   have n4e:=n4c;have n6e:=n6c;have n7e:=n7c;have mme:MM c.own w we:=(mmc.trans (aZ hGd)).trans' me (λk hk hlt=>by have:=(hA.dj k hk).2.2.2.2;omega)
   have dje: ∀k,Of aN k->¬(c.re (i+1) a1' c1' x1' a2' c2' x2').own k/\k≠b4/\k≠b6/\k≠b7/\w.heap.size<=k:=λk hk=>(ofe k hk).elim (λh=>⟨djc k h,(hA.dj k h).2⟩) (λh=>by have h4:=(o4c.grow hGd).lt;have h6:=(o6c.grow hGd).lt;have h7:=(o7c.grow hGd).lt;have h8:=mmc.size;have h9:=hGd.size;exact ⟨λx=>absurd ((chc.grow hGd).lt k x) (Nat.not_lt.2 h),om,om,om,om⟩)
   refine aa ?_;refine ⟨λh=>(by cases h), ?_⟩
   refine cw O O<|Fa 0 O underlying35 O sizeOf31<|aa<|gD O<|?_;refine eV gt_low (λw' h=>hGFe.g _ _ _ h) (λw' h=>o6e.grow (ae h)) om O O sizeOf31 O aB O (λwq wf hCq gf mf of=> ?_);have hGq:Grow we wq:=ae hCq;have h6lt:=o6e.lt;rw[List.set_cons_zero]at of;have che2:=(che.grow hGq).mm mf (λk hk e=>n6e (e▸hk)) (λm hm k hk e=>by have:=((hch.ks m hm).2.2 k hk).2;omega) (λe=>by have h1:=hch.mkr.lt;have h2:c.bm=b6:=e;omega)
   have hA2:CI w c (c.sd+p) b4 b6 b7 (i+1) wf sm' aN cN (ks++[kb]) (c.re (i+1) a1' c1' x1' a2' c2' x2'):=⟨gf,che2,(mme.trans (aZ hGq)).trans' mf (λk hk hlt=>om),sube,mf.own (o4e.grow hGq) hne.1,of,mf.own (o7e.grow hGq) (λe=>hne.2.2 e.symm),n4e,n6e,n7e,hsml,by rw[List.flatten_append,List.map_append,List.flatten_singleton];exact (sle.grow hGq).mm mf (λk hk=>(dje k hk).2.2.1),by rw[List.length_append,hA.kl];rfl,λr hr=>(List.mem_append.1 hr).elim (hA.k48 r) (λh=>by rw[List.mem_singleton]at h;rw[h];exact hkl),dje,by rw[List.range_succ,List.map_append,<-hA.kd,hkbd,hskd];rfl,hsmd⟩
   refine aa ?_;refine ⟨λh=>(by cases h), ?_⟩
   refine iH<|Xq<|Mv O<|Bnr (v:=I (((i+1:Nat):Int))) O O (λ_=>(ay _ _ _ aG).trans aE)<|Asg O<|aa<|?_
   repeat (refine bh ?_)
   exact aY<|⟨rfl,⟨(i+1,wf,sm',aN,cN,ks++[kb],a1',c1',x1',a2',c2',x2'),hlt,hA2⟩,by show n-(i+1)<n-i;omega,rfl,trv⟩
  ·have hin:i=n:=by simp at hc;omega
   subst hin;clear hc;refine bv<|Xd [72,69]<|Fa 1 O underlying35 O sizeOf33<|d9 (n:=48) O underlying33 sizeOf5 aC O O<|Ca O Au<|aP (cs:=sm.map U64) O isAgg120 sizeOf120 (by rw[List.length_map];exact hA.hs) (λw' h j v hv=>by have:=(hA.o7.grow (ae h)).range j v hv;rwa [Addr.add_mid]) O O<|?_
   refine cn O O ent72 O O (λw' hw'=>(q8 sm hA.hs w' (hGF.g _ _ _ hw')).mono λe w'' h=> ?_);obtain ⟨bm,t,ht,ht0,rfl,hg,hbn,hob⟩:=h;obtain ⟨ys,hys⟩: ∃y,BYs sm 48=y:=⟨_,rfl⟩;have hyl:ys.length=48:=by rw[<-hys];exact ce _ _
   rw[hys]at hob;refine ⟨_,_,rfl,aU hGF,hw'.news aJ hg [(71,bm,ys.map U8,32)] ?_ cE, ?_⟩
   ·exact λn' b' c' t' hl=>(bx hl).elim (λ⟨_,e⟩=>by cases e;exact ⟨hbn,hob⟩) (λ⟨_,hl⟩=>by cases hl)
   clear hw' hg hbn hob;obtain ⟨bs,hbs,hbe⟩: ∃bs:L8,bs.length=48-t/\ys.drop t=bs:=⟨_,by rw[List.length_drop,hyl],rfl⟩
   rw[<-hbs];refine Cc O ent71 (λw' hw' hG=>oZ G1W ot _ bs.length bs om w' hG (BytesAt.range (λj v hv=>by rw[<-hbe,List.map_drop,List.getElem?_drop]at hv;have:=(av (n:=71) O w' hw') (t+j) v hv;rwa [Nat.zero_add]at this))) ?_
   obtain ⟨q,hq⟩: ∃q,CMU G1W bs (8*bs.length)=q:=⟨_,rfl⟩;have hql:q.length=36:=by rw[<-hq];exact jl _ ot _ _
   rw[hq];refine cn O O ent69 O O (λw' hw'=>(pR q hql w' (hGF.g _ _ _ hw')).mono λe w'' h=> ?_);obtain ⟨bm2,rfl,hg,hbn,hob⟩:=h;obtain ⟨sb,hsb⟩: ∃x,EN1 q=x:=⟨_,rfl⟩;have hsbl:sb.length=48:=by rw[<-hsb];exact wZ q
   have hsbd:sb=KYW sm:=by rw[<-hsb];exact BF ht0 ht hys hbs hbe hq
   rw[hsb]at hob;refine ⟨_,_,rfl,aU hGF,hw'.news aJ hg [(73,bm2,sb.map U8,5)] ?_ cE, ?_⟩
   ·exact λn' b' c' t' hl=>(bx hl).elim (λ⟨_,e⟩=>by cases e;exact ⟨hbn,hob⟩) (λ⟨_,hl⟩=>by cases hl)
   clear hw' hg hbn hob;have zk:wk.heap.size>=0:=Nat.zero_le _;have h6k:=hA.o6.lt;refine H7 gt_low (λw' h=>hGF.g _ _ _ h) (λw' h=>hA.o6.grow (ae h)) om O O underlying123 sz5 (cs:=sb) (by rw[hsbl];rfl) (λw' h=>BytesAt.range (av (n:=73) O w' h)) (λw' h _ ad e=>by cases e;have:=(h.own 73 _ _ _ O).2.elim id False.elim;show bm2≠b6;have h9:wk.heap.size<=bm2:=this;omega) (by simp[hsbl]) O O (λwg wh hCg gh mh oh=> ?_)
   have hGg:Grow wk wg:=ae hCg;have hGFh:=gt_low.plain gh;have oh2:OwnB wh b6 (Co.cs ⟨ks,aX,cX,sb⟩) 35:=by rw[show lay 1 (sb.map U8) (.slice aX i cX::(List.replicate 48 (0#8)).map U8)=Co.cs ⟨ks,aX,cX,sb⟩from by unfold Co.cs;rw[hA.kl];exact Lb _ (sb.map U8) ((List.replicate 48 (0#8)).map U8) (by simp[hsbl])]at oh;exact oh
   have o4h:=mh.own (hA.o4.grow hGg) hne.1;have slh:=(hA.sl.grow hGg).mm mh (λk hk=>(hA.dj k hk).2.2.1);have chh:=(hA.ch.grow hGg).mm mh (λk hk e=>hA.n6 (e▸hk)) (λm hm k hk e=>by have:=((hch.ks m hm).2.2 k hk).2;omega) (λe=>by have h1:=hch.mkr.lt;have h2:c.bm=b6:=e;omega)
   have mmh:MM c.own w wh:=(hA.mm.trans (aZ hGg)).trans' mh (λk hk hlt=>om);refine aa ?_;obtain ⟨d,hd⟩: ∃d,c.re i a1 c1 x1 a2 c2 x2=d:=⟨_,rfl⟩;rw[hd]at chh;have hdA:d.ats.length<=500000:=by rw[<-hd];exact hnA
   have hdM:d.ms.length<=500000:=by rw[<-chh.ln];exact hdA
   have n4d: ¬d.own b4:=by rw[<-hd];exact hA.n4
   have n6d: ¬d.own b6:=by rw[<-hd];exact hA.n6
   have djd: ∀k,Of aX k->¬d.own k:=λk hk=>by rw[<-hd];exact (hA.dj k hk).1
   have subd: ∀k,d.own k->c.own k\/w.heap.size<=k:=λk hk=>hA.sub k (by rw[hd];exact hk)
   obtain ⟨m,hmd⟩: ∃m:Co,(⟨ks,aX,cX,sb⟩:Co)=m:=⟨_,rfl⟩;rw[hmd]at oh2;have hltd:=chh.lt;have hmok:m.Ok:=by rw[<-hmd];exact ⟨hA.k48,hsbl,by show ks.length<=cX;rw[hA.kl];exact hA.sl.le⟩
   have hzh:=gt_low.size wh gh;have h4h:=o4h.lt;have h6h:=oh2.lt;have hbcd:d.bc=c.bc:=by rw[<-hd];rfl
   rw[show (pnt c.bc:Value)=pnt d.bc from by rw[hbcd]]
   refine vB (C':=Fx λw'=>OwnB w' b4 Co0.cs 35/\OwnB w' b6 m.cs 35/\ChAt w' d/\SlW 33 48 w' aX cX i (ks.flatten.map U8)/\MM c.own w w'/\wh.heap.size<=w'.heap.size) ?_ (λ_ h=>h) (λw' h=>⟨hGFh.g _ _ _ h,o4h.grow (ae h),oh2.grow (ae h),chh.grow (ae h),slh.grow (ae h),mmh.trans (aZ (ae h)),(ae h).size⟩) (λ_=>dk λ_ _ h g=>⟨h.1.grow g,h.2.1.grow g,h.2.2.1.grow g,h.2.2.2.1.grow g,h.2.2.2.2.1.trans (aZ g),Nat.le_trans h.2.2.2.2.2 g.size⟩);refine su (EE [2999997,2999998]) de kr kr<|bM (m:=10) [0,1,2,3,4,5,6,9,10,11,12,13] kr<|Mv O<|Mv O<|Mv O<|aR O O O<|Fa 42 O underlying61 O sizeOf58<|aT (v:=.slice d.aA d.ats.length d.cA) O isAgg58 (λw' h=>(h.2.2.2.1.oc.cell 42).trans (Cn.at42 chh.cf)) O O<|Mv O<|Mv O<|aR O O O<|Fa 43 O underlying61 O sizeOf59<|aT (v:=.slice d.aD d.ms.length d.cD) O isAgg59 (λw' h=>(h.2.2.2.1.oc.cell 43).trans (Cn.at43 chh.cf)) O O<|aP (cs:=m.cs) O isAgg35 sizeOf35 (Co.len hmok) (λw' h j v hv=>by have:=h.2.2.1.range j v hv;rwa [Addr.add_mid]) O O<|aa<|jy (m:=9) [7,14] kr kr aC<|?_
   intro i hi;simp only[List.mem_cons,List.not_mem_nil,or_false]at hi;rcases hi with rfl|rfl
   ·refine ur (b0:=wh.heap.size) (v:=U64 p) (dk λ_ _ h g=>⟨h.1.grow g,h.2.1.grow g,h.2.2.1.grow g,h.2.2.2.1.grow g,h.2.2.2.2.1.trans (aZ g),Nat.le_trans h.2.2.2.2.2 g.size⟩) (λ_ h=>gt_low.plain h) (λw' h=>h.2.2.2.2.2.2) O O underlying58 sizeOf22 zeroValue22 O O<|λb82 hb82=>aa<|jy (m:=8) [8,14] kr kr aC<|?_
    intro i hi;simp only[List.mem_cons,List.not_mem_nil,or_false]at hi;rcases hi with rfl|rfl
    ·refine fD (b0:=wh.heap.size) (xs:=d.ats.map U64) (ys:=[U64 p]) (nx:=d.ats.length) (ny:=1) (U:=(λk=>k=b4\/k=b6\/Of aX k)) gt_low (bQ (dk λ_ _ h g=>⟨h.1.grow g,h.2.1.grow g,h.2.2.1.grow g,h.2.2.2.1.grow g,h.2.2.2.2.1.trans (aZ g),Nat.le_trans h.2.2.2.2.2 g.size⟩) (λ_ _ x g=>x.grow g)) (λw' h=>h.1.2.2.2.2.2.2) (λw' h k=>(λhk=>hk.elim (λe=>e▸h.1.2.1.lt) (λhk=>hk.elim (λe=>e▸h.1.2.2.1.lt) (h.1.2.2.2.2.1.lt k)))) O O G3 O (λw' h=>by have:=mr.1 h.1.2.2.2.1.oA;rwa [List.length_map]at this) (λk hk=>chh.low k (.inr (.inr (.inl hk)))) (λw' h i hi hz hs' hb=>ASrc.of underlying58 hi hz (by rw[hs'];exact Src.ofSlice w' underlying58 ⟨b82,0,none⟩ 1 1 _ (rfl) (λj u hu=>by rw[Addr.add_mid,Nat.zero_add];have:=h.2.range j u hu;rwa [Nat.zero_add]at this) (λu hu=>by rw[List.mem_singleton]at hu;subst hu;rfl))) om om O O (λw1 w2 h hg hm hs=>⟨⟨hg,hm.own h.1.2.1 (λx=>n4d (.inr (.inr (.inl x)))),hm.own h.1.2.2.1 (λx=>n6d (.inr (.inr (.inl x)))),h.1.2.2.2.1.stA hm hs,h.1.2.2.2.2.1.mm hm (λk hk x=>djd k hk (.inr (.inr (.inl x)))),h.1.2.2.2.2.2.1.trans' hm (λk hk hlt=>(subd k (.inr (.inr (.inl hk)))).elim id (λh=>absurd hlt (Nat.not_lt.2 h))),Nat.le_trans h.1.2.2.2.2.2.2 hm.size⟩,hm.own h.2 (λx=>by have h1:=(hltd _ (.inr (.inr (.inl x))));have h2:=hb82;omega)⟩)<|λa83 c83 ha83=>aa<|bM (m:=7) [14] kr<|jf (b0:=wh.heap.size) m.cs (bQ (bQ (dk λ_ _ h g=>⟨h.1.grow g,h.2.1.grow g,h.2.2.1.grow g,h.2.2.2.1.grow g,h.2.2.2.2.1.trans (aZ g),Nat.le_trans h.2.2.2.2.2 g.size⟩) (λ_ _ x g=>x.grow g)) (λ_ _ x g=>x.grow g)) (λ_ h=>gt_low.plain h) (λw' h=>h.1.1.2.2.2.2.2.2) O (Co.len hmok) aC aC underlying59 sizeOf35 zeroValue35 O O<|λb89 hb89=>aa<|bM (m:=6) [15] kr<|fD (b0:=wh.heap.size) (xs:=d.ms.flatMap Co.cs) (ys:=m.cs) (nx:=d.ms.length) (ny:=1) (U:=(λk=>(k=b4\/k=b6\/Of aX k)\/Of a83 k)) gt_low (bQ (bQ (bQ (dk λ_ _ h g=>⟨h.1.grow g,h.2.1.grow g,h.2.2.1.grow g,h.2.2.2.1.grow g,h.2.2.2.2.1.trans (aZ g),Nat.le_trans h.2.2.2.2.2 g.size⟩) (λ_ _ x g=>x.grow g)) (λ_ _ x g=>x.grow g)) (λ_ _ x g=>x.grow g)) (λw' h=>h.1.1.1.2.2.2.2.2.2) (λw' h k hk=>hk.elim (λhk=>hk.elim (λe=>e▸h.1.1.1.2.1.lt) (λhk=>hk.elim (λe=>e▸h.1.1.1.2.2.1.lt) (h.1.1.1.2.2.2.2.1.lt k))) (h.1.2.lt k)) O O ID O (λw' h=>h.1.1.1.2.2.2.1.oD) (λk hk=>chh.low k (.inr (.inr (.inr (.inl hk))))) (λw' h i hi hz hs' hb=>ASrc.of underlying59 hi hz (by rw[hs'];exact Src.ofSlice w' underlying59 ⟨b89,0,none⟩ 1 1 _ (by rw[Co.len hmok]) (λj u hu=>by rw[Addr.add_mid,Nat.zero_add];have:=h.2.range j u hu;rwa [Nat.zero_add]at this) (λu hu=>List.all_eq_true.1 (Co.one m) u hu))) om om O O (λw1 w2 h hg hm hs=>⟨⟨⟨⟨hg,hm.own h.1.1.1.2.1 (λx=>n4d (.inr (.inr (.inr (.inl x))))),hm.own h.1.1.1.2.2.1 (λx=>n6d (.inr (.inr (.inr (.inl x))))),h.1.1.1.2.2.2.1.stD hm hs,h.1.1.1.2.2.2.2.1.mm hm (λk hk x=>djd k hk (.inr (.inr (.inr (.inl x))))),h.1.1.1.2.2.2.2.2.1.trans' hm (λk hk hlt=>(subd k (.inr (.inr (.inr (.inl hk))))).elim id (λh=>absurd hlt (Nat.not_lt.2 h))),Nat.le_trans h.1.1.1.2.2.2.2.2.2 hm.size⟩,hm.own h.1.1.2 (λx=>by have h1:=(hltd _ (.inr (.inr (.inr (.inl x)))));have h2:=hb82;omega)⟩,h.1.2.mm hm (λk hk x=>(ha83 k hk).elim (λh1=>(chh.dD k x).2.2 h1) (λh1=>absurd (hltd k (.inr (.inr (.inr (.inl x))))) (Nat.not_lt.2 h1.1)))⟩,hm.own h.2 (λx=>by have h1:=(hltd _ (.inr (.inr (.inr (.inl x)))));have h2:=hb89;omega)⟩)<|λa90 c90 ha90=>aa<|bM (m:=4) [16,17] kr<|aR O O O<|Fa 42 O underlying61 O sizeOf58<|aa<|bM (m:=3) [18] kr<|?_
     refine eV gt_low (λw' h=>h.1.1.1.1.1) (λw' h=>h.1.1.1.1.2.2.2.1.oc) (chh.low _ (.inl O)) O O sizeOf58 O (by rw[Cn.len chh.cf];decide) O (λw5 w6 h g6 m6 o6'=> ?_)
     have hGF6:=gt_low.plain g6;have F5:=h;refine aa<|bM (m:=1) [19,20] kr<|aR O O O<|Fa 43 O underlying61 O sizeOf59<|aa<|bM (m:=0) [21] kr<|?_;refine eV gt_low (λw' h=>hGF6.g _ _ _ h) (λw' h=>o6'.grow (ae h)) (chh.low _ (.inl O)) O O sizeOf59 O (by rw[List.length_set,Cn.len chh.cf];decide) O (λw7 w8 hC7 g8 m8 o8=> ?_)
     have m58:MM (λk=>k=d.bc) w5 w8:=(m6.trans (aZ (ae hC7))).trans m8;have n12: ∀k,Of a83 k->¬Of a90 k:=λk hk hk2=>(ha90 k hk2).elim (λh1=>(ha83 k hk).elim (λh2=>(chh.dD k h1).2.2 h2) (λh2=>absurd (hltd k (.inr (.inr (.inr (.inl h1))))) (Nat.not_lt.2 h2.1))) (λh1=>h1.2 (.inr hk));have hrw:RwsAt 48 w5 m.ka m.ks:=by rw[<-hmd];exact oO F5.1.1.1.1.2.2.2.2.1 hA.kl hA.k48
     have hfin:=sD (p:=p) (m:=m) chh gh F5.1.1.1.1.2.2.2.1 F5.1.1.2 F5.2 (λk hk=>(ha83 k hk).imp id And.left) (λk hk=>(ha90 k hk).imp id And.left) n12 F5.1.1.1.1.2.2.2.2.2.2 m58 o8 hmok hrw (by rw[<-hmd];show SlW 33 48 w5 aX cX ks.length (ks.flatten.map U8);rw[hA.kl];exact F5.1.1.1.1.2.2.2.2.1) (λk hk=>by rw[<-hmd]at hk;have:=(hA.dj k hk).2.2.2.2;omega) (λk hk=>by rw[<-hmd]at hk;exact ⟨djd k hk,slh.lt k hk,λx=>(ha83 k x).elim (λh1=>djd k hk (.inr (.inr (.inl h1)))) (λh1=>h1.2 (.inr (.inr hk))),λx=>(ha90 k x).elim (λh1=>djd k hk (.inr (.inr (.inr (.inl h1))))) (λh1=>h1.2 (.inl (.inr (.inr hk))))⟩)
     have mm8:MM c.own w w8:=F5.1.1.1.1.2.2.2.2.2.1.trans' m58 (λk hk hlt=>(subd k (.inl hk)).elim id (λh=>absurd hlt (Nat.not_lt.2 h)));have o48:=m58.own F5.1.1.1.1.2.1 (λe=>n4d (.inl e));have o68:=m58.own F5.1.1.1.1.2.2.1 (λe=>n6d (.inl e));have hGF8:=gt_low.plain g8;refine aa<|fO kr<|aY<|am (E:=EE [2999997,2999998])<|aP (cs:=m.cs) O isAgg35 sizeOf35 (Co.len hmok) (λw' h j v hv=>by have:=(o68.grow (ae h)).range j v hv;rwa [Addr.add_mid]) O O<|?_
     refine fL gt_low (λw' h=>hGF8.g _ _ _ h) (λw' h=>o48.grow (ae h)) om O O sizeOf35 (Co.len hmok) (Co.one _) (by rw[Co.len hmok];decide) O (λw9 w10 hC9 g10 m10 o10=> ?_)
     have o11:OwnB w10 b4 m.cs 35:=by rw[dp _ _ (by rw[Co.len hmok];rfl)]at o10;exact o10
     have hGF10:=gt_low.plain g10;refine aa<|ao<|Rr<|?_;refine d8 O O isAgg35 sizeOf35 (Co.len hmok) (λw' h=>(o11.grow (ae h)).range) (λw' h=>⟨m,_,rfl, ?_,((hfin.grow (ae hC9)).mm m10 (λk hk e=> ?_) (λq hq k hk e=> ?_) (λe=> ?_)).grow (ae h), ?_, ?_, ?_,λ_ h=>by rw[j6 _ _ hno]at h;cases h⟩)
     ·exact ((mm8.trans (aZ (ae hC9))).trans' m10 (λk hk h1=>om)).trans (aZ (ae h))
     ·subst e;exact (k5 hk).elim n4d (λh1=>h1.elim (λh2=>(ha83 _ h2).elim (λh3=>n4d (.inr (.inr (.inl h3)))) (λh3=>h3.2 (.inl O))) (λh2=>(ha90 _ h2).elim (λh3=>n4d (.inr (.inr (.inr (.inl h3))))) (λh3=>h3.2 (.inl (.inl O)))))
     ·rcases List.mem_append.1 hq with h1|h1
      ·rw[<-hd]at h1;have:=((hch.ks q h1).2.2 k hk).2;omega
      ·rw[List.mem_singleton]at h1;rw[h1,<-hmd]at hk;exact (hA.dj k hk).2.1 e
     ·have h1:=hch.mkr.lt;have h2:(d.add p m a83 c83 a90 c90).bm=c.bm:=by rw[<-hd];rfl
      have h3:(d.add p m a83 c83 a90 c90).bm=b4:=e;omega
     ·rw[<-hd];exact mI hno hch.ln (by rw[<-hmd,hz];exact ⟨hA.kd,by show sb=_;rw[hsbd,hA.sd];rfl⟩) (λk hk=>by rw[<-hmd]at hk;exact (hA.dj k hk).2.2.2.2) (λk hk=>(k5 hk).elim (λh1=>by rw[hd]at h1;exact subd k h1) (λh1=>h1.elim (λh2=>(ha83 _ h2).elim (λh3=>subd k (.inr (.inr (.inl h3)))) (λh3=>.inr (Nat.le_trans mmh.size h3.1))) (λh2=>(ha90 _ h2).elim (λh3=>subd k (.inr (.inr (.inr (.inl h3))))) (λh3=>.inr (Nat.le_trans mmh.size h3.1)))))
     ·rw[<-hd];show cq (c.ats++[p]) (c.ms++[m]) p=some m;rw[jG _ _ hch.ln,j6 _ _ hno,if_pos O];rfl
     ·intro q hq;rcases List.mem_append.1 hq with h1|h1
      ·rw[<-hd]at h1;exact hmn q h1
      ·rw[List.mem_singleton]at h1;rw[h1,<-hmd];exact hA.kl
    ·refine jf (b0:=wh.heap.size) m.cs (bQ (dk λ_ _ h g=>⟨h.1.grow g,h.2.1.grow g,h.2.2.1.grow g,h.2.2.2.1.grow g,h.2.2.2.2.1.trans (aZ g),Nat.le_trans h.2.2.2.2.2 g.size⟩) (λ_ _ x g=>x.grow g)) (λ_ h=>gt_low.plain h) (λw' h=>h.1.2.2.2.2.2.2) O (Co.len hmok) aC aC underlying59 sizeOf35 zeroValue35 O O<|λb89 hb89=>aa<|bM (m:=7) [8] kr<|fD (b0:=wh.heap.size) (xs:=d.ats.map U64) (ys:=[U64 p]) (nx:=d.ats.length) (ny:=1) (U:=(λk=>k=b4\/k=b6\/Of aX k)) gt_low (bQ (bQ (dk λ_ _ h g=>⟨h.1.grow g,h.2.1.grow g,h.2.2.1.grow g,h.2.2.2.1.grow g,h.2.2.2.2.1.trans (aZ g),Nat.le_trans h.2.2.2.2.2 g.size⟩) (λ_ _ x g=>x.grow g)) (λ_ _ x g=>x.grow g)) (λw' h=>h.1.1.2.2.2.2.2.2) (λw' h k=>(λhk=>hk.elim (λe=>e▸h.1.1.2.1.lt) (λhk=>hk.elim (λe=>e▸h.1.1.2.2.1.lt) (h.1.1.2.2.2.2.1.lt k)))) O O G3 O (λw' h=>by have:=mr.1 h.1.1.2.2.2.1.oA;rwa [List.length_map]at this) (λk hk=>chh.low k (.inr (.inr (.inl hk)))) (λw' h i hi hz hs' hb=>ASrc.of underlying58 hi hz (by rw[hs'];exact Src.ofSlice w' underlying58 ⟨b82,0,none⟩ 1 1 _ (rfl) (λj u hu=>by rw[Addr.add_mid,Nat.zero_add];have:=h.1.2.range j u hu;rwa [Nat.zero_add]at this) (λu hu=>by rw[List.mem_singleton]at hu;subst hu;rfl))) om om O O (λw1 w2 h hg hm hs=>⟨⟨⟨hg,hm.own h.1.1.2.1 (λx=>n4d (.inr (.inr (.inl x)))),hm.own h.1.1.2.2.1 (λx=>n6d (.inr (.inr (.inl x)))),h.1.1.2.2.2.1.stA hm hs,h.1.1.2.2.2.2.1.mm hm (λk hk x=>djd k hk (.inr (.inr (.inl x)))),h.1.1.2.2.2.2.2.1.trans' hm (λk hk hlt=>(subd k (.inr (.inr (.inl hk)))).elim id (λh=>absurd hlt (Nat.not_lt.2 h))),Nat.le_trans h.1.1.2.2.2.2.2.2 hm.size⟩,hm.own h.1.2 (λx=>by have h1:=(hltd _ (.inr (.inr (.inl x))));have h2:=hb82;omega)⟩,hm.own h.2 (λx=>by have h1:=(hltd _ (.inr (.inr (.inl x))));have h2:=hb89;omega)⟩)<|λa83 c83 ha83=>aa<|bM (m:=6) [15] kr<|fD (b0:=wh.heap.size) (xs:=d.ms.flatMap Co.cs) (ys:=m.cs) (nx:=d.ms.length) (ny:=1) (U:=(λk=>(k=b4\/k=b6\/Of aX k)\/Of a83 k)) gt_low (bQ (bQ (bQ (dk λ_ _ h g=>⟨h.1.grow g,h.2.1.grow g,h.2.2.1.grow g,h.2.2.2.1.grow g,h.2.2.2.2.1.trans (aZ g),Nat.le_trans h.2.2.2.2.2 g.size⟩) (λ_ _ x g=>x.grow g)) (λ_ _ x g=>x.grow g)) (λ_ _ x g=>x.grow g)) (λw' h=>h.1.1.1.2.2.2.2.2.2) (λw' h k hk=>hk.elim (λhk=>hk.elim (λe=>e▸h.1.1.1.2.1.lt) (λhk=>hk.elim (λe=>e▸h.1.1.1.2.2.1.lt) (h.1.1.1.2.2.2.2.1.lt k))) (h.2.lt k)) O O ID O (λw' h=>h.1.1.1.2.2.2.1.oD) (λk hk=>chh.low k (.inr (.inr (.inr (.inl hk))))) (λw' h i hi hz hs' hb=>ASrc.of underlying59 hi hz (by rw[hs'];exact Src.ofSlice w' underlying59 ⟨b89,0,none⟩ 1 1 _ (by rw[Co.len hmok]) (λj u hu=>by rw[Addr.add_mid,Nat.zero_add];have:=h.1.2.range j u hu;rwa [Nat.zero_add]at this) (λu hu=>List.all_eq_true.1 (Co.one m) u hu))) om om O O (λw1 w2 h hg hm hs=>⟨⟨⟨⟨hg,hm.own h.1.1.1.2.1 (λx=>n4d (.inr (.inr (.inr (.inl x))))),hm.own h.1.1.1.2.2.1 (λx=>n6d (.inr (.inr (.inr (.inl x))))),h.1.1.1.2.2.2.1.stD hm hs,h.1.1.1.2.2.2.2.1.mm hm (λk hk x=>djd k hk (.inr (.inr (.inr (.inl x))))),h.1.1.1.2.2.2.2.2.1.trans' hm (λk hk hlt=>(subd k (.inr (.inr (.inr (.inl hk))))).elim id (λh=>absurd hlt (Nat.not_lt.2 h))),Nat.le_trans h.1.1.1.2.2.2.2.2.2 hm.size⟩,hm.own h.1.1.2 (λx=>by have h1:=(hltd _ (.inr (.inr (.inr (.inl x)))));have h2:=hb82;omega)⟩,hm.own h.1.2 (λx=>by have h1:=(hltd _ (.inr (.inr (.inr (.inl x)))));have h2:=hb89;omega)⟩,h.2.mm hm (λk hk x=>(ha83 k hk).elim (λh1=>(chh.dD k x).2.2 h1) (λh1=>absurd (hltd k (.inr (.inr (.inr (.inl x))))) (Nat.not_lt.2 h1.1)))⟩)<|λa90 c90 ha90=>aa<|bM (m:=4) [16,17] kr<|aR O O O<|Fa 42 O underlying61 O sizeOf58<|aa<|bM (m:=3) [18] kr<|?_
     refine eV gt_low (λw' h=>h.1.1.1.1.1) (λw' h=>h.1.1.1.1.2.2.2.1.oc) (chh.low _ (.inl O)) O O sizeOf58 O (by rw[Cn.len chh.cf];decide) O (λw5 w6 h g6 m6 o6'=> ?_)
     have hGF6:=gt_low.plain g6;have F5:=h;refine aa<|bM (m:=1) [19,20] kr<|aR O O O<|Fa 43 O underlying61 O sizeOf59<|aa<|bM (m:=0) [21] kr<|?_;refine eV gt_low (λw' h=>hGF6.g _ _ _ h) (λw' h=>o6'.grow (ae h)) (chh.low _ (.inl O)) O O sizeOf59 O (by rw[List.length_set,Cn.len chh.cf];decide) O (λw7 w8 hC7 g8 m8 o8=> ?_)
     have m58:MM (λk=>k=d.bc) w5 w8:=(m6.trans (aZ (ae hC7))).trans m8;have n12: ∀k,Of a83 k->¬Of a90 k:=λk hk hk2=>(ha90 k hk2).elim (λh1=>(ha83 k hk).elim (λh2=>(chh.dD k h1).2.2 h2) (λh2=>absurd (hltd k (.inr (.inr (.inr (.inl h1))))) (Nat.not_lt.2 h2.1))) (λh1=>h1.2 (.inr hk));have hrw:RwsAt 48 w5 m.ka m.ks:=by rw[<-hmd];exact oO F5.1.1.1.1.2.2.2.2.1 hA.kl hA.k48
     have hfin:=sD (p:=p) (m:=m) chh gh F5.1.1.1.1.2.2.2.1 F5.1.2 F5.2 (λk hk=>(ha83 k hk).imp id And.left) (λk hk=>(ha90 k hk).imp id And.left) n12 F5.1.1.1.1.2.2.2.2.2.2 m58 o8 hmok hrw (by rw[<-hmd];show SlW 33 48 w5 aX cX ks.length (ks.flatten.map U8);rw[hA.kl];exact F5.1.1.1.1.2.2.2.2.1) (λk hk=>by rw[<-hmd]at hk;have:=(hA.dj k hk).2.2.2.2;omega) (λk hk=>by rw[<-hmd]at hk;exact ⟨djd k hk,slh.lt k hk,λx=>(ha83 k x).elim (λh1=>djd k hk (.inr (.inr (.inl h1)))) (λh1=>h1.2 (.inr (.inr hk))),λx=>(ha90 k x).elim (λh1=>djd k hk (.inr (.inr (.inr (.inl h1))))) (λh1=>h1.2 (.inl (.inr (.inr hk))))⟩)
     have mm8:MM c.own w w8:=F5.1.1.1.1.2.2.2.2.2.1.trans' m58 (λk hk hlt=>(subd k (.inl hk)).elim id (λh=>absurd hlt (Nat.not_lt.2 h)));have o48:=m58.own F5.1.1.1.1.2.1 (λe=>n4d (.inl e));have o68:=m58.own F5.1.1.1.1.2.2.1 (λe=>n6d (.inl e));have hGF8:=gt_low.plain g8;refine aa<|fO kr<|aY<|am (E:=EE [2999997,2999998])<|aP (cs:=m.cs) O isAgg35 sizeOf35 (Co.len hmok) (λw' h j v hv=>by have:=(o68.grow (ae h)).range j v hv;rwa [Addr.add_mid]) O O<|?_
     refine fL gt_low (λw' h=>hGF8.g _ _ _ h) (λw' h=>o48.grow (ae h)) om O O sizeOf35 (Co.len hmok) (Co.one _) (by rw[Co.len hmok];decide) O (λw9 w10 hC9 g10 m10 o10=> ?_)
     have o11:OwnB w10 b4 m.cs 35:=by rw[dp _ _ (by rw[Co.len hmok];rfl)]at o10;exact o10
     have hGF10:=gt_low.plain g10;refine aa<|ao<|Rr<|?_;refine d8 O O isAgg35 sizeOf35 (Co.len hmok) (λw' h=>(o11.grow (ae h)).range) (λw' h=>⟨m,_,rfl, ?_,((hfin.grow (ae hC9)).mm m10 (λk hk e=> ?_) (λq hq k hk e=> ?_) (λe=> ?_)).grow (ae h), ?_, ?_, ?_,λ_ h=>by rw[j6 _ _ hno]at h;cases h⟩)
     ·exact ((mm8.trans (aZ (ae hC9))).trans' m10 (λk hk h1=>om)).trans (aZ (ae h))
     ·subst e;exact (k5 hk).elim n4d (λh1=>h1.elim (λh2=>(ha83 _ h2).elim (λh3=>n4d (.inr (.inr (.inl h3)))) (λh3=>h3.2 (.inl O))) (λh2=>(ha90 _ h2).elim (λh3=>n4d (.inr (.inr (.inr (.inl h3))))) (λh3=>h3.2 (.inl (.inl O)))))
     ·rcases List.mem_append.1 hq with h1|h1
      ·rw[<-hd]at h1;have:=((hch.ks q h1).2.2 k hk).2;omega
      ·rw[List.mem_singleton]at h1;rw[h1,<-hmd]at hk;exact (hA.dj k hk).2.1 e
     ·have h1:=hch.mkr.lt;have h2:(d.add p m a83 c83 a90 c90).bm=c.bm:=by rw[<-hd];rfl
      have h3:(d.add p m a83 c83 a90 c90).bm=b4:=e;omega
     ·rw[<-hd];exact mI hno hch.ln (by rw[<-hmd,hz];exact ⟨hA.kd,by show sb=_;rw[hsbd,hA.sd];rfl⟩) (λk hk=>by rw[<-hmd]at hk;exact (hA.dj k hk).2.2.2.2) (λk hk=>(k5 hk).elim (λh1=>by rw[hd]at h1;exact subd k h1) (λh1=>h1.elim (λh2=>(ha83 _ h2).elim (λh3=>subd k (.inr (.inr (.inl h3)))) (λh3=>.inr (Nat.le_trans mmh.size h3.1))) (λh2=>(ha90 _ h2).elim (λh3=>subd k (.inr (.inr (.inr (.inl h3))))) (λh3=>.inr (Nat.le_trans mmh.size h3.1)))))
     ·rw[<-hd];show cq (c.ats++[p]) (c.ms++[m]) p=some m;rw[jG _ _ hch.ln,j6 _ _ hno,if_pos O];rfl
     ·intro q hq;rcases List.mem_append.1 hq with h1|h1
      ·rw[<-hd]at h1;exact hmn q h1
      ·rw[List.mem_singleton]at h1;rw[h1,<-hmd];exact hA.kl
   ·refine jf (b0:=wh.heap.size) m.cs (dk λ_ _ h g=>⟨h.1.grow g,h.2.1.grow g,h.2.2.1.grow g,h.2.2.2.1.grow g,h.2.2.2.2.1.trans (aZ g),Nat.le_trans h.2.2.2.2.2 g.size⟩) (λ_ h=>gt_low.plain h) (λw' h=>h.2.2.2.2.2.2) O (Co.len hmok) aC aC underlying59 sizeOf35 zeroValue35 O O<|λb89 hb89=>aa<|bM (m:=8) [7] kr<|ur (b0:=wh.heap.size) (v:=U64 p) (bQ (dk λ_ _ h g=>⟨h.1.grow g,h.2.1.grow g,h.2.2.1.grow g,h.2.2.2.1.grow g,h.2.2.2.2.1.trans (aZ g),Nat.le_trans h.2.2.2.2.2 g.size⟩) (λ_ _ x g=>x.grow g)) (λ_ h=>gt_low.plain h) (λw' h=>h.1.2.2.2.2.2.2) O O underlying58 sizeOf22 zeroValue22 O O<|λb82 hb82=>aa<|bM (m:=7) [8] kr<|fD (b0:=wh.heap.size) (xs:=d.ats.map U64) (ys:=[U64 p]) (nx:=d.ats.length) (ny:=1) (U:=(λk=>k=b4\/k=b6\/Of aX k)) gt_low (bQ (bQ (dk λ_ _ h g=>⟨h.1.grow g,h.2.1.grow g,h.2.2.1.grow g,h.2.2.2.1.grow g,h.2.2.2.2.1.trans (aZ g),Nat.le_trans h.2.2.2.2.2 g.size⟩) (λ_ _ x g=>x.grow g)) (λ_ _ x g=>x.grow g)) (λw' h=>h.1.1.2.2.2.2.2.2) (λw' h k=>(λhk=>hk.elim (λe=>e▸h.1.1.2.1.lt) (λhk=>hk.elim (λe=>e▸h.1.1.2.2.1.lt) (h.1.1.2.2.2.2.1.lt k)))) O O G3 O (λw' h=>by have:=mr.1 h.1.1.2.2.2.1.oA;rwa [List.length_map]at this) (λk hk=>chh.low k (.inr (.inr (.inl hk)))) (λw' h i hi hz hs' hb=>ASrc.of underlying58 hi hz (by rw[hs'];exact Src.ofSlice w' underlying58 ⟨b82,0,none⟩ 1 1 _ (rfl) (λj u hu=>by rw[Addr.add_mid,Nat.zero_add];have:=h.2.range j u hu;rwa [Nat.zero_add]at this) (λu hu=>by rw[List.mem_singleton]at hu;subst hu;rfl))) om om O O (λw1 w2 h hg hm hs=>⟨⟨⟨hg,hm.own h.1.1.2.1 (λx=>n4d (.inr (.inr (.inl x)))),hm.own h.1.1.2.2.1 (λx=>n6d (.inr (.inr (.inl x)))),h.1.1.2.2.2.1.stA hm hs,h.1.1.2.2.2.2.1.mm hm (λk hk x=>djd k hk (.inr (.inr (.inl x)))),h.1.1.2.2.2.2.2.1.trans' hm (λk hk hlt=>(subd k (.inr (.inr (.inl hk)))).elim id (λh=>absurd hlt (Nat.not_lt.2 h))),Nat.le_trans h.1.1.2.2.2.2.2.2 hm.size⟩,hm.own h.1.2 (λx=>by have h1:=(hltd _ (.inr (.inr (.inl x))));have h2:=hb89;omega)⟩,hm.own h.2 (λx=>by have h1:=(hltd _ (.inr (.inr (.inl x))));have h2:=hb82;omega)⟩)<|λa83 c83 ha83=>aa<|bM (m:=6) [15] kr<|fD (b0:=wh.heap.size) (xs:=d.ms.flatMap Co.cs) (ys:=m.cs) (nx:=d.ms.length) (ny:=1) (U:=(λk=>(k=b4\/k=b6\/Of aX k)\/Of a83 k)) gt_low (bQ (bQ (bQ (dk λ_ _ h g=>⟨h.1.grow g,h.2.1.grow g,h.2.2.1.grow g,h.2.2.2.1.grow g,h.2.2.2.2.1.trans (aZ g),Nat.le_trans h.2.2.2.2.2 g.size⟩) (λ_ _ x g=>x.grow g)) (λ_ _ x g=>x.grow g)) (λ_ _ x g=>x.grow g)) (λw' h=>h.1.1.1.2.2.2.2.2.2) (λw' h k hk=>hk.elim (λhk=>hk.elim (λe=>e▸h.1.1.1.2.1.lt) (λhk=>hk.elim (λe=>e▸h.1.1.1.2.2.1.lt) (h.1.1.1.2.2.2.2.1.lt k))) (h.2.lt k)) O O ID O (λw' h=>h.1.1.1.2.2.2.1.oD) (λk hk=>chh.low k (.inr (.inr (.inr (.inl hk))))) (λw' h i hi hz hs' hb=>ASrc.of underlying59 hi hz (by rw[hs'];exact Src.ofSlice w' underlying59 ⟨b89,0,none⟩ 1 1 _ (by rw[Co.len hmok]) (λj u hu=>by rw[Addr.add_mid,Nat.zero_add];have:=h.1.1.2.range j u hu;rwa [Nat.zero_add]at this) (λu hu=>List.all_eq_true.1 (Co.one m) u hu))) om om O O (λw1 w2 h hg hm hs=>⟨⟨⟨⟨hg,hm.own h.1.1.1.2.1 (λx=>n4d (.inr (.inr (.inr (.inl x))))),hm.own h.1.1.1.2.2.1 (λx=>n6d (.inr (.inr (.inr (.inl x))))),h.1.1.1.2.2.2.1.stD hm hs,h.1.1.1.2.2.2.2.1.mm hm (λk hk x=>djd k hk (.inr (.inr (.inr (.inl x))))),h.1.1.1.2.2.2.2.2.1.trans' hm (λk hk hlt=>(subd k (.inr (.inr (.inr (.inl hk))))).elim id (λh=>absurd hlt (Nat.not_lt.2 h))),Nat.le_trans h.1.1.1.2.2.2.2.2.2 hm.size⟩,hm.own h.1.1.2 (λx=>by have h1:=(hltd _ (.inr (.inr (.inr (.inl x)))));have h2:=hb89;omega)⟩,hm.own h.1.2 (λx=>by have h1:=(hltd _ (.inr (.inr (.inr (.inl x)))));have h2:=hb82;omega)⟩,h.2.mm hm (λk hk x=>(ha83 k hk).elim (λh1=>(chh.dD k x).2.2 h1) (λh1=>absurd (hltd k (.inr (.inr (.inr (.inl x))))) (Nat.not_lt.2 h1.1)))⟩)<|λa90 c90 ha90=>aa<|bM (m:=4) [16,17] kr<|aR O O O<|Fa 42 O underlying61 O sizeOf58<|aa<|bM (m:=3) [18] kr<|?_
    refine eV gt_low (λw' h=>h.1.1.1.1.1) (λw' h=>h.1.1.1.1.2.2.2.1.oc) (chh.low _ (.inl O)) O O sizeOf58 O (by rw[Cn.len chh.cf];decide) O (λw5 w6 h g6 m6 o6'=> ?_)
    have hGF6:=gt_low.plain g6;have F5:=h;refine aa<|bM (m:=1) [19,20] kr<|aR O O O<|Fa 43 O underlying61 O sizeOf59<|aa<|bM (m:=0) [21] kr<|?_;refine eV gt_low (λw' h=>hGF6.g _ _ _ h) (λw' h=>o6'.grow (ae h)) (chh.low _ (.inl O)) O O sizeOf59 O (by rw[List.length_set,Cn.len chh.cf];decide) O (λw7 w8 hC7 g8 m8 o8=> ?_)
    have m58:MM (λk=>k=d.bc) w5 w8:=(m6.trans (aZ (ae hC7))).trans m8;have n12: ∀k,Of a83 k->¬Of a90 k:=λk hk hk2=>(ha90 k hk2).elim (λh1=>(ha83 k hk).elim (λh2=>(chh.dD k h1).2.2 h2) (λh2=>absurd (hltd k (.inr (.inr (.inr (.inl h1))))) (Nat.not_lt.2 h2.1))) (λh1=>h1.2 (.inr hk));have hrw:RwsAt 48 w5 m.ka m.ks:=by rw[<-hmd];exact oO F5.1.1.1.1.2.2.2.2.1 hA.kl hA.k48
    have hfin:=sD (p:=p) (m:=m) chh gh F5.1.1.1.1.2.2.2.1 F5.1.2 F5.2 (λk hk=>(ha83 k hk).imp id And.left) (λk hk=>(ha90 k hk).imp id And.left) n12 F5.1.1.1.1.2.2.2.2.2.2 m58 o8 hmok hrw (by rw[<-hmd];show SlW 33 48 w5 aX cX ks.length (ks.flatten.map U8);rw[hA.kl];exact F5.1.1.1.1.2.2.2.2.1) (λk hk=>by rw[<-hmd]at hk;have:=(hA.dj k hk).2.2.2.2;omega) (λk hk=>by rw[<-hmd]at hk;exact ⟨djd k hk,slh.lt k hk,λx=>(ha83 k x).elim (λh1=>djd k hk (.inr (.inr (.inl h1)))) (λh1=>h1.2 (.inr (.inr hk))),λx=>(ha90 k x).elim (λh1=>djd k hk (.inr (.inr (.inr (.inl h1))))) (λh1=>h1.2 (.inl (.inr (.inr hk))))⟩)
    have mm8:MM c.own w w8:=F5.1.1.1.1.2.2.2.2.2.1.trans' m58 (λk hk hlt=>(subd k (.inl hk)).elim id (λh=>absurd hlt (Nat.not_lt.2 h)));have o48:=m58.own F5.1.1.1.1.2.1 (λe=>n4d (.inl e));have o68:=m58.own F5.1.1.1.1.2.2.1 (λe=>n6d (.inl e));have hGF8:=gt_low.plain g8;refine aa<|fO kr<|aY<|am (E:=EE [2999997,2999998])<|aP (cs:=m.cs) O isAgg35 sizeOf35 (Co.len hmok) (λw' h j v hv=>by have:=(o68.grow (ae h)).range j v hv;rwa [Addr.add_mid]) O O<|?_
    refine fL gt_low (λw' h=>hGF8.g _ _ _ h) (λw' h=>o48.grow (ae h)) om O O sizeOf35 (Co.len hmok) (Co.one _) (by rw[Co.len hmok];decide) O (λw9 w10 hC9 g10 m10 o10=> ?_)
    have o11:OwnB w10 b4 m.cs 35:=by rw[dp _ _ (by rw[Co.len hmok];rfl)]at o10;exact o10
    have hGF10:=gt_low.plain g10;refine aa<|ao<|Rr<|?_;refine d8 O O isAgg35 sizeOf35 (Co.len hmok) (λw' h=>(o11.grow (ae h)).range) (λw' h=>⟨m,_,rfl, ?_,((hfin.grow (ae hC9)).mm m10 (λk hk e=> ?_) (λq hq k hk e=> ?_) (λe=> ?_)).grow (ae h), ?_, ?_, ?_,λ_ h=>by rw[j6 _ _ hno]at h;cases h⟩)
    ·exact ((mm8.trans (aZ (ae hC9))).trans' m10 (λk hk h1=>om)).trans (aZ (ae h))
    ·subst e;exact (k5 hk).elim n4d (λh1=>h1.elim (λh2=>(ha83 _ h2).elim (λh3=>n4d (.inr (.inr (.inl h3)))) (λh3=>h3.2 (.inl O))) (λh2=>(ha90 _ h2).elim (λh3=>n4d (.inr (.inr (.inr (.inl h3))))) (λh3=>h3.2 (.inl (.inl O)))))
    ·rcases List.mem_append.1 hq with h1|h1
     ·rw[<-hd]at h1;have:=((hch.ks q h1).2.2 k hk).2;omega
     ·rw[List.mem_singleton]at h1;rw[h1,<-hmd]at hk;exact (hA.dj k hk).2.1 e
    ·have h1:=hch.mkr.lt;have h2:(d.add p m a83 c83 a90 c90).bm=c.bm:=by rw[<-hd];rfl
     have h3:(d.add p m a83 c83 a90 c90).bm=b4:=e;omega
    ·rw[<-hd];exact mI hno hch.ln (by rw[<-hmd,hz];exact ⟨hA.kd,by show sb=_;rw[hsbd,hA.sd];rfl⟩) (λk hk=>by rw[<-hmd]at hk;exact (hA.dj k hk).2.2.2.2) (λk hk=>(k5 hk).elim (λh1=>by rw[hd]at h1;exact subd k h1) (λh1=>h1.elim (λh2=>(ha83 _ h2).elim (λh3=>subd k (.inr (.inr (.inl h3)))) (λh3=>.inr (Nat.le_trans mmh.size h3.1))) (λh2=>(ha90 _ h2).elim (λh3=>subd k (.inr (.inr (.inr (.inl h3))))) (λh3=>.inr (Nat.le_trans mmh.size h3.1)))))
    ·rw[<-hd];show cq (c.ats++[p]) (c.ms++[m]) p=some m;rw[jG _ _ hch.ln,j6 _ _ hno,if_pos O];rfl
    ·intro q hq;rcases List.mem_append.1 hq with h1|h1
     ·rw[<-hd]at h1;exact hmn q h1
     ·rw[List.mem_singleton]at h1;rw[h1,<-hmd];exact hA.kl
theorem yZ(c:Cn)(p:BitVec 64)(n:Nat)(m:Co)(hm:cq c.ats c.ms p=some m)(hz:c.cf.z=(n:Int))(hn:n<=512)(hnK:c.nK<=500000)(hnS:c.nS<=500000)(hnA:c.ats.length<=500000)(hmn: ∀m∈c.ms,m.ks.length=n)(w:World)(hw:Gt w)(hch:ChAt w c):CLS 29 [pnt c.bc,U64 p].toArray w (λe w'=>e=.returned (.agg m.cs.toArray)/\Grow w w'):=
 (nq c p n hz hn hnK hnS hnA hmn w hw hch).mono λe w' ⟨m1,d,he,_,_,_,hg,_,hk⟩=>by
  obtain ⟨g,rfl⟩:=hk m hm;rw[hm]at hg
  cases hg
  exact ⟨he,g⟩
end
end Go.Proofs.YtfakhlafilbjkaaGreatDoor
