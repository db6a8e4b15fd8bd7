/- L8 -/
import Derived.Test.YtfgacclgjklgnaaGreatDoorL7
import Derived.Test.YtfgacclgjklgnaaGreatDoorXW
import Derived.Test.YtfgacclgjklgnaaGreatDoorL3
import Derived.Test.YtfgacclgjklgnaaGreatDoorL5
import Derived.Test.YtfgacclgjklgnaaGreatDoorL4
import Derived.Test.YtfgacclgjklgnaaGreatDoorX3
set_option maxRecDepth 100000
set_option maxHeartbeats 1000000
namespace Go.Proofs.YtfgacclgjklgnaaGreatDoor
open Go.Proofs.Tryz
section
open Go.RowKit
attribute [local simp] aT a9 aR aM aC bd aJ aI aA PLl cq cn N1l ck cp cm a5 bc aP aX a8 J1.bf J2.bf bI fx
theorem qi{bs:L8}{c:Int}{P:Pt Zp}(h:D1 bs c P):E1.onP P:=by
 rcases h with ⟨_,_,rfl⟩|⟨_,⟨_,_,rfl⟩|⟨_,⟨_,_,rfl⟩|⟨_,⟨_,_,rfl⟩|⟨_,⟨_,_,rfl⟩|⟨q,h⟩⟩⟩⟩⟩
 ·exact True.intro
 ·exact True.intro
 ·exact True.intro
 ·exact True.intro
 ·exact True.intro
 ·rcases h with ⟨_,_,rfl⟩|⟨_,⟨_,_,rfl⟩|⟨_,_,rfl⟩⟩
  ·exact True.intro
  ·exact True.intro
  ·exact J1.KO q _
theorem jQ{bs:L8}{c:Int}{P:Pt W2}(h:D2 bs c P):E2w.onP P:=by
 rcases h with ⟨_,_,rfl⟩|⟨_,⟨_,_,rfl⟩|⟨_,⟨_,_,rfl⟩|⟨_,⟨_,_,rfl⟩|⟨_,⟨_,_,rfl⟩|⟨r,hr,_,h⟩⟩⟩⟩⟩
 ·exact True.intro
 ·exact True.intro
 ·exact True.intro
 ·exact True.intro
 ·exact True.intro
 ·rcases h with ⟨_,_,rfl⟩|⟨_,⟨_,_,rfl⟩|⟨_,_,rfl⟩⟩
  ·exact True.intro
  ·exact True.intro
  ·exact J2.fw (J2.ld.2 (J2.Cf hr _))
def cA1(P:Pt Zp)(on:E1.onP P):J1.GP:=⟨match P with|none=>(0,0,0)|some p=>(p.1,p.2,1),P,on,by
 cases P with
 |none=>rfl
 |some p=>exact E1.jr_at p kd⟩
def cA2(P:Pt W2)(on:E2w.onP P):J2.GP:=⟨match P with|none=>(ze2,ze2,ze2)|some p=>(p.1,p.2,on2),P,on,by
 cases P with
 |none=>rfl
 |some p=>exact mM p⟩
theorem qh(a:Option Addr)(len k:Nat)(xs:L8)(h48:xs.length=48)(hn:len=48)(hl:BN xs 48<PP)(x:Zp)(hx:zp (BN xs 48)=x)(w:World)(hw:Gt w)(hby:BytesAt w a xs):CLS 90 [.slice a len k].toArray w (fun r w'=>r=.returned (.tuple #[EV x,.bool true])∧Grow w w'):=by
 have h:=dw a k xs w hw hby
 rw[h48,show FV xs=x from (if_pos ⟨h48,hl⟩).trans hx,show FO xs=true from decide_eq_true ⟨h48,hl⟩]at h
 subst hn
 exact h
theorem oo(a:Option Addr)(len k:Nat)(xs:L8)(h48:xs.length=48)(hn:len=48)(hl: ¬BN xs 48<PP)(w:World)(hw:Gt w)(hby:BytesAt w a xs):CLS 90 [.slice a len k].toArray w (fun r w'=>r=.returned (.tuple #[EV 0,.bool false])∧Grow w w'):=by
 have h:=dw a k xs w hw hby
 rw[h48,show FV xs=0 from if_neg (fun e=>hl e.2),show FO xs=false from decide_eq_false (fun e=>hl e.2)]at h
 subst hn
 exact h
theorem n7(e:Option Addr)(cap:Nat)(bs:L8)(c:Int)(hR: ∀w',Gt w'→BytesAt w' e bs→CLS 108 [.slice e bs.length cap,I 48].toArray w' (fun r w''=>r=.returned (.tuple #[U8 0#8,I c])∧Grow w' w''))(hc0:c≠0)(w:World)(hw:Gt w)(hby:BytesAt w e bs):
 CLS 55 [.slice e bs.length cap].toArray w (fun r w'=>r=.returned (.tuple #[J1.PtV J1.cV,I c])∧Grow w w'):=by
 refine Hf func55 rfl hw<|fun hGF=>ae (E:=EE [109,2000109])<|Al 2 hGF J1.zv54<|fun b2=>Asg rfl<|aa<|ae (E:=EE [109,2000109])<|Mv rfl<|Cc rfl ent108 (fun w' hC hG=>hR w' hG (hby.grow (ac hC)))<|Mv rfl<|Ext rfl rfl<|Ext rfl rfl<|Asg rfl<|Asg rfl<|aa<|ah<|ae (E:=EE [109,2000109])<|Mv rfl<|Bnb true rfl rfl (fun _=>aZ _ _ _) (bne_iff_ne.2 hc0)<|Mv rfl<|Sk<|Sk<|Sk<|Pk rfl rfl rfl<|aa<|aU rfl<|ae (E:=EE [109,2000109])<|Ca rfl (J1.kG)<|Mv rfl<|Sa 2 hGF rfl rfl rfl bS<|Asg rfl<|aa<|am<|Rr<|?_
 exact a6 2 rfl rfl rfl rfl isAgg54 sizeOf54 sm (fun w hw=>⟨rfl,ac hw⟩)
theorem D9(e:Option Addr)(cap:Nat)(bs:L8)(f:BitVec 8)(hR: ∀w',Gt w'→BytesAt w' e bs→CLS 108 [.slice e bs.length cap,I 48].toArray w' (fun r w''=>r=.returned (.tuple #[U8 f,I 0])∧Grow w' w''))(h6: ¬f &&& 64#8=0#8)(w:World)(hw:Gt w)(hby:BytesAt w e bs):
 CLS 55 [.slice e bs.length cap].toArray w (fun r w'=>r=.returned (.tuple #[J1.PtV J1.cV,I 0])∧Grow w w'):=by
 refine Hf func55 rfl hw<|fun hGF=>ae (E:=EE [109,2000109])<|Al 2 hGF J1.zv54<|fun b2=>Asg rfl<|aa<|ae (E:=EE [109,2000109])<|Mv rfl<|Cc rfl ent108 (fun w' hC hG=>hR w' hG (hby.grow (ac hC)))<|Mv rfl<|Ext rfl rfl<|Ext rfl rfl<|Asg rfl<|Asg rfl<|aa<|ah<|ae (E:=EE [109,2000109])<|Mv rfl<|Bnb false rfl rfl (fun _=>aZ _ _ _) (bne_eq_false_iff_eq.2 rfl)<|Mv rfl<|Mv rfl<|Bnr (v:=U8 (f &&& 64#8)) rfl rfl (fun _=>be _ _ 64#8)<|Bnb true rfl rfl (fun _=>bB _ _ 0#8) (bne_iff_ne.2 h6)<|Pk rfl rfl rfl<|aa<|aU rfl<|ae (E:=EE [109,2000109])<|Ca rfl (J1.kG)<|Mv rfl<|Sa 2 hGF rfl rfl rfl bS<|Asg rfl<|aa<|am<|Rr<|?_
 exact a6 2 rfl rfl rfl rfl isAgg54 sizeOf54 sm (fun w hw=>⟨rfl,ac hw⟩)
theorem Io(e:Option Addr)(cap:Nat)(bs:L8)(f:BitVec 8)(hcap:bs.length≤cap)(hR: ∀w',Gt w'→BytesAt w' e bs→CLS 108 [.slice e bs.length cap,I 48].toArray w' (fun r w''=>r=.returned (.tuple #[U8 f,I 0])∧Grow w' w''))(h48:bs.length=48)(h6:f &&& 64#8=0#8)(hp: ¬BN (LO bs 0) 48<PP)(w:World)(hw:Gt w)(hby:BytesAt w e bs):
 CLS 55 [.slice e bs.length cap].toArray w (fun r w'=>r=.returned (.tuple #[J1.PtV J1.cV,I 102])∧Grow w w'):=by
 refine Hf func55 rfl hw<|fun hGF=>ae (E:=EE [109,2000109])<|Al 2 hGF J1.zv54<|fun b2=>Asg rfl<|aa<|ae (E:=EE [109,2000109])<|Mv rfl<|Cc rfl ent108 (fun w' hC hG=>hR w' hG (hby.grow (ac hC)))<|Mv rfl<|Ext rfl rfl<|Ext rfl rfl<|Asg rfl<|Asg rfl<|aa<|ah<|ae (E:=EE [109,2000109])<|Mv rfl<|Bnb false rfl rfl (fun _=>aZ _ _ _) (bne_eq_false_iff_eq.2 rfl)<|Mv rfl<|Mv rfl<|Bnr (v:=U8 (f &&& 64#8)) rfl rfl (fun _=>be _ _ 64#8)<|Bnb false rfl rfl (fun _=>bB _ _ 0#8) (bne_eq_false_iff_eq.2 h6)<|Pk rfl rfl rfl<|aa<|av rfl<|ap<|ae (E:=EE [109,2000109])<|Mv rfl<|?_
 refine bE rfl rfl ent109 rfl rfl (fun w' hw'=>(jG e cap bs om om hcap w' (hGF.g _ _ _ hw') (hby.grow (ac hw'))).mono fun e' w'' h=> ?_)
 obtain ⟨b7,c7,k7,rfl,hg,hb7,hob,q3,q2⟩:=h
 refine ⟨_,_,rfl,aq hGF,hw'.news ak hg [(33,b7,c7,5)] ?_ bG,bD ak rfl, ?_⟩
 ·intro n' b' c' t' hl
  rcases aB hl with ⟨_,e⟩|⟨_,hl⟩
  ·cases e;exact ⟨hb7,hob⟩
  ·cases hl
 clear hw' hg hb7 hob
 refine Cc rfl ent90 (fun w' hC hG=>oo _ _ _ (MK bs) (by rw[bI];exact h48) h48 (II h48▸hp) w' hG (cv (aO (n:=33) rfl w' hC) (by rw[bI];exact q3)))<|Mv rfl<|Ext rfl rfl<|Ext rfl rfl<|Al 6 hGF zv52<|fun b6=>Sa 6 hGF rfl rfl rfl bg<|Asg rfl<|aa<|ah<|ae (E:=EE [109,2000109])<|Mv rfl<|aY rfl (fun _=>aK _) rfl rfl<|aa<|aU rfl<|ae (E:=EE [109,2000109])<|Ca rfl (J1.kG)<|Sa 2 hGF rfl rfl rfl bS<|Asg rfl<|aa<|am<|Rr<|?_
 exact a6 2 rfl rfl rfl rfl isAgg54 sizeOf54 sm (fun w hw=>⟨rfl,ac hw⟩)
theorem zn(e:Option Addr)(cap:Nat)(bs:L8)(f:BitVec 8)(hcap:bs.length≤cap)(hR: ∀w',Gt w'→BytesAt w' e bs→CLS 108 [.slice e bs.length cap,I 48].toArray w' (fun r w''=>r=.returned (.tuple #[U8 f,I 0])∧Grow w' w''))(h48:bs.length=48)(h6:f &&& 64#8=0#8)(hp:BN (LO bs 0) 48<PP)(x:Zp)(hx:zp (BN (LO bs 0) 48)=x)(l:Bool)(hl:(f &&& 32#8 !=0#8)=l)(p:J1.GP)(k:Bool)(hL:PUR 110 [EV x,.bool l] (.tuple #[J1.PtV p,.bool k]))(t:J1.GP)(c:Int)(hS:PUR 111 [J1.PtV p,.bool k,U8 f] (.tuple #[J1.PtV t,I c]))(w:World)(hw:Gt w)(hby:BytesAt w e bs):
 CLS 55 [.slice e bs.length cap].toArray w (fun r w'=>r=.returned (.tuple #[J1.PtV t,I c])∧Grow w w'):=by
 refine Hf func55 rfl hw<|fun hGF=>ae (E:=EE [109,2000109])<|Al 2 hGF J1.zv54<|fun b2=>Asg rfl<|aa<|ae (E:=EE [109,2000109])<|Mv rfl<|Cc rfl ent108 (fun w' hC hG=>hR w' hG (hby.grow (ac hC)))<|Mv rfl<|Ext rfl rfl<|Ext rfl rfl<|Asg rfl<|Asg rfl<|aa<|ah<|ae (E:=EE [109,2000109])<|Mv rfl<|Bnb false rfl rfl (fun _=>aZ _ _ _) (bne_eq_false_iff_eq.2 rfl)<|Mv rfl<|Mv rfl<|Bnr (v:=U8 (f &&& 64#8)) rfl rfl (fun _=>be _ _ 64#8)<|Bnb false rfl rfl (fun _=>bB _ _ 0#8) (bne_eq_false_iff_eq.2 h6)<|Pk rfl rfl rfl<|aa<|av rfl<|ap<|ae (E:=EE [109,2000109])<|Mv rfl<|?_
 refine bE rfl rfl ent109 rfl rfl (fun w' hw'=>(jG e cap bs om om hcap w' (hGF.g _ _ _ hw') (hby.grow (ac hw'))).mono fun e' w'' h=> ?_)
 obtain ⟨b7,c7,k7,rfl,hg,hb7,hob,q3,q2⟩:=h
 refine ⟨_,_,rfl,aq hGF,hw'.news ak hg [(33,b7,c7,5)] ?_ bG,bD ak rfl, ?_⟩
 ·intro n' b' c' t' hl
  rcases aB hl with ⟨_,e⟩|⟨_,hl⟩
  ·cases e;exact ⟨hb7,hob⟩
  ·cases hl
 clear hw' hg hb7 hob
 refine Cc rfl ent90 (fun w' hC hG=>qh _ _ _ (MK bs) (by rw[bI];exact h48) h48 (II h48▸hp) x (by rw[←II h48];exact hx) w' hG (cv (aO (n:=33) rfl w' hC) (by rw[bI];exact q3)))<|Mv rfl<|Ext rfl rfl<|Ext rfl rfl<|Al 6 hGF zv52<|fun b6=>Sa 6 hGF rfl rfl rfl bg<|Asg rfl<|aa<|ah<|ae (E:=EE [109,2000109])<|Mv rfl<|aY rfl (fun _=>aK _) rfl rfl<|aa<|av rfl<|ap<|ae (E:=EE [109,2000109])<|La 6 rfl rfl bg<|Mv rfl<|Bnr (v:=U8 (f &&& 32#8)) rfl rfl (fun _=>be _ _ 32#8)<|Bnr (v:=.bool l) rfl rfl (fun _=>(bB _ _ 0#8).trans (by rw[hl]))<|Ca rfl (hL)<|Mv rfl<|Ext rfl rfl<|Ext rfl rfl<|Al 8 hGF J1.zv54<|fun b8=>Sa 8 hGF rfl rfl rfl bS<|Asg rfl<|aa<|ae (E:=EE [109,2000109])<|La 8 rfl rfl bS<|Mv rfl<|Mv rfl<|Ca rfl (hS)<|Ext rfl rfl<|Ext rfl rfl<|Sa 2 hGF rfl rfl rfl bS<|Asg rfl<|aa<|am<|Rr<|?_
 exact a6 2 rfl rfl rfl rfl isAgg54 sizeOf54 sm (fun w hw=>⟨rfl,ac hw⟩)
theorem pd(e:Option Addr)(cap:Nat)(bs:L8)(c:Int)(hR: ∀w',Gt w'→BytesAt w' e bs→CLS 108 [.slice e bs.length cap,I 96].toArray w' (fun r w''=>r=.returned (.tuple #[U8 0#8,I c])∧Grow w' w''))(hc0:c≠0)(w:World)(hw:Gt w)(hby:BytesAt w e bs):
 CLS 128 [.slice e bs.length cap].toArray w (fun r w'=>r=.returned (.tuple #[J2.PtV J2.cV,I c])∧Grow w w'):=by
 refine Hf func128 rfl hw<|fun hGF=>ae (E:=EE [109,2000109])<|Al 2 hGF J2.zv94<|fun b2=>Asg rfl<|aa<|ae (E:=EE [109,2000109])<|Mv rfl<|Cc rfl ent108 (fun w' hC hG=>hR w' hG (hby.grow (ac hC)))<|Mv rfl<|Ext rfl rfl<|Ext rfl rfl<|Asg rfl<|Asg rfl<|aa<|ah<|ae (E:=EE [109,2000109])<|Mv rfl<|Bnb true rfl rfl (fun _=>aZ _ _ _) (bne_iff_ne.2 hc0)<|Mv rfl<|Sk<|Sk<|Sk<|Pk rfl rfl rfl<|aa<|aU rfl<|ae (E:=EE [109,2000109])<|Ca rfl (J2.kG)<|Mv rfl<|Sa 2 hGF rfl rfl rfl bO<|Asg rfl<|aa<|am<|Rr<|?_
 exact a6 2 rfl rfl rfl rfl isAgg94 sizeOf94 sm (fun w hw=>⟨rfl,ac hw⟩)
theorem EH(e:Option Addr)(cap:Nat)(bs:L8)(f:BitVec 8)(hR: ∀w',Gt w'→BytesAt w' e bs→CLS 108 [.slice e bs.length cap,I 96].toArray w' (fun r w''=>r=.returned (.tuple #[U8 f,I 0])∧Grow w' w''))(h6: ¬f &&& 64#8=0#8)(w:World)(hw:Gt w)(hby:BytesAt w e bs):
 CLS 128 [.slice e bs.length cap].toArray w (fun r w'=>r=.returned (.tuple #[J2.PtV J2.cV,I 0])∧Grow w w'):=by
 refine Hf func128 rfl hw<|fun hGF=>ae (E:=EE [109,2000109])<|Al 2 hGF J2.zv94<|fun b2=>Asg rfl<|aa<|ae (E:=EE [109,2000109])<|Mv rfl<|Cc rfl ent108 (fun w' hC hG=>hR w' hG (hby.grow (ac hC)))<|Mv rfl<|Ext rfl rfl<|Ext rfl rfl<|Asg rfl<|Asg rfl<|aa<|ah<|ae (E:=EE [109,2000109])<|Mv rfl<|Bnb false rfl rfl (fun _=>aZ _ _ _) (bne_eq_false_iff_eq.2 rfl)<|Mv rfl<|Mv rfl<|Bnr (v:=U8 (f &&& 64#8)) rfl rfl (fun _=>be _ _ 64#8)<|Bnb true rfl rfl (fun _=>bB _ _ 0#8) (bne_iff_ne.2 h6)<|Pk rfl rfl rfl<|aa<|aU rfl<|ae (E:=EE [109,2000109])<|Ca rfl (J2.kG)<|Mv rfl<|Sa 2 hGF rfl rfl rfl bO<|Asg rfl<|aa<|am<|Rr<|?_
 exact a6 2 rfl rfl rfl rfl isAgg94 sizeOf94 sm (fun w hw=>⟨rfl,ac hw⟩)
theorem GZ(e:Option Addr)(cap:Nat)(bs:L8)(f:BitVec 8)(hcap:bs.length≤cap)(hR: ∀w',Gt w'→BytesAt w' e bs→CLS 108 [.slice e bs.length cap,I 96].toArray w' (fun r w''=>r=.returned (.tuple #[U8 f,I 0])∧Grow w' w''))(h48:bs.length=96)(h6:f &&& 64#8=0#8)(hp2: ¬BN (LO bs 0) 48<PP)(hp:BN (LO bs 48) 48<PP)(x0:Zp)(hx0:zp (BN (LO bs 48) 48)=x0) (w:World)(hw:Gt w)(hby:BytesAt w e bs):
 CLS 128 [.slice e bs.length cap].toArray w (fun r w'=>r=.returned (.tuple #[J2.PtV J2.cV,I 102])∧Grow w w'):=by
 refine Hf func128 rfl hw<|fun hGF=>ae (E:=EE [109,2000109])<|Al 2 hGF J2.zv94<|fun b2=>Asg rfl<|aa<|ae (E:=EE [109,2000109])<|Mv rfl<|Cc rfl ent108 (fun w' hC hG=>hR w' hG (hby.grow (ac hC)))<|Mv rfl<|Ext rfl rfl<|Ext rfl rfl<|Asg rfl<|Asg rfl<|aa<|ah<|ae (E:=EE [109,2000109])<|Mv rfl<|Bnb false rfl rfl (fun _=>aZ _ _ _) (bne_eq_false_iff_eq.2 rfl)<|Mv rfl<|Mv rfl<|Bnr (v:=U8 (f &&& 64#8)) rfl rfl (fun _=>be _ _ 64#8)<|Bnb false rfl rfl (fun _=>bB _ _ 0#8) (bne_eq_false_iff_eq.2 h6)<|Pk rfl rfl rfl<|aa<|av rfl<|ap<|ae (E:=EE [109,2000109])<|Mv rfl<|?_
 refine bE rfl rfl ent109 rfl rfl (fun w' hw'=>(jG e cap bs om om hcap w' (hGF.g _ _ _ hw') (hby.grow (ac hw'))).mono fun e' w'' h=> ?_)
 obtain ⟨b7,c7,k7,rfl,hg,hb7,hob,q3,q2⟩:=h
 refine ⟨_,_,rfl,aq hGF,hw'.news ak hg [(33,b7,c7,5)] ?_ bG,bD ak rfl, ?_⟩
 ·intro n' b' c' t' hl
  rcases aB hl with ⟨_,e⟩|⟨_,hl⟩
  ·cases e;exact ⟨hb7,hob⟩
  ·cases hl
 clear hw' hg hb7 hob
 refine Asg rfl<|aa<|ae (E:=EE [109,2000109])<|Mv rfl<|dH (l:=0) (h':=48) (m:=48) rfl underlying22 sizeOf5 rfl rfl rfl ⟨dc,Nat.le_refl _,om⟩ rfl rfl<|Cc rfl ent90 (fun w' hC hG=>oo _ _ _ (LO bs 0) (jF om) rfl hp2 w' hG (BytesAt.cut3 (cv (aO (n:=33) rfl w' hC) (by rw[bI];exact q3)) 0 48 48 dc))<|Mv rfl<|Ext rfl rfl<|Ext rfl rfl<|Al 7 hGF zv52<|fun b7=>Sa 7 hGF rfl rfl rfl bg<|Asg rfl<|aa<|ae (E:=EE [109,2000109])<|Mv rfl<|dH (l:=48) (h':=96) (m:=96) rfl underlying22 sizeOf5 rfl rfl rfl ⟨dc,Nat.le_refl _,om⟩ rfl rfl<|Cc rfl ent90 (fun w' hC hG=>qh _ _ _ (LO bs 48) (jF om) rfl hp x0 hx0 w' hG (BytesAt.cut3 (cv (aO (n:=33) rfl w' hC) (by rw[bI];exact q3)) 48 48 96 dc))<|Mv rfl<|Ext rfl rfl<|Ext rfl rfl<|Al 9 hGF zv52<|fun b9=>Sa 9 hGF rfl rfl rfl bg<|Asg rfl<|aa<|ah<|ae (E:=EE [109,2000109])<|Mv rfl<|aY rfl (fun _=>aK _) rfl rfl<|Mv rfl<|Sk<|Sk<|Pk rfl rfl rfl<|aa<|aU rfl<|ae (E:=EE [109,2000109])<|Ca rfl (J2.kG)<|Sa 2 hGF rfl rfl rfl bO<|Asg rfl<|aa<|am<|?_
 refine Rr ?_
 exact a6 2 rfl rfl rfl rfl isAgg94 sizeOf94 sm (fun w hw=>⟨rfl,ac hw⟩)
theorem Hk(e:Option Addr)(cap:Nat)(bs:L8)(f:BitVec 8)(hcap:bs.length≤cap)(hR: ∀w',Gt w'→BytesAt w' e bs→CLS 108 [.slice e bs.length cap,I 96].toArray w' (fun r w''=>r=.returned (.tuple #[U8 f,I 0])∧Grow w' w''))(h48:bs.length=96)(h6:f &&& 64#8=0#8)(hp2:BN (LO bs 0) 48<PP)(hp: ¬BN (LO bs 48) 48<PP)(x1:Zp)(hx1:zp (BN (LO bs 0) 48)=x1) (w:World)(hw:Gt w)(hby:BytesAt w e bs):
 CLS 128 [.slice e bs.length cap].toArray w (fun r w'=>r=.returned (.tuple #[J2.PtV J2.cV,I 102])∧Grow w w'):=by
 refine Hf func128 rfl hw<|fun hGF=>ae (E:=EE [109,2000109])<|Al 2 hGF J2.zv94<|fun b2=>Asg rfl<|aa<|ae (E:=EE [109,2000109])<|Mv rfl<|Cc rfl ent108 (fun w' hC hG=>hR w' hG (hby.grow (ac hC)))<|Mv rfl<|Ext rfl rfl<|Ext rfl rfl<|Asg rfl<|Asg rfl<|aa<|ah<|ae (E:=EE [109,2000109])<|Mv rfl<|Bnb false rfl rfl (fun _=>aZ _ _ _) (bne_eq_false_iff_eq.2 rfl)<|Mv rfl<|Mv rfl<|Bnr (v:=U8 (f &&& 64#8)) rfl rfl (fun _=>be _ _ 64#8)<|Bnb false rfl rfl (fun _=>bB _ _ 0#8) (bne_eq_false_iff_eq.2 h6)<|Pk rfl rfl rfl<|aa<|av rfl<|ap<|ae (E:=EE [109,2000109])<|Mv rfl<|?_
 refine bE rfl rfl ent109 rfl rfl (fun w' hw'=>(jG e cap bs om om hcap w' (hGF.g _ _ _ hw') (hby.grow (ac hw'))).mono fun e' w'' h=> ?_)
 obtain ⟨b7,c7,k7,rfl,hg,hb7,hob,q3,q2⟩:=h
 refine ⟨_,_,rfl,aq hGF,hw'.news ak hg [(33,b7,c7,5)] ?_ bG,bD ak rfl, ?_⟩
 ·intro n' b' c' t' hl
  rcases aB hl with ⟨_,e⟩|⟨_,hl⟩
  ·cases e;exact ⟨hb7,hob⟩
  ·cases hl
 clear hw' hg hb7 hob
 refine Asg rfl<|aa<|ae (E:=EE [109,2000109])<|Mv rfl<|dH (l:=0) (h':=48) (m:=48) rfl underlying22 sizeOf5 rfl rfl rfl ⟨dc,Nat.le_refl _,om⟩ rfl rfl<|Cc rfl ent90 (fun w' hC hG=>qh _ _ _ (LO bs 0) (jF om) rfl hp2 x1 hx1 w' hG (BytesAt.cut3 (cv (aO (n:=33) rfl w' hC) (by rw[bI];exact q3)) 0 48 48 dc))<|Mv rfl<|Ext rfl rfl<|Ext rfl rfl<|Al 7 hGF zv52<|fun b7=>Sa 7 hGF rfl rfl rfl bg<|Asg rfl<|aa<|ae (E:=EE [109,2000109])<|Mv rfl<|dH (l:=48) (h':=96) (m:=96) rfl underlying22 sizeOf5 rfl rfl rfl ⟨dc,Nat.le_refl _,om⟩ rfl rfl<|Cc rfl ent90 (fun w' hC hG=>oo _ _ _ (LO bs 48) (jF om) rfl hp w' hG (BytesAt.cut3 (cv (aO (n:=33) rfl w' hC) (by rw[bI];exact q3)) 48 48 96 dc))<|Mv rfl<|Ext rfl rfl<|Ext rfl rfl<|Al 9 hGF zv52<|fun b9=>Sa 9 hGF rfl rfl rfl bg<|Asg rfl<|aa<|ah<|ae (E:=EE [109,2000109])<|Mv rfl<|aY rfl (fun _=>aK _) rfl rfl<|Mv rfl<|Mv rfl<|aY rfl (fun _=>aK _) rfl rfl<|Pk rfl rfl rfl<|aa<|aU rfl<|ae (E:=EE [109,2000109])<|Ca rfl (J2.kG)<|Sa 2 hGF rfl rfl rfl bO<|Asg rfl<|aa<|am<|?_
 refine Rr ?_
 exact a6 2 rfl rfl rfl rfl isAgg94 sizeOf94 sm (fun w hw=>⟨rfl,ac hw⟩)
theorem IF(e:Option Addr)(cap:Nat)(bs:L8)(f:BitVec 8)(hcap:bs.length≤cap)(hR: ∀w',Gt w'→BytesAt w' e bs→CLS 108 [.slice e bs.length cap,I 96].toArray w' (fun r w''=>r=.returned (.tuple #[U8 f,I 0])∧Grow w' w''))(h48:bs.length=96)(h6:f &&& 64#8=0#8)(hp2: ¬BN (LO bs 0) 48<PP)(hp: ¬BN (LO bs 48) 48<PP) (w:World)(hw:Gt w)(hby:BytesAt w e bs):
 CLS 128 [.slice e bs.length cap].toArray w (fun r w'=>r=.returned (.tuple #[J2.PtV J2.cV,I 102])∧Grow w w'):=by
 refine Hf func128 rfl hw<|fun hGF=>ae (E:=EE [109,2000109])<|Al 2 hGF J2.zv94<|fun b2=>Asg rfl<|aa<|ae (E:=EE [109,2000109])<|Mv rfl<|Cc rfl ent108 (fun w' hC hG=>hR w' hG (hby.grow (ac hC)))<|Mv rfl<|Ext rfl rfl<|Ext rfl rfl<|Asg rfl<|Asg rfl<|aa<|ah<|ae (E:=EE [109,2000109])<|Mv rfl<|Bnb false rfl rfl (fun _=>aZ _ _ _) (bne_eq_false_iff_eq.2 rfl)<|Mv rfl<|Mv rfl<|Bnr (v:=U8 (f &&& 64#8)) rfl rfl (fun _=>be _ _ 64#8)<|Bnb false rfl rfl (fun _=>bB _ _ 0#8) (bne_eq_false_iff_eq.2 h6)<|Pk rfl rfl rfl<|aa<|av rfl<|ap<|ae (E:=EE [109,2000109])<|Mv rfl<|?_
 refine bE rfl rfl ent109 rfl rfl (fun w' hw'=>(jG e cap bs om om hcap w' (hGF.g _ _ _ hw') (hby.grow (ac hw'))).mono fun e' w'' h=> ?_)
 obtain ⟨b7,c7,k7,rfl,hg,hb7,hob,q3,q2⟩:=h
 refine ⟨_,_,rfl,aq hGF,hw'.news ak hg [(33,b7,c7,5)] ?_ bG,bD ak rfl, ?_⟩
 ·intro n' b' c' t' hl
  rcases aB hl with ⟨_,e⟩|⟨_,hl⟩
  ·cases e;exact ⟨hb7,hob⟩
  ·cases hl
 clear hw' hg hb7 hob
 refine Asg rfl<|aa<|ae (E:=EE [109,2000109])<|Mv rfl<|dH (l:=0) (h':=48) (m:=48) rfl underlying22 sizeOf5 rfl rfl rfl ⟨dc,Nat.le_refl _,om⟩ rfl rfl<|Cc rfl ent90 (fun w' hC hG=>oo _ _ _ (LO bs 0) (jF om) rfl hp2 w' hG (BytesAt.cut3 (cv (aO (n:=33) rfl w' hC) (by rw[bI];exact q3)) 0 48 48 dc))<|Mv rfl<|Ext rfl rfl<|Ext rfl rfl<|Al 7 hGF zv52<|fun b7=>Sa 7 hGF rfl rfl rfl bg<|Asg rfl<|aa<|ae (E:=EE [109,2000109])<|Mv rfl<|dH (l:=48) (h':=96) (m:=96) rfl underlying22 sizeOf5 rfl rfl rfl ⟨dc,Nat.le_refl _,om⟩ rfl rfl<|Cc rfl ent90 (fun w' hC hG=>oo _ _ _ (LO bs 48) (jF om) rfl hp w' hG (BytesAt.cut3 (cv (aO (n:=33) rfl w' hC) (by rw[bI];exact q3)) 48 48 96 dc))<|Mv rfl<|Ext rfl rfl<|Ext rfl rfl<|Al 9 hGF zv52<|fun b9=>Sa 9 hGF rfl rfl rfl bg<|Asg rfl<|aa<|ah<|ae (E:=EE [109,2000109])<|Mv rfl<|aY rfl (fun _=>aK _) rfl rfl<|Mv rfl<|Sk<|Sk<|Pk rfl rfl rfl<|aa<|aU rfl<|ae (E:=EE [109,2000109])<|Ca rfl (J2.kG)<|Sa 2 hGF rfl rfl rfl bO<|Asg rfl<|aa<|am<|?_
 refine Rr ?_
 exact a6 2 rfl rfl rfl rfl isAgg94 sizeOf94 sm (fun w hw=>⟨rfl,ac hw⟩)
theorem xh(e:Option Addr)(cap:Nat)(bs:L8)(f:BitVec 8)(hcap:bs.length≤cap)(hR: ∀w',Gt w'→BytesAt w' e bs→CLS 108 [.slice e bs.length cap,I 96].toArray w' (fun r w''=>r=.returned (.tuple #[U8 f,I 0])∧Grow w' w''))(h48:bs.length=96)(h6:f &&& 64#8=0#8)(hp2:BN (LO bs 0) 48<PP)(hp:BN (LO bs 48) 48<PP)(x0:Zp)(hx0:zp (BN (LO bs 48) 48)=x0)(x1:Zp)(hx1:zp (BN (LO bs 0) 48)=x1)(l:Bool)(hl:(f &&& 32#8 !=0#8)=l)(p:J2.GP)(k:Bool)(hL:PUR 186 [EV2 (x0,x1),.bool l] (.tuple #[J2.PtV p,.bool k]))(t:J2.GP)(c:Int)(hS:PUR 187 [J2.PtV p,.bool k,U8 f] (.tuple #[J2.PtV t,I c]))(w:World)(hw:Gt w)(hby:BytesAt w e bs):
 CLS 128 [.slice e bs.length cap].toArray w (fun r w'=>r=.returned (.tuple #[J2.PtV t,I c])∧Grow w w'):=by
 refine Hf func128 rfl hw<|fun hGF=>ae (E:=EE [109,2000109])<|Al 2 hGF J2.zv94<|fun b2=>Asg rfl<|aa<|ae (E:=EE [109,2000109])<|Mv rfl<|Cc rfl ent108 (fun w' hC hG=>hR w' hG (hby.grow (ac hC)))<|Mv rfl<|Ext rfl rfl<|Ext rfl rfl<|Asg rfl<|Asg rfl<|aa<|ah<|ae (E:=EE [109,2000109])<|Mv rfl<|Bnb false rfl rfl (fun _=>aZ _ _ _) (bne_eq_false_iff_eq.2 rfl)<|Mv rfl<|Mv rfl<|Bnr (v:=U8 (f &&& 64#8)) rfl rfl (fun _=>be _ _ 64#8)<|Bnb false rfl rfl (fun _=>bB _ _ 0#8) (bne_eq_false_iff_eq.2 h6)<|Pk rfl rfl rfl<|aa<|av rfl<|ap<|ae (E:=EE [109,2000109])<|Mv rfl<|?_
 refine bE rfl rfl ent109 rfl rfl (fun w' hw'=>(jG e cap bs om om hcap w' (hGF.g _ _ _ hw') (hby.grow (ac hw'))).mono fun e' w'' h=> ?_)
 obtain ⟨b7,c7,k7,rfl,hg,hb7,hob,q3,q2⟩:=h
 refine ⟨_,_,rfl,aq hGF,hw'.news ak hg [(33,b7,c7,5)] ?_ bG,bD ak rfl, ?_⟩
 ·intro n' b' c' t' hl
  rcases aB hl with ⟨_,e⟩|⟨_,hl⟩
  ·cases e;exact ⟨hb7,hob⟩
  ·cases hl
 clear hw' hg hb7 hob
 refine Asg rfl<|aa<|ae (E:=EE [109,2000109])<|Mv rfl<|dH (l:=0) (h':=48) (m:=48) rfl underlying22 sizeOf5 rfl rfl rfl ⟨dc,Nat.le_refl _,om⟩ rfl rfl<|Cc rfl ent90 (fun w' hC hG=>qh _ _ _ (LO bs 0) (jF om) rfl hp2 x1 hx1 w' hG (BytesAt.cut3 (cv (aO (n:=33) rfl w' hC) (by rw[bI];exact q3)) 0 48 48 dc))<|Mv rfl<|Ext rfl rfl<|Ext rfl rfl<|Al 7 hGF zv52<|fun b7=>Sa 7 hGF rfl rfl rfl bg<|Asg rfl<|aa<|ae (E:=EE [109,2000109])<|Mv rfl<|dH (l:=48) (h':=96) (m:=96) rfl underlying22 sizeOf5 rfl rfl rfl ⟨dc,Nat.le_refl _,om⟩ rfl rfl<|Cc rfl ent90 (fun w' hC hG=>qh _ _ _ (LO bs 48) (jF om) rfl hp x0 hx0 w' hG (BytesAt.cut3 (cv (aO (n:=33) rfl w' hC) (by rw[bI];exact q3)) 48 48 96 dc))<|Mv rfl<|Ext rfl rfl<|Ext rfl rfl<|Al 9 hGF zv52<|fun b9=>Sa 9 hGF rfl rfl rfl bg<|Asg rfl<|aa<|ah<|ae (E:=EE [109,2000109])<|Mv rfl<|aY rfl (fun _=>aK _) rfl rfl<|Mv rfl<|Mv rfl<|aY rfl (fun _=>aK _) rfl rfl<|Pk rfl rfl rfl<|aa<|av rfl<|ap<|ae (E:=EE [109,2000109])<|La 9 rfl rfl bg<|La 7 rfl rfl bg<|cx eY rfl rfl sm sm rfl rfl<|Mv rfl<|?_
 refine Bnr (v:=U8 (f &&& 32#8)) rfl rfl (fun _=>be _ _ 32#8)<|Bnr (v:=.bool l) rfl rfl (fun _=>(bB _ _ 0#8).trans (by rw[hl]))<|Ca rfl (hL)<|Mv rfl<|Ext rfl rfl<|Ext rfl rfl<|Al 11 hGF J2.zv94<|fun b11=>Sa 11 hGF rfl rfl rfl bO<|Asg rfl<|aa<|ae (E:=EE [109,2000109])<|La 11 rfl rfl bO<|Mv rfl<|Mv rfl<|Ca rfl (hS)<|Ext rfl rfl<|Ext rfl rfl<|Sa 2 hGF rfl rfl rfl bO<|Asg rfl<|aa<|am<|Rr<|?_
 exact a6 2 rfl rfl rfl rfl isAgg94 sizeOf94 sm (fun w hw=>⟨rfl,ac hw⟩)
theorem Ec.ne_iff{α:Type}(C:Ec α){x y:α}:(some (x,y):Pt α)=C.ne (some (x,y))↔y=C.R.zero:=by
 constructor
 ·intro h
  have e:y=C.R.neg y:=congrArg Prod.snd (Option.some.inj h)
  have k:=C.R.add_neg y
  rw[←e]at k
  exact C.dbl0 k
 ·intro h
  show some (x,y)=some (x,C.R.neg y)
  rw[h,C.R.neg_zero]
theorem J1.ptv_eq{p r:J1.GP}(h:p.J=r.J):J1.PtV p=J1.PtV r:=by rw[J1.PtV,J1.PtV,J1.GL,J1.GL,h]
theorem J2.ptv_eq{p r:J2.GP}(h:p.J=r.J):J2.PtV p=J2.PtV r:=by rw[J2.PtV,J2.PtV,J2.GL,J2.GL,h]
theorem l_t{f:BitVec 8}(h:(f &&& 32#8 !=0#8)=true): ¬f &&& 32#8=0#8:=bne_iff_ne.1 h
theorem l_f{f:BitVec 8}(h:(f &&& 32#8 !=0#8)=false):f &&& 32#8=0#8:=bne_eq_false_iff_eq.1 h
theorem QV: ∀b:BitVec 8,(b &&& 224#8) &&& 128#8=0#8→¬b &&& 224#8=128#8∧¬b &&& 224#8=160#8∧¬b &&& 224#8=192#8:=by decide+kernel
theorem Vn: ∀b:BitVec 8,¬(b &&& 224#8) &&& 128#8=0#8→¬(b &&& 224#8) &&& 64#8=0#8→¬b &&& 224#8=128#8∧¬b &&& 224#8=160#8∧(b &&& 224#8=192#8↔(b &&& 224#8) &&& 32#8=0#8):=by decide+kernel
theorem S3: ∀b:BitVec 8,¬(b &&& 224#8) &&& 128#8=0#8→(b &&& 224#8) &&& 64#8=0#8→b &&& 224#8=128#8∨b &&& 224#8=160#8:=by decide+kernel
theorem f160{f:BitVec 8}(h:f=160#8): ¬f=128#8:=by rw[h];decide
def RdC(e:Option Addr)(cap:Nat)(bs:L8)(N:Nat)(f:BitVec 8)(c:Int):Prop:= ∀w',Gt w'→BytesAt w' e bs→CLS 108 [.slice e bs.length cap,I (N:Int)].toArray w' (fun r w''=>r=.returned (.tuple #[U8 f,I c])∧Grow w' w'')
theorem jO{e:Option Addr}{cap N:Nat}{bs:L8}(hN:bs.length=N)(h0:0<N)(hL:N≤1000)(f: ¬FG bs &&& 128#8=0#8)(s:FG bs &&& 64#8=0#8):RdC e cap bs N (FG bs) 0:=fun w' hG hB=>by
 rcases S3 (bs.getD 0 0) f s with h|h
 ·exact Ow e cap N bs hN h0 hL h w' hG hB
 ·exact LD e cap N bs hN h0 hL (f160 h) h w' hG hB
theorem DV{e:Option Addr}{cap N:Nat}{bs:L8}(hN:bs.length=N)(h0:0<N)(hL:N≤1000)(f:FG bs &&& 128#8=0#8):RdC e cap bs N 0#8 101:=fun w' hG hB=>by
 obtain ⟨h1,h2,h3⟩:=QV (bs.getD 0 0) f
 exact ud e cap N bs hN h0 hL h1 h2 h3 w' hG hB
theorem DY{e:Option Addr}{cap N:Nat}{bs:L8}(hN:bs.length=N)(h0:0<N)(hL:N≤1000)(hcap:bs.length≤cap)(f: ¬FG bs &&& 128#8=0#8)(s: ¬FG bs &&& 64#8=0#8):(INF bs N=0∧RdC e cap bs N (FG bs) 0)∨(INF bs N=101∧RdC e cap bs N 0#8 101):=by
 obtain ⟨h1,h2,h3⟩:=Vn (bs.getD 0 0) f s
 by_cases k:FG bs &&& 32#8=0#8
 ·have h4:FG bs=192#8:=h3.2 k
  cases q:NQ (MK bs)with
  |true=>
   refine .inl ⟨if_pos ⟨fun j hj=>of_decide_eq_true q j (by rw[bI];omega),k⟩,fun w' hG hB=> ?_⟩
   exact Cy e cap N bs hN h0 hL hcap h1 h2 h4 q w' hG hB
  |false=>
   refine .inr ⟨if_neg (fun z=>of_decide_eq_false q (fun j hj=>z.1 j (by rw[bI]at hj;omega))),fun w' hG hB=> ?_⟩
   exact AK e cap N bs hN h0 hL hcap h1 h2 h4 q w' hG hB
 ·refine .inr ⟨if_neg (fun z=>k z.2),fun w' hG hB=> ?_⟩
  exact ud e cap N bs hN h0 hL h1 h2 (fun h=>k (h3.1 h)) w' hG hB
theorem Hi(p:J1.GP)(x y:Zp)(hP:p.P=some (x,y))(hJ:p.J=(x,y,1))(f:BitVec 8)(l:Bool)(hl:(f &&& 32#8 !=0#8)=l)(c:Int)(P:Pt Zp)(h:NY 0 (fun Q=>E1.times Q ORD=none) l x y c P)(on:E1.onP P):PUR 111 [J1.PtV p,.bool true,U8 f] (.tuple #[J1.PtV (cA1 P on),I c]):=by
 have hne:p.P=(J1.ga p).P↔y=0:=by
  show p.P=E1.ne p.P↔y=0
  rw[hP]
  exact Ec.ne_iff E1
 rcases h with ⟨⟨rfl,hy⟩,rfl,rfl⟩|⟨hn,⟨g,rfl,rfl⟩|⟨g,rfl,rfl⟩⟩
 ·exact P4 p f (l_t hl) (hne.2 hy)
 ·cases l with
  |true=>exact Hx p f (l_t hl) (fun k=>hn ⟨rfl,hne.1 k⟩) (by rw[hP];exact g)
  |false=>exact Hv p f (l_f hl) (by rw[hP];exact g)
 ·have e:J1.PtV (cA1 (some (x,y)) on)=J1.PtV p:=J1.ptv_eq hJ.symm
  rw[e]
  cases l with
  |true=>exact HN p f (l_t hl) (fun k=>hn ⟨rfl,hne.1 k⟩) (by rw[hP];exact g)
  |false=>exact In p f (l_f hl) (by rw[hP];exact g)
theorem Nv(e:Option Addr)(cap:Nat)(bs:L8)(c:Int)(P:Pt Zp)(h:D1 bs c P)(on:E1.onP P)(hc:bs.length≤cap)(w:World)(hw:Gt w)(hby:BytesAt w e bs):CLS 55 [.slice e bs.length cap].toArray w (fun r w'=>r=.returned (.tuple #[J1.PtV (cA1 P on),I c])∧Grow w w'):=by
 rcases h with ⟨h48,rfl,rfl⟩|⟨h48,⟨f,rfl,rfl⟩|⟨f,⟨s,rfl,rfl⟩|⟨s,⟨p,rfl,rfl⟩|⟨p,⟨q,rfl,rfl⟩|⟨q,h⟩⟩⟩⟩⟩
 ·exact n7 e cap bs 100 (fun w' hG _=>tD e cap 48 bs h48 w' hG) dc w hw hby
 ·exact n7 e cap bs 101 (DV h48 dc dc f) dc w hw hby
 ·rcases DY h48 dc dc hc f s with ⟨k,r⟩|⟨k,r⟩
  ·rw[k];exact D9 e cap bs (FG bs) r s w hw hby
  ·rw[k];exact n7 e cap bs 101 r dc w hw hby
 ·exact Io e cap bs (FG bs) hc (jO h48 dc dc f s) h48 s p w hw hby
 ·exact zn e cap bs (FG bs) hc (jO h48 dc dc f s) h48 s p (X1 bs) rfl (LB bs) rfl J1.cV false (J1.vt (X1 bs) (LB bs) q) J1.cV 103 (Pu _ _) w hw hby
 ·exact zn e cap bs (FG bs) hc (jO h48 dc dc f s) h48 s p (X1 bs) rfl (LB bs) rfl (J1.CR (X1 bs) (LB bs) q) true (J1.vh (X1 bs) (LB bs) q) (cA1 P on) c (Hi _ _ _ rfl rfl _ _ rfl c P h on) w hw hby
theorem C4(e:Option Addr)(cap len:Nat)(bs:L8)(hn:bs.length=len)(c:Int)(P:Pt Zp)(h:D1 bs c P)(hc:len≤cap)(w:World)(hw:Gt w)(hby:BytesAt w e bs):CLS 55 [.slice e len cap].toArray w (fun r w'=>r=.returned (.tuple #[J1.PtV (cA1 P (qi h)),I c])∧Grow w w'):=by
 subst hn
 exact Nv e cap bs c P h (qi h) hc w hw hby
theorem IY(p:J2.GP)(x y:W2)(hP:p.P=some (x,y))(hJ:p.J=(x,y,on2))(f:BitVec 8)(l:Bool)(hl:(f &&& 32#8 !=0#8)=l)(c:Int)(P:Pt W2)(h:NY ze2 (fun Q=>E2w.times Q ORD=none) l x y c P)(on:E2w.onP P):PUR 187 [J2.PtV p,.bool true,U8 f] (.tuple #[J2.PtV (cA2 P on),I c]):=by
 have hne:p.P=(J2.ga p).P↔y=ze2:=by
  show p.P=E2w.ne p.P↔y=ze2
  rw[hP]
  exact Ec.ne_iff E2w
 rcases h with ⟨⟨rfl,hy⟩,rfl,rfl⟩|⟨hn,⟨g,rfl,rfl⟩|⟨g,rfl,rfl⟩⟩
 ·exact Pz p f (l_t hl) (hne.2 hy)
 ·cases l with
  |true=>exact Ha p f (l_t hl) (fun k=>hn ⟨rfl,hne.1 k⟩) (by rw[hP];exact g)
  |false=>exact Hz p f (l_f hl) (by rw[hP];exact g)
 ·have e:J2.PtV (cA2 (some (x,y)) on)=J2.PtV p:=J2.ptv_eq hJ.symm
  rw[e]
  cases l with
  |true=>exact Iq p f (l_t hl) (fun k=>hn ⟨rfl,hne.1 k⟩) (by rw[hP];exact g)
  |false=>exact Iw p f (l_f hl) (by rw[hP];exact g)
theorem Mj(e:Option Addr)(cap:Nat)(bs:L8)(c:Int)(P:Pt W2)(h:D2 bs c P)(on:E2w.onP P)(hc:bs.length≤cap)(w:World)(hw:Gt w)(hby:BytesAt w e bs):CLS 128 [.slice e bs.length cap].toArray w (fun r w'=>r=.returned (.tuple #[J2.PtV (cA2 P on),I c])∧Grow w w'):=by
 rcases h with ⟨h48,rfl,rfl⟩|⟨h48,⟨f,rfl,rfl⟩|⟨f,⟨s,rfl,rfl⟩|⟨s,⟨p,rfl,rfl⟩|⟨⟨p,p2⟩,⟨q,rfl,rfl⟩|⟨r,hr,hl,h⟩⟩⟩⟩⟩
 ·exact pd e cap bs 100 (fun w' hG _=>tD e cap 96 bs h48 w' hG) dc w hw hby
 ·exact pd e cap bs 101 (DV h48 dc dc f) dc w hw hby
 ·rcases DY h48 dc dc hc f s with ⟨k,r⟩|⟨k,r⟩
  ·rw[k];exact EH e cap bs (FG bs) r s w hw hby
  ·rw[k];exact pd e cap bs 101 r dc w hw hby
 ·by_cases p2:BN (LO bs 0) 48<PP
  ·exact Hk e cap bs (FG bs) hc (jO h48 dc dc f s) h48 s p2 (fun p1=>p ⟨p1,p2⟩) _ rfl w hw hby
  ·by_cases p1:BN (LO bs 48) 48<PP
   ·exact GZ e cap bs (FG bs) hc (jO h48 dc dc f s) h48 s p2 p1 _ rfl w hw hby
   ·exact IF e cap bs (FG bs) hc (jO h48 dc dc f s) h48 s p2 p1 w hw hby
 ·exact xh e cap bs (FG bs) hc (jO h48 dc dc f s) h48 s p2 p _ rfl _ rfl (LB bs) rfl J2.cV false (J2.vt (X2 bs) (LB bs) q) J2.cV 103 (Pp _ _) w hw hby
 ·exact xh e cap bs (FG bs) hc (jO h48 dc dc f s) h48 s p2 p _ rfl _ rfl (LB bs) rfl (J2.gRt (X2 bs) r hr (LB bs)) true (J2.vh (X2 bs) r hr hl (LB bs)) (cA2 P on) c (IY _ _ _ rfl rfl _ _ rfl c P h on) w hw hby
theorem ND(e:Option Addr)(cap len:Nat)(bs:L8)(hn:bs.length=len)(c:Int)(P:Pt W2)(h:D2 bs c P)(hc:len≤cap)(w:World)(hw:Gt w)(hby:BytesAt w e bs):CLS 128 [.slice e len cap].toArray w (fun r w'=>r=.returned (.tuple #[J2.PtV (cA2 P (jQ h)),I c])∧Grow w w'):=by
 subst hn
 exact Mj e cap bs c P h (jQ h) hc w hw hby
end
section
open Go.RowKit
attribute [local simp] aT a9 aR aM aC bd aJ aI aA PLl cq cn N1l ck cp cm a5 bc aP aX a8
end
section
open Go.RowKit
namespace Q6
attribute [local simp] aT a9 aR aM aC bd aJ aI aA PLl cq cn N1l ck cp cm a5 bc aP aX a8
def FF(f:Nat→W2)(i:Nat):L6:=fe2 (f i)
theorem fO(f:Nat→W2)(v:W2)(n k o:Nat)(hk:k<n)(ho:o=12*k)(hv:f k=v): ∀j u,((fe v.1++fe v.2).map U64)[j]? =some u→((FM (FF f) n).map U64)[o+j]? =some u:=by
 subst hv
 exact yo (FF f) n k hk (aP _) o ho
theorem rz(f g:Nat→W2)(v:W2)(n k o:Nat)(hk:k<n)(ho:o=12*k)(hg: ∀i,i<n→g i=if i=k then v else f i):lay o ((fe v.1++fe v.2).map U64) ((FM (FF f) n).map U64)=(FM (FF g) n).map U64:=by
 have h:=sV (FF f) n k (fe2 v) hk (aP _) o ho
 refine h.trans (congrArg (List.map U64) (mb fun i hi=> ?_))
 show (if i=k then fe2 v else fe2 (f i))=fe2 (g i)
 rw[hg i hi]
 split<;>rfl
theorem uR{f g:Nat→W2}{n:Nat}(h: ∀i,i<n→f i=g i):FM (FF f) n=FM (FF g) n:=mb fun i hi=>congrArg fe2 (h i hi)
theorem ez(f:Nat→W2)(n:Nat):(FM (FF f) n).length=12*n:=a8 _ _
theorem vg(A B:Nat→W2)(i j:Nat):(if j<i+1 then A j else B j)=if j=i then A i else (if j<i then A j else B j):=by
 by_cases h:j=i
 ·subst h;rw[if_pos (Nat.lt_succ_self _),if_pos rfl]
 ·rw[if_neg h]
  by_cases h':j<i
  ·rw[if_pos h',if_pos (Nat.lt_succ_of_lt h')]
  ·rw[if_neg h',if_neg (fun e=>h' (Nat.lt_of_le_of_ne (Nat.le_of_lt_succ e) h))]
theorem tO(n:Nat):FM (FF fun _=>ze2) n=FM (fun _=>List.replicate 12 0#64) n:=mb fun i _=>by
 show fe2 ze2=_
 rw[show fe2 ze2=fe 0++fe 0 from rfl,kA];rfl
attribute [local simp] ez
end Q6
end
section
open Go.RowKit
namespace Q6
attribute [local simp] aT a9 aR aM aC bd aJ aI aA PLl cq cn N1l ck cp cm a5 bc aP aX a8 ez
end Q6
end
section
open Go.RowKit
namespace Q6
attribute [local simp] aT a9 aR aM aC bd aJ aI aA PLl cq cn N1l ck cp cm a5 bc aP aX a8 ez
end Q6
end
section
open Go.RowKit
theorem ent245:ai prog 245:=fun _ _=>kr
theorem ent292:ai prog 292:=fun _ _=>kr
theorem ent244:ai prog 244:=fun _ _=>kr
theorem ent277:ai prog 277:=fun _ _=>kr
theorem ent221:ai prog 221:=fun _ _=>kr
theorem ent276:ai prog 276:=fun _ _=>kr
theorem ent250:ai prog 250:=fun _ _=>kr
theorem ent243:ai prog 243:=fun _ _=>kr
theorem ent242:ai prog 242:=fun _ _=>kr
theorem ent252:ai prog 252:=fun _ _=>kr
theorem ent220:ai prog 220:=fun _ _=>kr
theorem ent249:ai prog 249:=fun _ _=>kr
namespace Q6
attribute [local simp] aT a9 aR aM aC bd aJ aI aA PLl cq cn N1l ck cp cm a5 bc aP aX a8 ez
abbrev EV6(x:W6):Value:=aQ ((fe (x.1).1++fe (x.1).2)++((fe (x.2.1).1++fe (x.2.1).2)++(fe (x.2.2).1++fe (x.2.2).2)))
theorem zv231(w:World):(zeroValue 231).run prog w=.ok (aQ ((fe 0++fe 0)++((fe 0++fe 0)++(fe 0++fe 0)))) w:=by rw[kA];exact (zeroValue231 w).trans rr
theorem jI:Three prog 231 ⟨ "C0",92,0,false, "", "",0⟩ ⟨ "C1",92,12,false, "", "",96⟩ ⟨ "C2",92,24,false, "", "",192⟩ 12 (fe 0++fe 0) (fe 0++fe 0) (fe 0++fe 0):=⟨underlying231,rfl,rfl,rfl,sizeOf92,sizeOf92,sizeOf92,zv231,sm,sm,sm⟩
theorem e6{a b c a' b' c':W2}(h1:a=a')(h2:b=b')(h3:c=c'):Ending.returned (aQ ((fe (a).1++fe (a).2)++((fe (b).1++fe (b).2)++(fe (c).1++fe (c).2))))=.returned (aQ ((fe (a').1++fe (a').2)++((fe (b').1++fe (b').2)++(fe (c').1++fe (c').2)))):=by rw[h1,h2,h3]
def q6:Sh W6:=q2.two (q2.two q2 2) 2
theorem V6(x:W6):EV6 x=dn rid (.inl [x.1.1,x.1.2,x.2.1.1,x.2.1.2,x.2.2.1,x.2.2.2]):=by
 show Value.agg _=Value.agg _
 rw[clv,show cel [x.1.1,x.1.2,x.2.1.1,x.2.1.2,x.2.2.1,x.2.2.2]=fe x.1.1++(fe x.1.2++(fe x.2.1.1++(fe x.2.1.2++(fe x.2.2.1++fe x.2.2.2))))from rfl]
 rw[List.append_assoc,List.append_assoc]
theorem bL{f:Nat}{a a':List Value}{v v':Value}(ha:a=a')(hv:v=v')(h:PUR f a' v'):PUR f a v:=by rw[ha,hv];exact h
theorem l1{a b:Value}(h:a=b):[a]=[b]:=by rw[h]
theorem l2{a b c d:Value}(h:a=b)(k:c=d):[a,c]=[b,d]:=by rw[h,k]
theorem l3{a b c d e f:Value}(h:a=b)(k:c=d)(l:e=f):[a,c,e]=[b,d,f]:=by rw[h,k,l]
theorem t2{a b c:Value}(h:a=b):Value.tuple #[a,c]=.tuple #[b,c]:=by rw[h]
end Q6
end
section
open Go.RowKit
theorem ent280:ai prog 280:=fun _ _=>kr
namespace Q6
attribute [local simp] aT a9 aR aM aC bd aJ aI aA PLl cq cn N1l ck cp cm a5 bc aP aX a8 ez
def p3(x:W6):Nat→W2
 |0=>x.1
 |1=>x.2.1
 |_=>x.2.2
theorem zv288(w:World):(zeroValue 288).run prog w=.ok (aQ (FM (FF fun _=>ze2) 3)) w:=by
 rw[tO];exact (zeroValue288 w).trans rr
abbrev TV3(f:Nat→W2):Value:=aQ (FM (FF f) 3)
theorem pO(f:Nat→W2)(i:Nat):(FF f i).length=12:=aP _
attribute [local simp] pO
theorem MD{x y:W6}(h: ∀j,j<3→p3 x j=p3 y j):x=y:=Prod.ext (h 0 dc) (Prod.ext (h 1 dc) (h 2 dc))
theorem lt_s{Q:Nat→Prop}{k:Nat}(h: ∀j,j<k→Q j)(hk:Q k): ∀j,j<k+1→Q j:=fun j hj=>by
 rcases Nat.lt_or_ge j k with h1|h1
 ·exact h j h1
 ·obtain rfl:j=k:=om
  exact hk
theorem FD(x:W6):PUR 251 [EV6 x] (TV3 (p3 x)):=by
 intro w hw
 refine Hf func251 rfl hw<|fun hGF=>Xp<|Bx 1 hGF rfl<|fun b1=>Al 2 hGF zv288<|fun b2=>aa<|Xp<|Fa 0 rfl underlying231 rfl sizeOf92<|ao 1 _ rfl rfl isAgg92 sizeOf92 sm dB rfl rfl<|Fa 12 rfl underlying231 rfl sizeOf92<|ao 1 _ rfl rfl isAgg92 sizeOf92 sm (kB sm) rfl rfl<|Fa 24 rfl underlying231 rfl sizeOf92<|ao 1 _ rfl rfl isAgg92 sizeOf92 sm (f7 (m:=12) (n:=12) sm sm rfl) rfl rfl<|Id (FF (p3 x)) rfl rfl rfl underlying288 sizeOf92 zv288 (aP _) (aP _) (aP _) rfl rfl<|Sa 2 hGF rfl rfl rfl CE<|aa<|am<|Rr<|?_
 exact ay 2 rfl rfl rfl isAgg288 sizeOf288 sm (fun w hw=>⟨rfl,ac hw⟩)
theorem k6of(f:Nat→W2):PUR 279 [TV3 f] (EV6 (f 0,f 1,f 2)):=by
 intro w hw
 refine Hf func279 rfl hw<|fun hGF=>Xp<|Bx 1 hGF rfl<|fun b1=>Al 2 hGF zv231<|fun b2=>aa<|Xp<|eo (0) (12*(0)) rfl rfl underlying288 sizeOf92 om om om rfl rfl<|ao 1 ((fe (f 0).1++fe (f 0).2).map U64) rfl rfl isAgg92 sizeOf92 sm (fO _ (f 0) 3 (0) _ om rfl (rfl)) rfl rfl<|eo (1) (12*(1)) rfl rfl underlying288 sizeOf92 om om om rfl rfl<|ao 1 ((fe (f 1).1++fe (f 1).2).map U64) rfl rfl isAgg92 sizeOf92 sm (fO _ (f 1) 3 (1) _ om rfl (rfl)) rfl rfl<|eo (2) (12*(2)) rfl rfl underlying288 sizeOf92 om om om rfl rfl<|ao 1 ((fe (f 2).1++fe (f 2).2).map U64) rfl rfl isAgg92 sizeOf92 sm (fO _ (f 2) 3 (2) _ om rfl (rfl)) rfl rfl<|d7 jI rfl rfl rfl sm sm sm rfl rfl<|Sa 2 hGF rfl rfl rfl cR<|aa<|am<|Rr<|?_
 exact ay 2 rfl rfl rfl isAgg231 sizeOf231 sm (fun w hw=>⟨rfl,ac hw⟩)
theorem kL(x:W6)(w:World)(hw:Gt w):CLS 252 [EV6 x].toArray w (fun e w'=> ∃b1,e=.returned (.func (.func 280) #[] #[pnt b1])∧Grow w w'∧w.heap.size≤b1∧OwnB w' b1 (((fe (x.1).1++fe (x.1).2)++((fe (x.2.1).1++fe (x.2.1).2)++(fe (x.2.2).1++fe (x.2.2).2))).map U64) 231):=by
 refine Hf func252 rfl hw<|fun hGF=>Xp<|Bx 1 hGF rfl<|fun b1=>Asg rfl<|aa<|Xp<|ft rfl rfl rfl rfl<|Asg rfl<|aa<|am<|Rr<|?_
 exact aH rfl rfl (fun w hw=>⟨b1,rfl,ac hw,(hw.own 1 b1 _ _ rfl).2.elim id False.elim,(hw.own 1 b1 _ _ rfl).1⟩)
def PS(x:W6):List (List Value):=(List.range 3).map fun (k:Nat)=>[I (k:Int),EV2 (p3 x k)]
theorem sy(x:W6):(PS x).length=3:=by rw[PS,List.length_map,List.length_range]
theorem DQ(x:W6)(k:Nat)(h:k<3):(PS x)[k]? =some [I (k:Int),EV2 (p3 x k)]:=by
 rw[PS,List.getElem?_map,List.getElem?_range h];rfl
theorem Kl(x:W6)(k:Nat)(v:List Value)(h:(PS x)[k]? =some v):k<3∧v=[I (k:Int),EV2 (p3 x k)]:=by
 have hk:k<3:=by
  rcases Nat.lt_or_ge k 3 with hk|hk
  ·exact hk
  ·rw[List.getElem?_eq_none (by rw[sy];exact hk)]at h;cases h
 exact ⟨hk,(Option.some.inj ((DQ x k hk).symm.trans h)).symm⟩
def RdP(bb:Nat)(x:W6):Cls:=fun w=>w.rangeAt bb 0 (((fe (x.1).1++fe (x.1).2)++((fe (x.2.1).1++fe (x.2.1).2)++(fe (x.2.2).1++fe (x.2.2).2))).map U64)
theorem Jw(bb:Nat)(x:W6):ek prog Gt 280 [pnt bb] (PS x) (RdP bb x):=by
 intro l J Jx hJ hJx hRd hGx hY w hj
 have okJ: ∀k,BOk Gt (Bi w (fun Y=>J Y k)):=fun k=>⟨fun _ _ _ h=>(hRd _ _ _ h.rid).1,hJ k⟩
 have okX: ∀k,BOk Gt (Bi w (fun Y=>Jx Y k)):=fun k=>⟨fun _ _ _ h=>hGx _ _ _ h.rid,hJx k⟩
 have c1: ∀k L w',Hp (Bi w (fun Y=>J Y k)) L w'→RdP bb x w':=fun k L w' h=>(hRd _ _ _ h.rid).2
 refine bY (G:=Gt) func280 rfl rfl (Hp (Bi w (fun Y=>J Y 0)) []) (bN (Bi w _) hj (hJ 0)) (aq (okJ 0))<|Xp<|df rfl isAgg231 sizeOf231 sm (fun w h=>c1 _ _ w h) rfl rfl<|Ca rfl (FD _)<|Mv rfl<|aa<|aj<|fk (ι:={i:Nat // i≤3}) (fun y=>[(0,.func (.yield l) #[] #[]),(1,pnt bb),(6,TV3 (p3 x)),(7,I (y.1:Int))]) (fun y=>Bi w (fun Y=>J Y y.1)) (fun y=>[]) (fun y=>3-y.1) ⟨0,Nat.zero_le _⟩ (fun _=>okJ _) rfl trv trivial<|?_
 rintro ⟨i,hi⟩
 dsimp only
 refine Xp<|Bnr rfl rfl (fun _=>aD _ _ _)<|aa<|ah<|?_
 refine bV rfl (fun hc=> ?_) (fun hc=> ?_)
 ·have hi2:i<3:=by simp at hc;omega
  refine ap<|ah<|aj<|Xp<|Mv rfl<|yg (FF (p3 x)) (i) rfl rfl underlying288 sizeOf92 isAgg92 om om (aP _) rfl rfl<|Al 4 (okJ _) zv92<|fun b4=>Asg rfl<|Sa 4 (okJ _) rfl rfl rfl aF<|aa<|Xp<|Mv rfl<|Mv rfl<|La 4 rfl rfl aF<|?_
  refine cN (hY.b (k:=i) (DQ x i om) w) (okJ _) (okX _) rfl rfl rfl rfl rfl ?_ ?_
  ·refine aY rfl (fun _=>aK _) rfl rfl<|aa<|av rfl<|ap<|Xq<|Bnr rfl rfl (fun _=>az _ _ _ oi)<|Mv rfl<|aa<|?_
   repeat (refine a7 ?_)
   exact aV<|⟨rfl,⟨i+1,om⟩,_,by show 3-(i+1)<3-i;omega,rfl,trv,trivial⟩
  ·refine aY rfl (fun _=>aK _) rfl rfl<|aa<|aU rfl<|am<|Rr<|?_
   repeat (first|refine cO ?_|refine bU ?_|refine cQ rfl ?_|refine bk ?_|refine bj ?_)
   exact cM rfl (fun w hw=>⟨⟨_,rfl⟩,.inr ⟨_,bx (hJx _) hw.rid⟩⟩)
 ·obtain rfl:i=3:=by simp at hc;omega
  refine ba ?_
  repeat (first|refine cO ?_|refine bU ?_|refine cQ rfl ?_|refine bk ?_|refine bj ?_)
  refine ci rfl (fun w hw=>⟨⟨_,rfl⟩,.inl ?_⟩)
  have:=bx (hJ _) hw.rid
  rw[sy]
  exact this
theorem Lv  :PUR 221 [] (EV6 K6.one):=(bL rfl (V6 _) (pE TO52 func221 [] (.inl (.inl [K6.one.1.1,K6.one.1.2,K6.one.2.1.1,K6.one.2.1.2,K6.one.2.2.1,K6.one.2.2.2])) (let t0:=on2;(.inl (.inl [t0.1,t0.2,0,0,0,0]),[])) [] kr aG rfl))
theorem y9{f:Nat}{g:W6}(en:ai prog f)(h:PUR f [] (EV6 g)):Snd prog Gt f (c0 q6.rd g):=tJ q6.rd en (bL rfl (V6 _).symm h)
def TO53:Tb prog Gt:=TO52.add (y9 (g:=K6.one) ent221 Lv)
theorem nZ(x y:W6):PUR 220 [EV6 x,EV6 y] (.bool (decide (x=y))):=by
 intro w hw
 have hGF:BOk Gt (pl w):=gt_low.plain hw
 refine ca (G:=Gt) func220 rfl rfl (Hp (pl w) []) (bN (pl w) trivial ak) (aq hGF)<|ae (E:=EE [252])<|Bx 2 hGF rfl<|fun b2=>Bx 3 hGF rfl<|fun b3=>fb 4 hGF zeroValue4 rfl rfl<|fun b4=>aa<|ae (E:=EE [252])<|La 3 rfl rfl cR<|Ca rfl (FD _)<|Al 5 hGF zv288<|fun b5=>Sa 5 hGF rfl rfl rfl CE<|aa<|ah<|ae (E:=EE [252])<|La 2 rfl rfl cR<|?_
 refine cU rfl rfl ent252 rfl rfl (fun w' hw'=>(kL x w' (hGF.g _ _ _ hw')).mono fun e' w'' h=> ?_)
 obtain ⟨c1,rfl,hg,h1,ho⟩:=h
 refine ⟨_,_,rfl,aq hGF,hw'.news ak hg [(33,c1,((fe (x.1).1++fe (x.1).2)++((fe (x.2.1).1++fe (x.2.1).2)++(fe (x.2.2).1++fe (x.2.2).2))).map U64,231)] ?_ bG, ?_⟩
 ·intro n' b' c' t' hl
  rcases aB hl with ⟨_,e⟩|⟨_,hl⟩
  ·cases e;exact ⟨h1,ho⟩
  ·cases hl
 clear hw' hg h1 ho
 refine aa<|aj<|?_
 refine uT (fun k=> ∀j,j<k→p3 x j=p3 y j) (fun _=>pl w) (fun _ _=>pl w) (fun _=>hGF) (fun _ _=>hGF) (fun _=>rfl) (fun _ _=>rfl) rfl rfl ent280 (Jw c1 x) (fun v hv=>by obtain ⟨k,hk,rfl⟩:=List.mem_map.1 hv;rfl) rfl (fun k=>[(2,b2,((fe (x.1).1++fe (x.1).2)++((fe (x.2.1).1++fe (x.2.1).2)++(fe (x.2.2).1++fe (x.2.2).2))).map U64,231),(3,b3,((fe (y.1).1++fe (y.1).2)++((fe (y.2.1).1++fe (y.2.1).2)++(fe (y.2.2).1++fe (y.2.2).2))).map U64,231),(4,b4,[.bool false],4),(5,b5,(FM (FF (p3 y)) 3).map U64,288),(33,c1,((fe (x.1).1++fe (x.1).2)++((fe (x.2.1).1++fe (x.2.1).2)++(fe (x.2.2).1++fe (x.2.2).2))).map U64,231)]) (fun c _ L'=>c=.ret∧lkB L' 4=some (b4,[.bool false],4)∧¬x=y) (fun j h=>absurd h (Nat.not_lt_zero j)) trv (fun k _ w' h=>aO (n:=33) rfl w' h) ?_ ?_ ?_ (fun D c k L' hD h=>by obtain ⟨rfl,hl,hne⟩:=h;refine Cs ?_;refine bj ?_;refine bk ?_;exact (cX (.inl rfl) ak (qM 4 rfl rfl hl isAgg4 (fun w hw=>⟨congrArg (fun b=>Ending.returned (.bool b)) (decide_eq_false hne).symm,ac hw⟩))))
 ·intro k v hx hQ R hR
  obtain ⟨hk,rfl⟩:=Kl x k v hx
  refine ae (E:=EE [252])<|Asg rfl<|aa<|bz (E:=EE [252])<|dd 7 (hR (pl w) rfl hGF).1 zv92 rfl rfl<|fun b7=>aw 7 (hR (pl w) rfl hGF).1 rfl rfl rfl sizeOf92 sm sm (bq _) rfl<|aa<|?_
  refine ⟨rfl,_,rfl, ?_⟩
  refine aj<|Xd [252]<|La 7 rfl rfl aF<|Mv rfl<|eo (k) (12*(k)) rfl rfl underlying288 sizeOf92 om om om rfl rfl<|ao 5 ((fe (p3 y k).1++fe (p3 y k).2).map U64) rfl rfl isAgg92 sizeOf92 sm (fO _ (p3 y k) 3 (k) _ om rfl (rfl)) rfl rfl<|Ca rfl (sO _ _)<|aY rfl (fun _=>aK _) rfl rfl<|aa<|?_
  refine bV rfl (fun hc=> ?_) (fun hc=> ?_)
  ·have hc: ¬p3 x k=p3 y k:=by simpa using hc
   refine ae (E:=EE [252])<|cT 4 (hR (pl w) rfl hGF).2.1 rfl rfl rfl sizeOf4 rfl (by simp[*]) rfl<|aa<|am<|Rr<|?_
   refine Rr ?_
   exact ⟨_,rfl,rfl,rfl,fun e=>hc (by rw[e])⟩
  ·have hc:p3 x k=p3 y k:=by simpa using hc
   refine ap ?_
   repeat (refine a7 ?_)
   exact ⟨_,rfl,QL (lt_s hQ hc) trv⟩
 ·intro hQ D hD
  rw[sy]at*
  have hxy:=MD hQ
  refine ae (E:=EE [252])<|cT 4 hD rfl rfl rfl sizeOf4 rfl (by simp[*]) rfl<|aa<|am<|Rr<|?_
  exact cX (.inl rfl) ak (qM 4 rfl rfl rfl isAgg4 (fun w hw=>⟨congrArg (fun b=>Ending.returned (.bool b)) (decide_eq_true hxy).symm,ac hw⟩))
 ·intro D hb
  exact a7<|aV<|pI hb
theorem nf(x y:W6):PUR 243 [EV6 x,EV6 y] (EV6 (K6.add x y)):=(bL (l2 (V6 _) (V6 _)) (V6 _) (pE TO53 func243 [.inl [x.1.1,x.1.2,x.2.1.1,x.2.1.2,x.2.2.1,x.2.2.2],.inl [y.1.1,y.1.2,y.2.1.1,y.2.1.2,y.2.2.1,y.2.2.2]] (.inl (.inl [(K6.add x y).1.1,(K6.add x y).1.2,(K6.add x y).2.1.1,(K6.add x y).2.1.2,(K6.add x y).2.2.1,(K6.add x y).2.2.2])) (let t0:=ad2 (x.1.1,x.1.2) (y.1.1,y.1.2);let t1:=ad2 (x.2.1.1,x.2.1.2) (y.2.1.1,y.2.1.2);let t2:=ad2 (x.2.2.1,x.2.2.2) (y.2.2.1,y.2.2.2);(.inl (.inl [t0.1,t0.2,t1.1,t1.2,t2.1,t2.2]),[])) [] kr aG rfl))
theorem cw{f:Nat}{g:W6→W6→W6}(en:ai prog f)(h: ∀a b,PUR f [EV6 a,EV6 b] (EV6 (g a b))):Snd prog Gt f (c2 q6.ag q6.ag q6.rd g):=fS q6.ag q6.ag q6.rd en (fun a b=>bL (l2 (V6 _).symm (V6 _).symm) (V6 _).symm (h a b))
def TO54:Tb prog Gt:=TO53.add (cw (g:=K6.add) ent243 nf)
theorem oZ(x y:W6):PUR 245 [EV6 x,EV6 y] (EV6 (sb6 x y)):=(bL (l2 (V6 _) (V6 _)) (V6 _) (pE TO54 func245 [.inl [x.1.1,x.1.2,x.2.1.1,x.2.1.2,x.2.2.1,x.2.2.2],.inl [y.1.1,y.1.2,y.2.1.1,y.2.1.2,y.2.2.1,y.2.2.2]] (.inl (.inl [(sb6 x y).1.1,(sb6 x y).1.2,(sb6 x y).2.1.1,(sb6 x y).2.1.2,(sb6 x y).2.2.1,(sb6 x y).2.2.2])) (let t0:=sb2 (x.1.1,x.1.2) (y.1.1,y.1.2);let t1:=sb2 (x.2.1.1,x.2.1.2) (y.2.1.1,y.2.1.2);let t2:=sb2 (x.2.2.1,x.2.2.2) (y.2.2.1,y.2.2.2);(.inl (.inl [t0.1,t0.2,t1.1,t1.2,t2.1,t2.2]),[])) [] kr aG rfl))
def TO55:Tb prog Gt:=TO54.add (cw (g:=sb6) ent245 oZ)
theorem CD(x:W6):PUR 250 [EV6 x] (EV6 (K6.neg x)):=(bL (l1 (V6 _)) (V6 _) (pE TO55 func250 [.inl [x.1.1,x.1.2,x.2.1.1,x.2.1.2,x.2.2.1,x.2.2.2]] (.inl (.inl [(K6.neg x).1.1,(K6.neg x).1.2,(K6.neg x).2.1.1,(K6.neg x).2.1.2,(K6.neg x).2.2.1,(K6.neg x).2.2.2])) (let t0:=ng2 (x.1.1,x.1.2);let t1:=ng2 (x.2.1.1,x.2.1.2);let t2:=ng2 (x.2.2.1,x.2.2.2);(.inl (.inl [t0.1,t0.2,t1.1,t1.2,t2.1,t2.2]),[])) [] kr aG rfl))
theorem cB{f:Nat}{g:W6→W6}(en:ai prog f)(h: ∀a,PUR f [EV6 a] (EV6 (g a))):Snd prog Gt f (c1 q6.ag q6.rd g):=fV q6.ag q6.rd en (fun a=>bL (l1 (V6 _).symm) (V6 _).symm (h a))
def TO56:Tb prog Gt:=TO55.add (cB (g:=K6.neg) ent250 CD)
theorem lK(x y:W6):PUR 242 [EV6 x,EV6 y] (EV6 (K6.mul x y)):=by
 intro w hw
 refine Hf func242 rfl hw<|fun hGF=>Xp<|Bx 2 hGF rfl<|fun b2=>Bx 3 hGF rfl<|fun b3=>Al 4 hGF zv231<|fun b4=>aa<|eG (E:=EE [2999999]) [0,1,2,3,4,5,6,7,8,9,10,11,12,13,14] [⟨15,5,92,(fe 0++fe 0).map U64⟩,⟨16,6,92,(fe 0++fe 0).map U64⟩,⟨17,7,92,(fe 0++fe 0).map U64⟩] [18,19,20] dR rfl kr kr kr kr kr kr dc (by intro x hx;simp only[List.mem_cons,List.not_mem_nil,or_false]at hx;rcases hx with rfl|rfl|rfl<;>exact bP rfl zv92 rfl)<|Fa 0 rfl underlying231 rfl sizeOf92<|ao 2 _ rfl rfl isAgg92 sizeOf92 sm dB rfl rfl<|Fa 0 rfl underlying231 rfl sizeOf92<|ao 3 _ rfl rfl isAgg92 sizeOf92 sm dB rfl rfl<|Ca rfl (cY _ _)<|Fa 12 rfl underlying231 rfl sizeOf92<|ao 2 _ rfl rfl isAgg92 sizeOf92 sm (kB sm) rfl rfl<|Fa 12 rfl underlying231 rfl sizeOf92<|ao 3 _ rfl rfl isAgg92 sizeOf92 sm (kB sm) rfl rfl<|Ca rfl (cY _ _)<|Fa 24 rfl underlying231 rfl sizeOf92<|ao 2 _ rfl rfl isAgg92 sizeOf92 sm (f7 (m:=12) (n:=12) sm sm rfl) rfl rfl<|Fa 24 rfl underlying231 rfl sizeOf92<|ao 3 _ rfl rfl isAgg92 sizeOf92 sm (f7 (m:=12) (n:=12) sm sm rfl) rfl rfl<|Ca rfl (cY _ _)<|aa<|?_
 refine ⟨_,_,rfl,hGF,by intro x hx;simp only[List.mem_cons,List.not_mem_nil,or_false]at hx;rcases hx with rfl|rfl|rfl<;>rfl,by intro x hx;simp only[List.mem_cons,List.not_mem_nil,or_false]at hx;rcases hx with rfl|rfl|rfl<;>rfl,fun adr=> ?_⟩
 refine Sa 5 hGF rfl rfl rfl aF<|Sa 6 hGF rfl rfl rfl aF<|Sa 7 hGF rfl rfl rfl aF<|aa<|Xa [0,1,2,3,4,5,6,7,8,9,10,11,12,13,14] ⟨15,8,92,(fe 0++fe 0).map U64⟩ [16] (bP rfl zv92 rfl)<|Fa 0 rfl underlying231 rfl sizeOf92<|ao 2 _ rfl rfl isAgg92 sizeOf92 sm dB rfl rfl<|Fa 12 rfl underlying231 rfl sizeOf92<|ao 2 _ rfl rfl isAgg92 sizeOf92 sm (kB sm) rfl rfl<|Ca rfl (el _ _)<|Fa 0 rfl underlying231 rfl sizeOf92<|ao 3 _ rfl rfl isAgg92 sizeOf92 sm dB rfl rfl<|Fa 12 rfl underlying231 rfl sizeOf92<|ao 3 _ rfl rfl isAgg92 sizeOf92 sm (kB sm) rfl rfl<|Ca rfl (el _ _)<|Ca rfl (cY _ _)<|La 5 rfl rfl aF<|Ca rfl (jZ _ _)<|La 6 rfl rfl aF<|Ca rfl (jZ _ _)<|aa<|?_
 refine ⟨_,_,rfl,hGF,by intro x hx;simp only[List.mem_cons,List.not_mem_nil,or_false]at hx;subst hx;rfl,by intro x hx;simp only[List.mem_cons,List.not_mem_nil,or_false]at hx;subst hx;rfl,fun adr=> ?_⟩
 refine Sa 8 hGF rfl rfl rfl aF<|aa<|Xa [0,1,2,3,4,5,6,7,8,9,10,11,12,13,14] ⟨15,9,92,(fe 0++fe 0).map U64⟩ [16] (bP rfl zv92 rfl)<|Fa 0 rfl underlying231 rfl sizeOf92<|ao 2 _ rfl rfl isAgg92 sizeOf92 sm dB rfl rfl<|Fa 24 rfl underlying231 rfl sizeOf92<|ao 2 _ rfl rfl isAgg92 sizeOf92 sm (f7 (m:=12) (n:=12) sm sm rfl) rfl rfl<|Ca rfl (el _ _)<|Fa 0 rfl underlying231 rfl sizeOf92<|ao 3 _ rfl rfl isAgg92 sizeOf92 sm dB rfl rfl<|Fa 24 rfl underlying231 rfl sizeOf92<|ao 3 _ rfl rfl isAgg92 sizeOf92 sm (f7 (m:=12) (n:=12) sm sm rfl) rfl rfl<|Ca rfl (el _ _)<|Ca rfl (cY _ _)<|La 5 rfl rfl aF<|Ca rfl (jZ _ _)<|La 7 rfl rfl aF<|Ca rfl (jZ _ _)<|aa<|?_
 refine ⟨_,_,rfl,hGF,by intro x hx;simp only[List.mem_cons,List.not_mem_nil,or_false]at hx;subst hx;rfl,by intro x hx;simp only[List.mem_cons,List.not_mem_nil,or_false]at hx;subst hx;rfl,fun adr=> ?_⟩
 refine Sa 9 hGF rfl rfl rfl aF<|aa<|Xa [0,1,2,3,4,5,6,7,8,9,10,11,12,13,14] ⟨15,10,92,(fe 0++fe 0).map U64⟩ [16] (bP rfl zv92 rfl)<|Fa 12 rfl underlying231 rfl sizeOf92<|ao 2 _ rfl rfl isAgg92 sizeOf92 sm (kB sm) rfl rfl<|Fa 24 rfl underlying231 rfl sizeOf92<|ao 2 _ rfl rfl isAgg92 sizeOf92 sm (f7 (m:=12) (n:=12) sm sm rfl) rfl rfl<|Ca rfl (el _ _)<|Fa 12 rfl underlying231 rfl sizeOf92<|ao 3 _ rfl rfl isAgg92 sizeOf92 sm (kB sm) rfl rfl<|Fa 24 rfl underlying231 rfl sizeOf92<|ao 3 _ rfl rfl isAgg92 sizeOf92 sm (f7 (m:=12) (n:=12) sm sm rfl) rfl rfl<|Ca rfl (el _ _)<|Ca rfl (cY _ _)<|La 6 rfl rfl aF<|Ca rfl (jZ _ _)<|La 7 rfl rfl aF<|Ca rfl (jZ _ _)<|aa<|?_
 refine ⟨_,_,rfl,hGF,by intro x hx;simp only[List.mem_cons,List.not_mem_nil,or_false]at hx;subst hx;rfl,by intro x hx;simp only[List.mem_cons,List.not_mem_nil,or_false]at hx;subst hx;rfl,fun adr=> ?_⟩
 refine Sa 10 hGF rfl rfl rfl aF<|aa<|Xd []<|La 5 rfl rfl aF<|La 10 rfl rfl aF<|Ca rfl (Aa _)<|Ca rfl (el _ _)<|La 8 rfl rfl aF<|La 7 rfl rfl aF<|Ca rfl (Aa _)<|Ca rfl (el _ _)<|La 9 rfl rfl aF<|La 6 rfl rfl aF<|Ca rfl (el _ _)<|d7 jI rfl rfl rfl sm sm sm rfl rfl<|Sa 4 hGF rfl rfl rfl cR<|aa<|am<|Rr<|?_
 exact ay 4 rfl rfl rfl isAgg231 sizeOf231 sm (fun w hw=>⟨e6 (zq R2 [x.1,x.2.1,x.2.2,y.1,y.2.1,y.2.2,XI] (ta (tm j0 j3) (txi 6 (tsb (tsb (tm (ta j1 j2) (ta j4 j5)) (tm j1 j4)) (tm j2 j5)) rfl)) (ta (tm j0 j3) (tm j6 (ta (tm j1 j5) (tm j2 j4))))) (zq R2 [x.1,x.2.1,x.2.2,y.1,y.2.1,y.2.2,XI] (ta (tsb (tsb (tm (ta j0 j1) (ta j3 j4)) (tm j0 j3)) (tm j1 j4)) (txi 6 (tm j2 j5) rfl)) (ta (ta (tm j0 j4) (tm j1 j3)) (tm j6 (tm j2 j5)))) (zq R2 [x.1,x.2.1,x.2.2,y.1,y.2.1,y.2.2,XI] (ta (tsb (tsb (tm (ta j0 j2) (ta j3 j5)) (tm j0 j3)) (tm j2 j5)) (tm j1 j4)) (ta (ta (tm j0 j5) (tm j1 j4)) (tm j2 j3))),ac hw⟩)
def TO57:Tb prog Gt:=TO56.add (cw (g:=K6.mul) ent242 lK)
theorem ll(x:W6):PUR 276 [EV6 x] (EV6 (K6.mul x x)):=by
 intro w hw
 refine Hf func276 rfl hw<|fun hGF=>Xp<|Bx 1 hGF rfl<|fun b1=>Al 2 hGF zv231<|fun b2=>aa<|eG (E:=EE [2999999]) [0,1,2,3,4,5] [⟨6,3,92,(fe 0++fe 0).map U64⟩,⟨7,4,92,(fe 0++fe 0).map U64⟩] [8,9] dR rfl kr kr kr kr kr kr dc (by intro x hx;simp only[List.mem_cons,List.not_mem_nil,or_false]at hx;rcases hx with rfl|rfl<;>exact bP rfl zv92 rfl)<|Fa 0 rfl underlying231 rfl sizeOf92<|ao 1 _ rfl rfl isAgg92 sizeOf92 sm dB rfl rfl<|Ca rfl (gK _)<|Fa 24 rfl underlying231 rfl sizeOf92<|ao 1 _ rfl rfl isAgg92 sizeOf92 sm (f7 (m:=12) (n:=12) sm sm rfl) rfl rfl<|Ca rfl (gK _)<|aa<|?_
 refine ⟨_,_,rfl,hGF,by intro x hx;simp only[List.mem_cons,List.not_mem_nil,or_false]at hx;rcases hx with rfl|rfl<;>rfl,by intro x hx;simp only[List.mem_cons,List.not_mem_nil,or_false]at hx;rcases hx with rfl|rfl<;>rfl,fun adr=> ?_⟩
 refine Sa 3 hGF rfl rfl rfl aF<|Sa 4 hGF rfl rfl rfl aF<|aa<|eG (E:=EE [2999999]) [0,1,2,3,4,5,6,7,8,9] [⟨10,5,92,(fe 0++fe 0).map U64⟩,⟨11,6,92,(fe 0++fe 0).map U64⟩] [12,13] dR rfl kr kr kr kr kr kr dc (by intro x hx;simp only[List.mem_cons,List.not_mem_nil,or_false]at hx;rcases hx with rfl|rfl<;>exact bP rfl zv92 rfl)<|Fa 0 rfl underlying231 rfl sizeOf92<|ao 1 _ rfl rfl isAgg92 sizeOf92 sm dB rfl rfl<|Fa 12 rfl underlying231 rfl sizeOf92<|ao 1 _ rfl rfl isAgg92 sizeOf92 sm (kB sm) rfl rfl<|Ca rfl (cY _ _)<|Fa 12 rfl underlying231 rfl sizeOf92<|ao 1 _ rfl rfl isAgg92 sizeOf92 sm (kB sm) rfl rfl<|Fa 24 rfl underlying231 rfl sizeOf92<|ao 1 _ rfl rfl isAgg92 sizeOf92 sm (f7 (m:=12) (n:=12) sm sm rfl) rfl rfl<|Ca rfl (cY _ _)<|aa<|?_
 refine ⟨_,_,rfl,hGF,by intro x hx;simp only[List.mem_cons,List.not_mem_nil,or_false]at hx;rcases hx with rfl|rfl<;>rfl,by intro x hx;simp only[List.mem_cons,List.not_mem_nil,or_false]at hx;rcases hx with rfl|rfl<;>rfl,fun adr=> ?_⟩
 refine Sa 5 hGF rfl rfl rfl aF<|Sa 6 hGF rfl rfl rfl aF<|aa<|Xd []<|La 5 rfl rfl aF<|La 5 rfl rfl aF<|Ca rfl (el _ _)<|La 6 rfl rfl aF<|La 6 rfl rfl aF<|Ca rfl (el _ _)<|Sa 5 hGF rfl rfl rfl aF<|Sa 6 hGF rfl rfl rfl aF<|aa<|Xa [0,1,2,3,4,5,6,7,8] ⟨9,7,92,(fe 0++fe 0).map U64⟩ [10] (bP rfl zv92 rfl)<|Fa 0 rfl underlying231 rfl sizeOf92<|ao 1 _ rfl rfl isAgg92 sizeOf92 sm dB rfl rfl<|Fa 12 rfl underlying231 rfl sizeOf92<|ao 1 _ rfl rfl isAgg92 sizeOf92 sm (kB sm) rfl rfl<|Ca rfl (jZ _ _)<|Fa 24 rfl underlying231 rfl sizeOf92<|ao 1 _ rfl rfl isAgg92 sizeOf92 sm (f7 (m:=12) (n:=12) sm sm rfl) rfl rfl<|Ca rfl (el _ _)<|Ca rfl (gK _)<|aa<|?_
 refine ⟨_,_,rfl,hGF,by intro x hx;simp only[List.mem_cons,List.not_mem_nil,or_false]at hx;subst hx;rfl,by intro x hx;simp only[List.mem_cons,List.not_mem_nil,or_false]at hx;subst hx;rfl,fun adr=> ?_⟩
 refine Sa 7 hGF rfl rfl rfl aF<|aa<|Xd []<|La 3 rfl rfl aF<|La 6 rfl rfl aF<|Ca rfl (Aa _)<|Ca rfl (el _ _)<|La 5 rfl rfl aF<|La 4 rfl rfl aF<|Ca rfl (Aa _)<|Ca rfl (el _ _)<|La 7 rfl rfl aF<|La 5 rfl rfl aF<|Ca rfl (el _ _)<|La 6 rfl rfl aF<|Ca rfl (el _ _)<|La 3 rfl rfl aF<|Ca rfl (jZ _ _)<|La 4 rfl rfl aF<|Ca rfl (jZ _ _)<|d7 jI rfl rfl rfl sm sm sm rfl rfl<|Sa 2 hGF rfl rfl rfl cR<|aa<|am<|Rr<|?_
 exact ay 2 rfl rfl rfl isAgg231 sizeOf231 sm (fun w hw=>⟨e6 (zq R2 [x.1,x.2.1,x.2.2,XI] (ta (tm j0 j0) (txi 3 (ta (tm j1 j2) (tm j1 j2)) rfl)) (ta (tm j0 j0) (tm j3 (ta (tm j1 j2) (tm j2 j1))))) (zq R2 [x.1,x.2.1,x.2.2,XI] (ta (ta (tm j0 j1) (tm j0 j1)) (txi 3 (tm j2 j2) rfl)) (ta (ta (tm j0 j1) (tm j1 j0)) (tm j3 (tm j2 j2)))) (zq R2 [x.1,x.2.1,x.2.2,XI] (tsb (tsb (ta (ta (tm (ta (tsb j0 j1) j2) (ta (tsb j0 j1) j2)) (ta (tm j0 j1) (tm j0 j1))) (ta (tm j1 j2) (tm j1 j2))) (tm j0 j0)) (tm j2 j2)) (ta (ta (tm j0 j2) (tm j1 j1)) (tm j2 j0))),ac hw⟩)
def TO58:Tb prog Gt:=TO57.add (cB (g:=fun x=>K6.mul x x) ent276 ll)
theorem zz(x:W6)(c:W2):PUR 249 [EV6 x,EV2 c] (EV6 (sc6 x c)):=by
 intro w hw
 have hGF:BOk Gt (pl w):=gt_low.plain hw
 refine ca (G:=Gt) func249 rfl rfl (Hp (pl w) []) (bN (pl w) trivial ak) (aq hGF)<|ae (E:=EE [252])<|Bx 2 hGF rfl<|fun b2=>Bx 3 hGF rfl<|fun b3=>Al 4 hGF zv231<|fun b4=>aa<|ae (E:=EE [252])<|Al 5 hGF zv288<|fun b5=>aa<|ah<|ae (E:=EE [252])<|La 2 rfl rfl cR<|?_
 refine cU rfl rfl ent252 rfl rfl (fun w' hw'=>(kL x w' (hGF.g _ _ _ hw')).mono fun e' w'' h=> ?_)
 obtain ⟨c1,rfl,hg,h1,ho⟩:=h
 refine ⟨_,_,rfl,aq hGF,hw'.news ak hg [(33,c1,((fe (x.1).1++fe (x.1).2)++((fe (x.2.1).1++fe (x.2.1).2)++(fe (x.2.2).1++fe (x.2.2).2))).map U64,231)] ?_ bG, ?_⟩
 ·intro n' b' c' t' hl
  rcases aB hl with ⟨_,e⟩|⟨_,hl⟩
  ·cases e;exact ⟨h1,ho⟩
  ·cases hl
 clear hw' hg h1 ho
 refine aa<|aj<|?_
 refine dS (fun _=>pl w) (fun _ _=>pl w) (fun _=>hGF) (fun _ _=>hGF) (fun _=>rfl) (fun _ _=>rfl) rfl rfl ent280 (Jw c1 x) (fun v hv=>by obtain ⟨k,hk,rfl⟩:=List.mem_map.1 hv;rfl) rfl (fun k=>[(2,b2,((fe (x.1).1++fe (x.1).2)++((fe (x.2.1).1++fe (x.2.1).2)++(fe (x.2.2).1++fe (x.2.2).2))).map U64,231),(3,b3,(fe c.1++fe c.2).map U64,92),(4,b4,((fe 0++fe 0)++((fe 0++fe 0)++(fe 0++fe 0))).map U64,231),(5,b5,(FM (FF (fun j=>if j<k then ml2 (p3 x j) c else ze2)) 3).map U64,288),(33,c1,((fe (x.1).1++fe (x.1).2)++((fe (x.2.1).1++fe (x.2.1).2)++(fe (x.2.2).1++fe (x.2.2).2))).map U64,231)]) (fun _ _ _=>False) ⟨rfl,rfl,rfl,congrArg (fun l=>some (b5,l,_)) (congrArg (List.map U64) (uR fun j _=>(if_neg (Nat.not_lt_zero j)).symm)),rfl,trivial⟩ (fun k _ w' h=>aO (n:=33) rfl w' h) ?_ ?_ (fun _ _ _ _ _ h=>h.elim)
 ·intro k v hx R hR
  obtain ⟨hk,rfl⟩:=Kl x k v hx
  refine ae (E:=EE [252])<|Asg rfl<|aa<|bz (E:=EE [252])<|dd 7 (hR (pl w) rfl hGF).1 zv92 rfl rfl<|fun b7=>aw 7 (hR (pl w) rfl hGF).1 rfl rfl rfl sizeOf92 sm sm (bq _) rfl<|aa<|?_
  refine ⟨rfl,_,rfl, ?_⟩
  refine aj<|bz (E:=EE [252])<|Mv rfl<|La 7 rfl rfl aF<|La 3 rfl rfl aF<|Ca rfl (cY _ _)<|eo (k) (12*(k)) rfl rfl underlying288 sizeOf92 om om om rfl rfl<|ki 5 ((FM (FF (fun j=>if j<k+1 then ml2 (p3 x j) c else ze2)) 3).map U64) (hR (pl w) rfl hGF).2.1 rfl rfl rfl sizeOf92 sm (bq _) (by simp;omega) (rz _ _ (ml2 (p3 x k) c) 3 (k) _ om rfl (fun j _=>vg (fun j=>ml2 (p3 x j) c) (fun _=>ze2) k j)) rfl<|aa<|?_
  repeat (refine a7 ?_)
  exact ⟨_,rfl,trv⟩
 ·intro D hD
  rw[sy]
  refine ae (E:=EE [252])<|La 5 rfl rfl CE<|Ca rfl (k6of _)<|Sa 4 hD rfl rfl rfl cR<|aa<|am<|Rr<|?_
  exact cX (.inl rfl) ak (ay 4 rfl rfl rfl isAgg231 sizeOf231 sm (fun w hw=>⟨e6 rfl rfl rfl,ac hw⟩))
theorem k6v(x:W6):PUR 244 [EV6 x] (EV6 (v6 x)):=(bL (l1 (V6 _)) (V6 _) (pE TO58 func244 [.inl [x.1.1,x.1.2,x.2.1.1,x.2.1.2,x.2.2.1,x.2.2.2]] (.inl (.inl [(v6 x).1.1,(v6 x).1.2,(v6 x).2.1.1,(v6 x).2.1.2,(v6 x).2.2.1,(v6 x).2.2.2])) (let t0:=xi2 (x.2.2.1,x.2.2.2);(.inl (.inl [t0.1,t0.2,x.1.1,x.1.2,x.2.1.1,x.2.1.2]),[])) [] kr aG rfl))
def TO59:Tb prog Gt:=TO58.add (cB (g:=v6) ent244 k6v)
def oth(x:W6):W6:=(i3a x.1 x.2.1 x.2.2,i3b x.1 x.2.1 x.2.2,i3c x.1 x.2.1 x.2.2)
theorem oz(x:W6):PUR 292 [EV6 x] (EV6 (oth x)):=(bL (l1 (V6 _)) (V6 _) (pE TO59 func292 [.inl [x.1.1,x.1.2,x.2.1.1,x.2.1.2,x.2.2.1,x.2.2.2]] (.inl (.inl [(oth x).1.1,(oth x).1.2,(oth x).2.1.1,(oth x).2.1.2,(oth x).2.2.1,(oth x).2.2.2])) (let t0:=ml2 (x.1.1,x.1.2) (x.1.1,x.1.2);let t1:=ml2 (x.2.1.1,x.2.1.2) (x.2.2.1,x.2.2.2);let t2:=xi2 (t1.1,t1.2);let t3:=sb2 (t0.1,t0.2) (t2.1,t2.2);let t4:=ml2 (x.2.2.1,x.2.2.2) (x.2.2.1,x.2.2.2);let t5:=xi2 (t4.1,t4.2);let t6:=ml2 (x.1.1,x.1.2) (x.2.1.1,x.2.1.2);let t7:=sb2 (t5.1,t5.2) (t6.1,t6.2);let t8:=ml2 (x.2.1.1,x.2.1.2) (x.2.1.1,x.2.1.2);let t9:=ml2 (x.1.1,x.1.2) (x.2.2.1,x.2.2.2);let t10:=sb2 (t8.1,t8.2) (t9.1,t9.2);(.inl (.inl [t3.1,t3.2,t7.1,t7.2,t10.1,t10.2]),[])) [] kr aG rfl))
def TO60:Tb prog Gt:=TO59.add (cB (g:=oth) ent292 oz)
theorem Uu(x:W6):ad2 (xi2 (ad2 (ml2 x.2.1 (oth x).2.2) (ml2 x.2.2 (oth x).2.1))) (ml2 x.1 (oth x).1)=i3n x.1 x.2.1 x.2.2:=by
 show R2.add (xi2 (R2.add _ _)) _=R2.add _ (xi2 (R2.add _ _))
 rw[R2.add_comm,R2.add_comm (ml2 x.2.1 (oth x).2.2)]
 rfl
theorem BD(x:W6)(c:W2):PUR 249 [EV6 (oth x),EV2 c] (EV6 (sc6 (oth x) c)):=zz (oth x) c
theorem Gd(x:W6):PUR 277 [EV6 x] (EV6 (iv6 x)):=by
 intro w hw
 refine Hf func277 rfl hw<|fun hGF=>Xp<|Bx 1 hGF rfl<|fun b1=>Al 2 hGF zv231<|fun b2=>aa<|Xp<|La 1 rfl rfl cR<|Ca rfl (oz _)<|Al 3 hGF zv231<|fun b3=>Sa 3 hGF rfl rfl rfl cR<|aa<|Xa [0,1,2,3,4,5,6,7,8,9,10,11,12,13,14,15,16,17] ⟨18,4,92,(fe 0++fe 0).map U64⟩ [19] (bP rfl zv92 rfl)<|Fa 12 rfl underlying231 rfl sizeOf92<|ao 1 _ rfl rfl isAgg92 sizeOf92 sm (kB sm) rfl rfl<|Fa 24 rfl underlying231 rfl sizeOf92<|ao 3 _ rfl rfl isAgg92 sizeOf92 sm (f7 (m:=12) (n:=12) sm sm rfl) rfl rfl<|Ca rfl (cY _ _)<|Fa 24 rfl underlying231 rfl sizeOf92<|ao 1 _ rfl rfl isAgg92 sizeOf92 sm (f7 (m:=12) (n:=12) sm sm rfl) rfl rfl<|Fa 12 rfl underlying231 rfl sizeOf92<|ao 3 _ rfl rfl isAgg92 sizeOf92 sm (kB sm) rfl rfl<|Ca rfl (cY _ _)<|Ca rfl (el _ _)<|Ca rfl (Aa _)<|Fa 0 rfl underlying231 rfl sizeOf92<|ao 1 _ rfl rfl isAgg92 sizeOf92 sm dB rfl rfl<|Fa 0 rfl underlying231 rfl sizeOf92<|ao 3 _ rfl rfl isAgg92 sizeOf92 sm dB rfl rfl<|Ca rfl (cY _ _)<|Ca rfl (el _ _)<|aa<|?_
 refine ⟨_,_,rfl,hGF,by intro x hx;simp only[List.mem_cons,List.not_mem_nil,or_false]at hx;subst hx;rfl,by intro x hx;simp only[List.mem_cons,List.not_mem_nil,or_false]at hx;subst hx;rfl,fun adr=> ?_⟩
 refine Sa 4 hGF rfl rfl rfl aF<|aa<|Xd []<|La 3 rfl rfl cR<|La 4 rfl rfl aF<|Ca rfl (Cg _)<|Ca rfl (BD x _)<|Sa 2 hGF rfl rfl rfl cR<|aa<|am<|Rr<|?_
 exact ay 2 rfl rfl rfl isAgg231 sizeOf231 sm (fun w hw=>⟨by rw[Uu];rfl,ac hw⟩)
def TO61:Tb prog Gt:=TO60.add (cB (g:=iv6) ent277 Gd)
end Q6
end
section
def g2:W2:=pw2 XI th
theorem Mn(a:Zp):a+0=a:=by grind
theorem vB(x:W2): ∀n,nm2 (pw2 x n)=nm2 x^n
 |0=>by
  show nm2 on2=_
  rw[p0,nm2,on2]
  show (1:Zp)*1+0*0=1
  rw[nE,gP];exact Mn 1
 |n+1=>by rw[np,fN,vB x n,ps]
theorem Fb(x:W2):cj2 (cj2 x)=x:=bp rfl (ym _)
theorem H3(c g:W2):ml2 (cj2 (ml2 (cj2 c) g)) g=ml2 c (nm2 g,0):=by
 rw[ff,Fb,show ml2 (ml2 c (cj2 g)) g=ml2 c (ml2 (cj2 g) g)from R2.mul_assoc _ _ _,show ml2 (cj2 g) g=ml2 g (cj2 g)from R2.mul_comm _ _,P2]
end
section
theorem SU(a:Zp):a-0=a:=by grind
theorem TL(a:Zp):0-a= -a:=by grind
theorem Ml(a:Zp):0+a=a:=by grind
theorem r8{a b:Zp}(h:a+b=0): -a=b:=by grind
theorem UO:pw2 XI 2=(0,zp 2):=by decide+kernel
theorem A1(a b:Zp):ml2 (a,0) (0,b)=(0,a*b):=bp (by simp only[ml2];rw[gP,sR,SU]) (by simp only[ml2];rw[gP,Mn])
theorem DI(a b:Zp):ml2 (0,a) (0,b)=(-(a*b),0):=bp (by simp only[ml2];rw[gP,TL]) (by simp only[ml2];rw[sR,gP,Mn])
theorem im_4(c:Zp):pw2 (0,c) 4=(c^4,0):=by
 show ml2 (ml2 (ml2 (ml2 on2 (0,c)) (0,c)) (0,c)) (0,c)=_
 rw[show ml2 on2 (0,c)=(0,c)from R2.one_mul _,DI,A1,DI]
 exact bp (by grind) rfl
theorem im_3(c:Zp):pw2 (0,c) 3=(0,-(c^3)):=by
 show ml2 (ml2 (ml2 on2 (0,c)) (0,c)) (0,c)=_
 rw[show ml2 on2 (0,c)=(0,c)from R2.one_mul _,DI,A1]
 exact bp rfl (by grind)
theorem Kk(c:Zp): ∀s,pw2 (0,c) (4*s)=(c^(4*s),0)
 |0=>by show on2=_;rw[Nat.mul_zero,p0];rfl
 |s+1=>by rw[Nat.mul_succ,sn,Kk c s,im_4,mF,qp]
theorem UT(c:Zp)(s:Nat):pw2 (0,c) (4*s+3)=(0,-(c^(4*s+3))):=by
 rw[sn,Kk,im_3,A1,qp]
 exact bp rfl (by grind)
def cjn(n:Nat)(x:W2):W2:=if n % 2=1 then cj2 x else x
theorem Ul(n:Nat)(x:W2):cj2 (cjn n x)=cjn (n+1) x:=by
 rw[cjn,cjn]
 by_cases h:n % 2=1
 ·rw[if_pos h,if_neg om,Fb]
 ·rw[if_neg h,if_pos om]
theorem wg(a b c:W2):ml2 (ml2 a b) c=ml2 a (ml2 b c):=R2.mul_assoc a b c
end
section
/-! ### The powers of p -/
theorem gB(x y:W12):bK (K12.mul x y)=K12.mul (bK x) (bK y):=by
 rw[←eQ,←eQ,←eQ,K12.mul_pw]
theorem tS(x y:W12):bK (K12.add x y)=K12.add (bK x) (bK y):=by
 rw[←eQ,←eQ,←eQ,iE]
def iW(x:W12):Nat→W12
 |0=>x
 |n+1=>bK (iW x n)
theorem o8(x:W12)(m:Nat): ∀n,iW x (m+n)=iW (iW x m) n
 |0=>rfl
 |n+1=>by rw[←Nat.add_assoc,iW,o8 x m n];rfl
theorem tQ(x y:W12): ∀n,iW (K12.mul x y) n=K12.mul (iW x n) (iW y n)
 |0=>rfl
 |n+1=>by rw[iW,tQ x y n,gB];rfl
def zP(z:Zp)(x:W12):W12:=((ml2 x.1.1 (z^0,0),ml2 x.1.2.1 (z^2,0),ml2 x.1.2.2 (z^4,0)),(ml2 x.2.1 (z^1,0),ml2 x.2.2.1 (z^3,0),ml2 x.2.2.2 (z^5,0)))
theorem mo(c:W2)(a b:Zp)(k:Nat):ml2 (ml2 c (b^k,0)) (a^k,0)=ml2 c ((a*b)^k,0):=by
 rw[wg,mF]
 have e:b^k*a^k=(a*b)^k:=by
  induction k with
  |zero=>rw[p0,p0,p0];exact nE
  |succ k ih=>rw[ps,ps,ps,←ih];grind
 rw[e]
theorem yr(a b:Zp)(x:W12):zP a (zP b x)=zP (a*b) x:=
 Prod.ext (Prod.ext (mo _ _ _ _) (Prod.ext (mo _ _ _ _) (mo _ _ _ _))) (Prod.ext (mo _ _ _ _) (Prod.ext (mo _ _ _ _) (mo _ _ _ _)))
def ZE:Zp:=nm2 GA
theorem RH(k:Nat):nm2 (pw2 GA k)=ZE^k:=vB GA k
theorem ku(c:W2)(k:Nat):ml2 (cj2 (ml2 (cj2 c) (pw2 GA k))) (pw2 GA k)=ml2 c (ZE^k,0):=by rw[H3,RH]
theorem oI(x:W12):bK (bK x)=zP ZE x:=
 Prod.ext (Prod.ext (ku _ _) (Prod.ext (ku _ _) (ku _ _))) (Prod.ext (ku _ _) (Prod.ext (ku _ _) (ku _ _)))
theorem OX:ZE=zp 2^sx:=by rw[ZE,GA,vB,Ge]
theorem V7:sx*3=hf:=by decide+kernel
theorem LW{a:Zp}(h:a*a=1)(h1:a≠1):a= -1:=by
 have e:(a-1)*(a+1)=0:=by grind
 rcases kN e with e|e
 ·exact absurd (by grind) h1
 ·grind
theorem Ol:hf+hf=PP-1:=by decide+kernel
theorem Ib:zp 2^hf= -1:=LW (by rw[←qp,Ol,fermat sX]) ET
theorem A8:ZE*(ZE*ZE)= -1:=by
 have e:ZE*(ZE*ZE)=ZE^3:=by generalize ZE=a;grind
 rw[e,OX,←Bl,V7,Ib]
theorem Ay(x:W12):iW x 6=zP (ZE*(ZE*ZE)) x:=by
 show bK (bK (bK (bK (bK (bK x)))))=_
 rw[oI x,oI (zP ZE x),oI,yr ZE ZE x,yr]
def bZ(x:W12):W12:=(x.1,K6.neg x.2)
theorem rT(c:W2)(n:Nat):ml2 c ((-1:Zp)^(2*n),0)=c:=by
 have e:(-1:Zp)^(2*n)=1:=by
  induction n with
  |zero=>exact p0 _
  |succ n ih=>rw[Nat.mul_succ,qp,ih];generalize hm:(-1:Zp)=a;have:a*a=1:=by rw[←hm,z_nn,nE]
              grind
 rw[e];exact R2.mul_one c
theorem ve(c:W2)(n:Nat):ml2 c ((-1:Zp)^(2*n+1),0)=ng2 c:=by
 have e:ml2 c ((-1:Zp)^(2*n+1),0)=ml2 (ml2 c ((-1:Zp)^(2*n),0)) (-1,0):=by rw[wg,mF,ps]
 rw[e,rT]
 generalize hm:(-1:Zp)=a
 refine bp ?_ ?_
 ·show c.1*a-c.2*0= -c.1
  rw[gP,SU,←hm];grind
 ·show c.1*0+c.2*a= -c.2
  rw[gP,Ml,←hm];grind
theorem iA(x:W12):iW x 6=bZ x:=by
 rw[Ay,A8]
 exact Prod.ext (Prod.ext (rT _ 0) (Prod.ext (rT _ 1) (rT _ 2))) (Prod.ext (ve _ 0) (Prod.ext (ve _ 1) (ve _ 2)))
theorem nL(x:W12):bZ (bZ x)=x:=Prod.ext rfl (K6.neg_neg x.2)
theorem m5(x:W12):iW x 12=x:=by rw[show 12=6+6 from rfl,o8,iA,iA,nL]
/-! ### The conjugate's laws -/
theorem iI(x y:W12):bZ (K12.mul x y)=K12.mul (bZ x) (bZ y):=by rw[←iA,←iA,←iA,tQ]
theorem gA:bZ K12.one=K12.one:=Prod.ext rfl K6.neg_zero
theorem wd:K12.one≠K12.zero:=by decide+kernel
theorem tvv{ρ:Nat→W6}{p:Po}{a:W6}(k:Nat)(ha:K6.d ρ p=a)(hk:ρ k=VV):K6.d ρ (jj p (pv k))=v6 a:=by rw[K6.d_mul,ha,K6.d_var,hk];exact yT a
theorem BO{ρ:Nat→W6}{p q:Po}{a b:W6}(ha:K6.d ρ p=a)(hb:K6.d ρ q=b):K6.d ρ (f8 p (kK q))=sb6 a b:=by rw[K6.d_add,K6.d_neg,ha,hb,wG]
end
section
open Go.RowKit
theorem ent219:ai prog 219:=fun _ _=>kr
theorem ent180:ai prog 180:=fun _ _=>kr
theorem ent274:ai prog 274:=fun _ _=>kr
theorem ent236:ai prog 236:=fun _ _=>kr
theorem ent238:ai prog 238:=fun _ _=>kr
theorem ent235:ai prog 235:=fun _ _=>kr
theorem ent215:ai prog 215:=fun _ _=>kr
theorem ent179:ai prog 179:=fun _ _=>kr
namespace Q6
attribute [local simp] aT a9 aR aM aC bd aJ aI aA PLl cq cn N1l ck cp cm a5 bc aP aX a8 ez
attribute [local simp] pO cZ
abbrev ch(x:W12):Value:=aQ (((fe (x.1.1).1++fe (x.1.1).2)++((fe (x.1.2.1).1++fe (x.1.2.1).2)++(fe (x.1.2.2).1++fe (x.1.2.2).2)))++((fe (x.2.1).1++fe (x.2.1).2)++((fe (x.2.2.1).1++fe (x.2.2.1).2)++(fe (x.2.2.2).1++fe (x.2.2.2).2))))
theorem zv233(w:World):(zeroValue 233).run prog w=.ok (aQ (((fe 0++fe 0)++((fe 0++fe 0)++(fe 0++fe 0)))++((fe 0++fe 0)++((fe 0++fe 0)++(fe 0++fe 0))))) w:=by rw[kA];exact (zeroValue233 w).trans rr
theorem r7:Two prog 233 ⟨ "C0",231,0,false, "", "",0⟩ ⟨ "C1",231,36,false, "", "",288⟩ 36 36 ((fe 0++fe 0)++((fe 0++fe 0)++(fe 0++fe 0))) ((fe 0++fe 0)++((fe 0++fe 0)++(fe 0++fe 0))):=⟨underlying233,rfl,rfl,sizeOf231,sizeOf231,zv233,sm,sm⟩
theorem e12{a b a' b':W6}(h1:a=a')(h2:b=b'):Ending.returned (ch (a,b))=.returned (ch (a',b')):=by rw[h1,h2]
theorem IM{x y:W12}(h:x.1=y.1):decide (x.2=y.2)=decide (x=y):=decide_eq_decide.2 ⟨fun e=>Prod.ext h e,fun e=>by rw[e]⟩
theorem Im{x y:W12}(h: ¬x.1=y.1):false=decide (x=y):=(decide_eq_false fun e=>h (by rw[e])).symm
def p12(x:W12):Nat→W2
 |0=>x.1.1
 |1=>x.2.1
 |2=>x.1.2.1
 |3=>x.2.2.1
 |4=>x.1.2.2
 |_=>x.2.2.2
def q12:Sh W12:=q6.two q6 6
theorem V12(x:W12):ch x=dn rid (.inl [x.1.1.1,x.1.1.2,x.1.2.1.1,x.1.2.1.2,x.1.2.2.1,x.1.2.2.2,x.2.1.1,x.2.1.2,x.2.2.1.1,x.2.2.1.2,x.2.2.2.1,x.2.2.2.2]):=by
 show Value.agg _=Value.agg _
 rw[clv,show cel [x.1.1.1,x.1.1.2,x.1.2.1.1,x.1.2.1.2,x.1.2.2.1,x.1.2.2.2,x.2.1.1,x.2.1.2,x.2.2.1.1,x.2.2.1.2,x.2.2.2.1,x.2.2.2.2]=fe x.1.1.1++(fe x.1.1.2++(fe x.1.2.1.1++(fe x.1.2.1.2++(fe x.1.2.2.1++(fe x.1.2.2.2++(fe x.2.1.1++(fe x.2.1.2++(fe x.2.2.1.1++(fe x.2.2.1.2++(fe x.2.2.2.1++fe x.2.2.2.2))))))))))from rfl]
 simp only[List.append_assoc]
end Q6
end
end Go.Proofs.YtfgacclgjklgnaaGreatDoor
