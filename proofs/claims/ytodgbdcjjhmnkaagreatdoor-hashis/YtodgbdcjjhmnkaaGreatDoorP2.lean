/-
 A Hash's cells; what a Hash holds of the text that was written.
 The walks of Hash's methods.
 The walk of Hash.Write.
 The walks of sha.Pair, slices.Clone, sha.Blocks.
-/
import Derived.Test.YtodgbdcjjhmnkaaGreatDoorP1
import Derived.Test.YtodgbdcjjhmnkaaGreatDoorX2
import Derived.Test.YtodgbdcjjhmnkaaGreatDoorXW
import Derived.Lib.BufferMore
set_option maxRecDepth 100000
set_option maxHeartbeats 1000000
namespace Go.Proofs.YtodgbdcjjhmnkaaGreatDoor
open Go.Proofs.Tryz
section
open Go.RowKit
namespace Sh
def hc(st:List (BitVec 32))(rs:List (BitVec 8))(n:BitVec 64):List Value:=st.map U32++(rs.map U8++[U64 n])
section
variable {st st':List (BitVec 32)} {rs rs':List (BitVec 8)} {n m:BitVec 64}
theorem qk(h1:st.length=8)(h2:rs.length=64):(hc st rs n).length=73:=by simp[hc,h1,h2]
theorem oo(h1:st.length=8)(h2:rs.length=64):(hc st rs n)[72]? =some (U64 n):=by
 unfold hc
 rw[List.getElem?_append_right (by simp[h1]),List.getElem?_append_right (by simp[h1,h2])]
 simp[h1,h2]
theorem NX: ∀j v,(st.map U32)[j]? =some v→(hc st rs n)[0+j]? =some v:=fun j v hv=>by
 have:j<(st.map U32).length:=by
  rcases Nat.lt_or_ge j (st.map U32).length with h|h
  ·exact h
  ·rw[List.getElem?_eq_none h]at hv;cases hv
 unfold hc
 rw[Nat.zero_add,List.getElem?_append_left this]
 exact hv
theorem FD(h1:st.length=8): ∀j v,(rs.map U8)[j]? =some v→(hc st rs n)[8+j]? =some v:=fun j v hv=>by
 have:j<(rs.map U8).length:=by
  rcases Nat.lt_or_ge j (rs.map U8).length with h|h
  ·exact h
  ·rw[List.getElem?_eq_none h]at hv;cases hv
 unfold hc
 rw[List.getElem?_append_right (by simp[h1]),List.getElem?_append_left (by simpa [h1]using this)]
 simpa [h1]using hv
theorem JE(h1:st.length=8)(h1':st'.length=8):lay 0 (st'.map U32) (hc st rs n)=hc st' rs n:=by
 rw[gV _ _ _ (by simp[hc,h1,h1'])]
 simp[hc,h1',h1]
theorem qs(h1:st.length=8)(o:Nat)(xs:List (BitVec 8))(h:o+xs.length≤rs.length):lay (8+o) (xs.map U8) (hc st rs n)=hc st (rs.take o++xs++rs.drop (o+xs.length)) n:=by
 rw[gV _ _ _ (by simp[hc,h1];omega)]
 simp only[hc,List.take_append,List.drop_append,List.length_map,h1,List.map_append,List.map_take,List.map_drop]
 rw[List.take_of_length_le (by simp[h1]),List.drop_eq_nil_of_le (by simp[h1];omega)]
 rw[show 8+o-8=o from by omega,show o-rs.length=0 from by omega,show 8+o+xs.length-8=o+xs.length from by omega,show o+xs.length-rs.length=0 from by omega]
 simp
theorem JT(h1:st.length=8)(h2:rs.length=64)(h2':rs'.length=64):lay 8 (rs'.map U8) (hc st rs n)=hc st rs' n:=by
 have:=qs (rs:=rs) (n:=n) h1 0 rs' (by omega)
 rw[Nat.add_zero]at this
 rw[this,Nat.zero_add,List.drop_eq_nil_of_le (by omega)]
 simp
theorem Hm(h1:st.length=8)(h2:rs.length=64):(hc st rs n).set 72 (U64 m)=hc st rs m:=by
 unfold hc
 rw[List.set_append_right _ _ (by simp[h1]),List.set_append_right _ _ (by simp[h1,h2])]
 simp[h1,h2]
end
def tl(T:List (BitVec 8)):List (BitVec 8):=T.drop (64*(T.length / 64))
theorem jB(T:List (BitVec 8)):(tl T).length=T.length % 64:=by simp[tl];omega
def kW(rs:List (BitVec 8)):List (BitVec 8):=rs++List.replicate (64-rs.length) 0#8
theorem xl(rs:List (BitVec 8))(h:rs.length≤64):(kW rs).length=64:=by simp[kW];omega
def full(T:List (BitVec 8)):List (BitVec 32):=fk IV (fO T) (T.length / 64)
structure HInv(T:List (BitVec 8))(st:List (BitVec 32))(rs:List (BitVec 8))(n:BitVec 64):Prop where
 len:T.length<9223372036854775808
 st8:st.length=8
 rest:rs=kW (tl T)
 num:n=BitVec.ofNat 64 T.length
 state:64≤T.length→st=full T
theorem HInv.zero:HInv [] (List.replicate 8 0#32) (List.replicate 64 0#8) 0:=⟨by simp,by simp,by simp[kW,tl],rfl,fun h=>by simp at h⟩
theorem HInv.rs64{T:List (BitVec 8)}{st:List (BitVec 32)}{rs:List (BitVec 8)}{n:BitVec 64}(h:HInv T st rs n):rs.length=64:=by rw[h.rest];exact xl _ (by rw[jB];omega)
theorem HInv.toNat{T:List (BitVec 8)}{st:List (BitVec 32)}{rs:List (BitVec 8)}{n:BitVec 64}(h:HInv T st rs n):n.toNat=T.length:=by
 have:=h.len
 rw[h.num,BitVec.toNat_ofNat];omega
def rch(st:List (BitVec 32))(n:BitVec 64):List (BitVec 32):=if n<64#64 then IV else st
theorem HInv.rch{T:List (BitVec 8)}{st:List (BitVec 32)}{rs:List (BitVec 8)}{n:BitVec 64}(h:HInv T st rs n):rch st n=full T:=by
 unfold Sh.rch
 by_cases hlt:n<64#64
 ·have:T.length<64:=by have h1:=BitVec.lt_def.1 hlt;rw[h.toNat]at h1;simpa using h1
  rw[if_pos hlt,full,Nat.div_eq_of_lt this];rfl
 ·have: ¬T.length<64:=fun h'=>hlt (BitVec.lt_def.2 (by rw[h.toNat];simpa using h'))
  rw[if_neg hlt];exact h.state (by omega)
theorem jZ{st:List (BitVec 32)}{n:BitVec 64}(h:st.length=8):(rch st n).length=8:=by unfold rch;split;rfl;exact h
theorem gN(st:List (BitVec 32))(a b:List (List (BitVec 8))): ∀k,(∀i,i<k→a.getD i []=b.getD i [])→fk st a k=fk st b k
 |0,_=>rfl
 |k+1,h=>by rw[fk,fk,gN st a b k (fun i hi=>h i (by omega)),h k (by omega)]
theorem kT(st:List (BitVec 32))(a b:List (List (BitVec 8))): ∀k,fk st (a++b) (a.length+k)=fk (fk st a a.length) b k
 |0=>by
  show fk st (a++b) a.length=fk st a a.length
  exact gN st _ _ _ (fun i hi=>by simp[List.getElem?_append_left hi])
 |k+1=>by
  rw[←Nat.add_assoc,fk,kT st a b k,fk]
  congr 1
  simp only[List.getD_eq_getElem?_getD]
  rw[List.getElem?_append_right (by omega),Nat.add_sub_cancel_left]
theorem Az(T:List (BitVec 8)):SHA T=DG (fk (full T) (dP (tl T) (BitVec.ofInt 64 T.length)) (dP (tl T) (BitVec.ofInt 64 T.length)).length) 8:=by
 have:=kT IV (fO T) (dP (tl T) (BitVec.ofInt 64 T.length)) (dP (tl T) (BitVec.ofInt 64 T.length)).length
 unfold SHA
 rw[show mK T=fO T++dP (tl T) (BitVec.ofInt 64 T.length)from rfl,List.length_append,this,xI]
 rfl
theorem HInv.part{T:List (BitVec 8)}{st:List (BitVec 32)}{rs:List (BitVec 8)}{n:BitVec 64}(h:HInv T st rs n)(xs:List (BitVec 8))(hx:T.length % 64+xs.length<64)(hl:(T++xs).length<9223372036854775808):
 HInv (T++xs) st (rs.take (T.length % 64)++xs++rs.drop (T.length % 64+xs.length)) (n+BitVec.ofInt 64 xs.length):=by
 have hd:(T++xs).length / 64=T.length / 64:=by simp;omega
 have ht:tl (T++xs)=tl T++xs:=by
  unfold tl
  rw[hd,List.drop_append_of_le_length (by omega)]
 refine ⟨hl,h.st8, ?_, ?_,fun h64=> ?_⟩
 ·have e:=jB T
  rw[h.rest,ht,kW,kW]
  rw[List.take_append_of_le_length (by omega),List.take_of_length_le (by omega),List.drop_append,List.drop_eq_nil_of_le (by omega)]
  simp only[List.nil_append,List.append_assoc,List.drop_replicate,List.length_append]
  congr 3
  omega
 ·apply BitVec.eq_of_toNat_eq
  rw[BitVec.toNat_add,h.toNat,BitVec.ofInt_natCast,BitVec.toNat_ofNat,BitVec.toNat_ofNat]
  simp
 ·have h64':64≤T.length:=by simp at h64;omega
  rw[h.state h64',full,full,hd]
  refine gN _ _ _ _ (fun i hi=> ?_)
  have h1:i<T.length / 64:=hi
  have h2:i<(T++xs).length / 64:=by omega
  have e1:(fO T).getD i []=(T.drop (64*i)).take 64:=by simp[fO,h1]
  have e2:(fO (T++xs)).getD i []=((T++xs).drop (64*i)).take 64:=by
   unfold fO
   simp[-List.length_append,h2]
  rw[e1,e2,List.drop_append_of_le_length (by omega),List.take_append_of_le_length (by simp;omega)]
theorem HInv.fill{T:List (BitVec 8)}{st:List (BitVec 32)}{rs:List (BitVec 8)}{n:BitVec 64}(h:HInv T st rs n)(xs:List (BitVec 8))(hx:T.length % 64+xs.length=64)(hl:(T++xs).length<9223372036854775808):
 HInv (T++xs) (nu (full T) (rs.take (T.length % 64)++xs++rs.drop (T.length % 64+xs.length))) (List.replicate 64 0#8) (n+BitVec.ofInt 64 xs.length):=by
 have hd:(T++xs).length / 64=T.length / 64+1:=by simp;omega
 have ht:tl (T++xs)=[]:=by
  unfold tl
  rw[hd]
  apply List.drop_eq_nil_of_le
  simp;omega
 refine ⟨hl,fQ _ _,by rw[ht];rfl, ?_,fun _=> ?_⟩
 ·apply BitVec.eq_of_toNat_eq
  rw[BitVec.toNat_add,h.toNat,BitVec.ofInt_natCast,BitVec.toNat_ofNat,BitVec.toNat_ofNat]
  simp
 ·rw[full,full,hd,fk]
  have e2: ∀i,i<(T++xs).length / 64→(fO (T++xs)).getD i []=((T++xs).drop (64*i)).take 64:=fun i hi=>by
   unfold fO
   simp[-List.length_append,hi]
  congr 1
  ·refine gN _ _ _ _ (fun i hi=> ?_)
   have e1:(fO T).getD i []=(T.drop (64*i)).take 64:=by simp[fO,hi]
   rw[e1,e2 i (by omega),List.drop_append_of_le_length (by omega),List.take_append_of_le_length (by simp;omega)]
  ·have e:=jB T
   rw[e2 _ (by omega),h.rest,kW,List.take_append_of_le_length (by omega),List.take_of_length_le (by omega),List.drop_append,List.drop_eq_nil_of_le (by omega)]
   rw[List.drop_append_of_le_length (by omega),show T.drop (64*(T.length / 64))=tl T from rfl,List.take_of_length_le (by simp;omega)]
   simp
   omega
end Sh
end
section
open Go.RowKit
namespace Sh
theorem nU{w:World}{b:Nat}{c:List Value}{t:TypeId}(h:OwnB w b c t){o:Nat}{cs:List Value}(hc: ∀j v,cs[j]? =some v→c[o+j]? =some v):w.rangeAt b o cs:=fun j v hv=>(h.cell (o+j)).trans (hc j v hv)
theorem je(bh:Nat)(st:List (BitVec 32))(rs:List (BitVec 8))(n:BitVec 64)(h1:st.length=8)(h2:rs.length=64)(w:World)(hw:Gt w)(ho:OwnB w bh (hc st rs n) 180):
 Calls Tryz.prog 177 [.pointer (some ⟨bh,0,none⟩)].toArray w (fun e w'=>e=.returned (.agg ((rch st n).map U32).toArray)∧Grow w w'):=by
 refine Hf func177 rfl hw<|fun hGF=>Xp<|Al 2 hGF zv74<|fun b2=>aa<|ah<|Xp<|Mv rfl<|cG rfl rfl rfl<|Fa 72 rfl underlying180 rfl sizeOf24<|bC rfl isAgg24 (jz (B:=pl w) ((ho.cell 72).trans (oo h1 h2)) (fun h=>h)) rfl rfl<|Bnr rfl rfl (fun _=>ll _ _ _)<|aa<|?_
 refine ba rfl (fun hc=> ?_) (fun hc=> ?_)
 ·simp only[decide_eq_true_eq]at hc
  refine Xp<|Ca rfl (ue)<|Sx 2 hGF rfl rfl rfl nE (by rw[(show IV.length=8 from rfl)]) (dh _)<|aa<|aq<|Rr<|?_
  exact aw 2 rfl rfl rfl isAgg74 sizeOf74 rfl (fun w hw=>⟨by rw[rch,if_pos hc],ac hw⟩)
 ·simp only[decide_eq_false_iff_not]at hc
  refine au<|Xp<|Mv rfl<|cG rfl rfl rfl<|Fa 0 rfl underlying180 rfl sizeOf74<|dB rfl isAgg74 sizeOf74 (by rw[List.length_map,h1]) (iE (B:=pl w) (nU ho NX) (fun h=>h)) rfl rfl<|Sx 2 hGF rfl rfl rfl nE h1 (dh _)<|aa<|aq<|Rr<|?_
  exact aw 2 rfl rfl rfl isAgg74 sizeOf74 (by rw[List.length_map,h1]) (fun w hw=>⟨by rw[rch,if_neg hc],ac hw⟩)
theorem sS(T:List (BitVec 8))(bh:Nat)(st:List (BitVec 32))(rs:List (BitVec 8))(n:BitVec 64)(hi:HInv T st rs n)(w:World)(hw:Gt w)(ho:OwnB w bh (hc st rs n) 180):
 Calls Tryz.prog 163 [.pointer (some ⟨bh,0,none⟩)].toArray w (fun e w'=>e=.returned (.agg ((SHA T).map U8).toArray)∧Grow w w'):=by
 have hGF:BOk Gt (pl w):=gt_low.plain hw
 have hmt:(n % 64#64).toNat=(tl T).length:=by rw[BitVec.toNat_umod,hi.toNat,jB];rfl
 have hm64:(n % 64#64).toNat<64:=by rw[hmt,jB];omega
 have hn:BitVec.ofInt 64 T.length=n:=by rw[hi.num,BitVec.ofInt_natCast]
 refine Hd func163 rfl hGF<|ae (E:=EE [181])<|Al 2 hGF zv134<|fun b2=>aa<|Xd [181]<|Mv rfl<|Cc rfl ent177 (fun w' hw' hG=>je bh st rs n hi.st8 hi.rs64 w' hG (ho.of_same ((ac hw').block bh ho.lt)))<|Mv rfl<|cG rfl rfl rfl<|Fa 8 rfl underlying180 rfl sizeOf178<|Mv rfl<|cG rfl rfl rfl<|Fa 72 rfl underlying180 rfl sizeOf24<|bC rfl isAgg24 (jz (B:=pl w) ((ho.cell 72).trans (oo hi.st8 hi.rs64)) (fun h=>h)) rfl rfl<|Bnr rfl rfl (fun _=>dI _ _ _ (by decide))<|D6 rfl underlying178 sizeOf5 rfl hm64 rfl rfl<|Mv rfl<|cG rfl rfl rfl<|Fa 72 rfl underlying180 rfl sizeOf24<|bC rfl isAgg24 (jz (B:=pl w) ((ho.cell 72).trans (oo hi.st8 hi.rs64)) (fun h=>h)) rfl rfl<|?_
 refine gq rfl rfl ent181 rfl rfl (fun w' hw'=>(pd _ _ rfl w' (hGF.g _ _ _ hw')).mono fun e w'' h=> ?_)
 obtain ⟨c2,c3,rfl,hgr,h2,h3,hne,hc2,hc3⟩:=h
 refine ⟨_,_,rfl,az hGF,hw'.news ao hgr [(31,c2,[.slice (some ⟨bh,8,none⟩) (n % 64#64).toNat 64],22),(32,c3,[U64 n],24)] ?_ ?_, ?_⟩
 ·intro n' b c t hl
  rcases aH hl with ⟨_,e⟩|⟨_,hl⟩
  ·cases e;exact ⟨h2,hc2⟩
  ·rcases aH hl with ⟨_,e⟩|⟨_,hl⟩
   ·cases e;exact ⟨h3,hc3⟩
   ·cases hl
 ·exact C7 hne
 refine Cc rfl ent180 (fun w' hw' hG=>wP (rch st n) (jZ hi.st8) 191 [.pointer (some ⟨c2,0,none⟩),.pointer (some ⟨c3,0,none⟩)] (dP (tl T) n) (lh _ _ (by rw[jB];omega)) (ql c2 c3 (some ⟨bh,8,none⟩) 64 (tl T) n) ent191 (Et c2 c3 (some ⟨bh,8,none⟩) 64 (tl T) n (by rw[jB];omega)) w' hG (fun w3 hg3=> ?_)) ?_
 ·have hx:=hw'.grow ao hg3
  refine ⟨by rw[←hmt];exact cg (n:=31) rfl rfl w3 hx,cg (n:=32) rfl rfl w3 hx,BytesAt.range ?_⟩
  intro j v hv
  refine jz (B:=pl w) ((ho.cell (8+j)).trans ?_) (fun h=>h) w3 hx
  refine FD hi.st8 j v ?_
  rw[hi.rest,kW,List.map_append]
  have hlt:j<((tl T).map U8).length:=by
   rcases Nat.lt_or_ge j ((tl T).map U8).length with h|h
   ·exact h
   ·rw[List.getElem?_eq_none h]at hv;cases hv
  rw[List.getElem?_append_left hlt];exact hv
 refine Ca rfl (qF _ (fg _ _ (jZ hi.st8) _))<|Sx 2 hGF rfl rfl rfl lm (ec _ _) (ca _)<|aa<|aq<|Rr<|?_
 exact aw 2 rfl rfl rfl isAgg134 sizeOf134 (by rw[List.length_map,ec]) (fun w hw=>⟨by rw[Az T,hi.rch,hn],ac hw⟩)
end Sh
end
section
open Go.RowKit
namespace Sh
structure WSt(T bs:List (BitVec 8))(w:World)(bh:Nat) where
 (c:Nat) (st:List (BitVec 32)) (rs:List (BitVec 8)) (n:BitVec 64) (a:Option Addr) (cap:Nat)
 hc:c≤bs.length
 hi:HInv (T++bs.take c) st rs n
 hb:BytesAt w a (bs.drop c)
 hcap:(bs.drop c).length≤cap
 hne:bs.drop c≠[]→∀ad,a=some ad→ad.block≠bh
theorem wZ(bs:List (BitVec 8))(c m:Nat):bs.take c++(bs.drop c).take m=bs.take (c+m):=by rw[List.take_add]
theorem qy(T bs:List (BitVec 8))(bh:Nat)(st:List (BitVec 32))(rs:List (BitVec 8))(n:BitVec 64)(hi:HInv T st rs n)(hT:(T++bs).length<9223372036854775808)(a:Option Addr)(cap:Nat)(hcap:bs.length≤cap)(w:World)(hw:Gt w)(ho:OwnB w bh (hc st rs n) 180)(hbh:6≤bh)(hby:BytesAt w a bs)(hne:bs≠[]→∀ad,a=some ad→ad.block≠bh):
 Calls Tryz.prog 162 [.pointer (some ⟨bh,0,none⟩),.slice a bs.length cap].toArray w (fun e w'=>e=.returned (.tuple #[])∧Mod bh w w'∧∃st' rs' n',HInv (T++bs) st' rs' n'∧OwnB w' bh (hc st' rs' n') 180):=by
 have hGF:BOk Gt (plM w (fun k=>k=bh)):=(gt_low.from (M:=fun k=>k=bh) hw (fun m hm=>by subst hm;exact hbh)).ok (B:=plM w (fun k=>k=bh)) ao
 refine cN (G:=Gt) func162 rfl rfl (Hp (plM w (fun k=>k=bh)) [(0,bh,hc st rs n,180)]) (JY ho) (az hGF)<|ai<|bg (ι:=WSt T bs w bh) (fun x=>[(0,.pointer (some ⟨bh,0,none⟩)),(1,.slice x.a (bs.drop x.c).length x.cap)]) (fun x=>[(0,bh,hc x.st x.rs x.n,180)]) (fun x=>bs.length-x.c) ⟨0,st,rs,n,a,cap,Nat.zero_le _,by simpa using hi,by simpa using hby,by simpa using hcap,hne⟩ hGF ⟨rfl,rfl,trivial⟩ ⟨rfl,trivial⟩<|?_
 rintro x
 have x8:=x.hi.st8
 have x64:=x.hi.rs64
 have hdl:(bs.drop x.c).length=bs.length-x.c:=List.length_drop
 have hxc:=x.hc
 refine ah<|Xp<|Mv rfl<|aZ rfl (fun _=>aC underlying22 _ _ _ _) rfl rfl<|Bnr rfl rfl (fun _=>aP _ _ _)<|aa<|?_
 refine ba rfl (fun hc=> ?_) (fun hc=> ?_)
 ·simp only[decide_eq_true_eq]at hc
  have hmod:(x.n % 64#64).toNat=(T++bs.take x.c).length % 64:=by rw[BitVec.toNat_umod,x.hi.toNat];rfl
  have hm64:(x.n % 64#64).toNat<64:=by omega
  obtain ⟨xs,hxs⟩: ∃xs,(bs.drop x.c).take (64-(x.n % 64#64).toNat)=xs:=⟨_,rfl⟩
  have hxl:xs.length=Nat.min (bs.drop x.c).length (64-(x.n % 64#64).toNat):=by rw[←hxs,List.length_take];exact Nat.min_comm _ _
  have hx1:xs.length≤(bs.drop x.c).length:=by rw[hxl];exact Nat.min_le_left _ _
  have hx2:xs.length≤64-(x.n % 64#64).toNat:=by rw[hxl];exact Nat.min_le_right _ _
  have hx0:0<xs.length:=by rw[hxl];exact Nat.lt_min.2 ⟨by omega,by omega⟩
  have hdne:bs.drop x.c≠[]:=fun e=>by rw[e]at hc;simp at hc
  have hbx:BytesAt w x.a xs:=hxs▸x.hb.take _
  have hmx:(x.n % 64#64).toNat+xs.length≤x.rs.length:=by rw[x64];omega
  have hxt:T++bs.take (x.c+xs.length)=T++bs.take x.c++xs:=by
   rw[←wZ,←List.append_assoc,←List.prefix_iff_eq_take.1 (hxs▸List.take_prefix _ _)]
  have hdn:(bs.drop x.c).length-xs.length=(bs.drop (x.c+xs.length)).length:=by rw[List.length_drop,List.length_drop];omega
  have hroom:8+(x.n % 64#64).toNat+xs.length≤73:=by omega
  have hlen2:(T++bs.take x.c++xs).length<9223372036854775808:=by simp at hT⊢;omega
  have hb3:BytesAt w (if x.cap=xs.length then x.a else x.a.map (·.add (xs.length*1))) (bs.drop (x.c+xs.length)):=by
   have:=x.hb.drop (cap:=x.cap) (l:=xs.length) x.hcap (by omega)
   rwa [List.drop_drop]at this
  have hc3:(bs.drop (x.c+xs.length)).length≤x.cap-xs.length:=by have:=x.hcap;simp at this⊢;omega
  have hn3:bs.drop (x.c+xs.length)≠[]→∀ad,(if x.cap=xs.length then x.a else x.a.map (·.add (xs.length*1)))=some ad→ad.block≠bh:=by
   intro _ ad had
   split at had
   ·exact x.hne hdne ad had
   ·cases hxa:x.a with
    |none=>rw[hxa]at had;cases had
    |some ad0=>
     rw[hxa]at had
     cases had
     rw[ox];exact x.hne hdne ad0 hxa
  have hsum:(x.n+BitVec.ofInt 64 xs.length).toNat=(T++bs.take x.c).length+xs.length:=by
   rw[BitVec.toNat_add,x.hi.toNat,BitVec.ofInt_natCast,BitVec.toNat_ofNat]
   simp at hlen2⊢;omega
  have hsm:((x.n+BitVec.ofInt 64 xs.length) % 64#64).toNat=((T++bs.take x.c).length+xs.length) % 64:=by rw[BitVec.toNat_umod,hsum];rfl
  have hfl0:(((x.n+BitVec.ofInt 64 xs.length) % 64#64==0#64)=true→(T++bs.take x.c).length % 64+xs.length=64)∧(((x.n+BitVec.ofInt 64 xs.length) % 64#64==0#64)=false→(T++bs.take x.c).length % 64+xs.length<64):=by
   refine ⟨fun h=> ?_,fun h=> ?_⟩
   ·have:=congrArg BitVec.toNat (beq_iff_eq.1 h)
    rw[hsm]at this
    have h0:(0#64).toNat=0:=rfl
    omega
   ·have hne: ¬((x.n+BitVec.ofInt 64 xs.length) % 64#64).toNat=0:=fun e=>(beq_eq_false_iff_ne.1 h) (BitVec.eq_of_toNat_eq (by rw[e];rfl))
    rw[hsm]at hne
    omega
  refine au<|ai<|Xp<|Mv rfl<|Cc rfl ent177 (fun w' hw' hG=>je bh x.st x.rs x.n x8 x64 w' hG (hw'.own 0 _ _ _ rfl).1)<|Al 4 hGF zv74<|fun b4=>Sx 4 hGF rfl rfl rfl nE (jZ x.hi.st8) (dh _)<|aa<|Xd []<|Mv rfl<|cG rfl rfl rfl<|Fa 8 rfl underlying180 rfl sizeOf178<|Mv rfl<|cG rfl rfl rfl<|Fa 72 rfl underlying180 rfl sizeOf24<|gx 0 rfl rfl (oo x8 x64) isAgg24 rfl rfl<|Bnr rfl rfl (fun _=>dI _ _ _ (by decide))<|Dg rfl underlying178 sizeOf5 rfl hm64 rfl rfl<|Mv rfl<|nj (cs:=xs) 0 hGF rfl rfl rfl underlying22 B6 hxl (fun w' h=>xw hbx (yJ h) (x.hne hdne)) (by rw[qk x8 x64];exact hroom) rfl rfl<|?_
  rw[qs x8 _ xs hmx]
  have x64:(x.rs.take (x.n % 64#64).toNat++xs++x.rs.drop ((x.n % 64#64).toNat+xs.length)).length=64:=by rw[List.length_append,List.length_append,List.length_take,List.length_drop,x64];omega
  obtain ⟨rs1,hrs1⟩: ∃rs1,x.rs.take (x.n % 64#64).toNat++xs++x.rs.drop ((x.n % 64#64).toNat+xs.length)=rs1:=⟨_,rfl⟩
  rw[hrs1]at x64⊢
  refine Asg rfl<|aa<|Xp<|Mv rfl<|cG rfl rfl rfl<|Fa 72 rfl underlying180 rfl sizeOf24<|gx 0 rfl rfl (oo x8 x64) isAgg24 rfl rfl<|Mv rfl<|bt rfl rfl (fun _=>d8 underlying3 underlying24 _) rfl rfl<|Bnr rfl rfl (fun _=>ay _ _ _)<|cG rfl rfl rfl<|Fa 72 rfl underlying180 rfl sizeOf24<|gh 0 hGF rfl rfl rfl sizeOf24 rfl (by rw[qk x8 x64];decide) rfl<|?_
  rw[Hm x8 x64]
  refine aa<|Xp<|Mv rfl<|Mv rfl<|iP (l:=xs.length) (h':=(bs.drop x.c).length) rfl underlying22 sizeOf5 rfl rfl ⟨by omega,x.hcap⟩ rfl rfl<|Asg rfl<|aa<|Xp<|Mv rfl<|cG rfl rfl rfl<|Fa 72 rfl underlying180 rfl sizeOf24<|gx 0 rfl rfl (oo x8 x64) isAgg24 rfl rfl<|Bnr rfl rfl (fun _=>dI _ _ _ (by decide))<|Bnr rfl rfl (fun _=>aY _ _ _)<|aa<|?_
  refine ba rfl (fun hc=> ?_) (fun hc=> ?_)
  ·have hfl:=hfl0.1 hc
   refine Xd []<|Mv rfl<|Lw 4 rfl rfl nE (jZ x.hi.st8)<|Mv rfl<|cG rfl rfl rfl<|Fa 8 rfl underlying180 rfl sizeOf178<|AJ 0 rfl rfl isAgg178 sizeOf178 (by rw[List.length_map,x64]) (FD x8) rfl rfl<|Ca rfl (oF _ _ (jZ x.hi.st8) x64)<|cG rfl rfl rfl<|Fa 0 rfl underlying180 rfl sizeOf74<|eo 0 hGF rfl rfl rfl sizeOf74 (by rw[List.length_map,fQ]) (dh _) (by rw[qk x8 x64,List.length_map,fQ];decide) rfl<|?_
   rw[JE x8 (fQ _ _)]
   have x8:=fQ (rch x.st x.n) rs1
   refine aa<|Xq<|Mv rfl<|eS zv178 underlying178 sizeOf5 rfl rfl<|cG rfl rfl rfl<|Fa 8 rfl underlying180 rfl sizeOf178<|eo 0 hGF rfl rfl rfl sizeOf178 (by rw[List.length_map,List.length_replicate]) (ca _) (by rw[qk x8 x64,List.length_map,List.length_replicate];decide) rfl<|?_
   rw[JT x8 x64 List.length_replicate]
   refine aa ?_
   repeat (refine aJ ?_)
   exact aA<|⟨rfl,⟨x.c+xs.length,nu (rch x.st x.n) rs1,List.replicate 64 0#8,x.n+BitVec.ofInt 64 xs.length,if x.cap=xs.length then x.a else x.a.map (·.add (xs.length*1)),x.cap-xs.length,by omega,(by rw[hxt,←hrs1,hmod,x.hi.rch];exact x.hi.fill xs hfl hlen2),hb3,hc3,hn3⟩,_,by show bs.length-(x.c+xs.length)<bs.length-x.c;omega,rfl,⟨rfl,congrArg (fun k=>some (Value.slice (if x.cap=xs.length then x.a else x.a.map (·.add (xs.length*1))) k (x.cap-xs.length))) hdn,trivial⟩,⟨rfl,trivial⟩⟩
  ·have hfl:=hfl0.2 hc
   refine au ?_
   repeat (refine aJ ?_)
   exact aA<|⟨rfl,⟨x.c+xs.length,x.st,rs1,x.n+BitVec.ofInt 64 xs.length,if x.cap=xs.length then x.a else x.a.map (·.add (xs.length*1)),x.cap-xs.length,by omega,(by rw[hxt,←hrs1,hmod];exact x.hi.part xs hfl hlen2),hb3,hc3,hn3⟩,_,by show bs.length-(x.c+xs.length)<bs.length-x.c;omega,rfl,⟨rfl,congrArg (fun k=>some (Value.slice (if x.cap=xs.length then x.a else x.a.map (·.add (xs.length*1))) k (x.cap-xs.length))) hdn,trivial⟩,⟨rfl,trivial⟩⟩
 ·simp only[decide_eq_false_iff_not]at hc
  refine aM ?_
  have hall:bs.take x.c=bs:=List.take_of_length_le (by have:=x.hc;omega)
  repeat (refine eV ?_)
  exact dw<|cT rfl (fun w' hw'=>⟨rfl,yJ hw',x.st,x.rs,x.n,by have:=x.hi;rw[hall]at this;exact this,(hw'.own 0 _ _ _ rfl).1⟩)
end Sh
end
section
open Go.RowKit
namespace Sh
theorem ti5:TI Tryz.prog 5 (.int .u8 0) 1 1:=wB (by kernel_rfl)
def Cln(w w':World)(bs:List (BitVec 8))(sv:Value):Prop:=
 (bs=[]∧sv=.slice none 0 0)∨∃b c cap1,sv=.slice (some ⟨b,0,none⟩) bs.length cap1∧w.heap.size≤b∧OwnB w' b c 5∧c.length=cap1∧bs.length≤cap1∧c.take bs.length=bs.map U8
theorem Cln.cells{w w':World}{bs:List (BitVec 8)}{sv:Value}(h:Cln w w' bs sv):sv.cells= #[sv]:=by
 rcases h with ⟨_,rfl⟩|⟨_,_,_,rfl,_⟩<;>rfl
end Sh
end
end Go.Proofs.YtodgbdcjjhmnkaaGreatDoor
