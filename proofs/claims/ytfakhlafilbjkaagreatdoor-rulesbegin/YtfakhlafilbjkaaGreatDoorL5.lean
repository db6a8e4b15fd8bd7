/- L5 -/
import Derived.Test.YtfakhlafilbjkaaGreatDoorL4
set_option maxRecDepth 100000
set_option maxHeartbeats 1000000
namespace Go.Proofs.YtfakhlafilbjkaaGreatDoor
open Go.Proofs.Tryz
section
open Go.RowKit
open Sh
theorem ent181:aL prog 181:=λ_ _=>kr
theorem ent148:aL prog 148:=λ_ _=>kr
theorem ent180:aL prog 180:=λ_ _=>kr
theorem ent179:aL prog 179:=λ_ _=>kr
theorem ent147:aL prog 147:=λ_ _=>kr
theorem jn{P:Program}{G:Cls}{ro:Option Nat}{ops:Array Oper}{N:Nat}{ds:List Deferred}{fs:List Nat}{Z:Fr->Cls->Prop}{F:Fr}{C:Cls}{rest:List Oper}{d:Nat}{ty:TypeId}{pos:String}{af:Array Edge}{gd:Option (Nat×Bool)}{t:TypeId}{x ix:Operand}{s:ByteArray}{y:BitVec 64}(hb:y.toNat<256)(hT:Cv s=true)(hx:evF F x=some (.string s))(hi:evF F ix=some (U8 (y.setWidth 8)))(hu:P.underlying t=some .string)
 (hw:bq ops F ⟨some d,.index t x ix,ty,pos,af,gd⟩=some true) (hd:Nat.blt d N=true) (h: ∀q:BitVec 8,IsL y.toNat q.toNat->Lx P G ro ops N ds (EE fs) Z rest ((d,U8 q)::F) C):Lx P G ro ops N ds (EE fs) Z (⟨some d,.index t x ix,ty,pos,af,gd⟩::rest) F C:=by
 obtain ⟨q,hq,hL⟩:=yL hT hb;have e:(y.setWidth 8).toNat=y.toNat:=by rw[BitVec.toNat_setWidth,Nat.mod_eq_of_lt hb]
 exact Dp hx hi hu om (by rw[Int.toNat_natCast,e];exact hq) hw hd (h q hL)
theorem uk(x:BitVec 64)(w:World)(hw:Gt w):CLS 181 [U64 x].toArray w (λe w'=>e=.returned (I (ln x.toNat:Int))/\Grow w w'):=by
 have hS: ∀k,IsL x.toNat k->IsL x.toNat (k+0):=λk hk=>hk;have hb:x.toNat<4294967296*4294967296:=x.isLt;refine Hf func181 O hw<|λhGF=>Xp<|Asg O<|aa<|ah<|Xp<|Mv O<|?_;rcases Nat.lt_or_ge x.toNat 4294967296 with h|h
 ·have hb:=h
  refine Bnb false O O (λ_=>bS _ _ _) (by rw[decide_eq_false_iff_not,BitVec.le_def];exact Nat.not_le.2 h)<|aa<|aH O<|aw<|ah<|Xp<|Mv O<|?_
  rcases Nat.lt_or_ge x.toNat 65536 with h|h
  ·have hb:=h
   refine Bnb false O O (λ_=>bS _ _ _) (by rw[decide_eq_false_iff_not,BitVec.le_def];exact Nat.not_le.2 h)<|aa<|aH O<|aw<|ah<|Xp<|Mv O<|?_
   rcases Nat.lt_or_ge x.toNat 256 with h|h
   ·have hb:=h
    refine Bnb false O O (λ_=>bS _ _ _) (by rw[decide_eq_false_iff_not,BitVec.le_def];exact Nat.not_le.2 h)<|aa<|aH O<|aw<|Xp<|Mv O<|Mv O<|bI O O (λ_=>ci underlying22 underlying5 _) O O<|?_
    refine jn hb kr O O underlying9 O O (λq hL=> ?_);refine bI O O (λ_=>fV underlying5 underlying3 _) O O<|Bnr (v:=I (ln x.toNat:Int)) O O (λ_=>(ay _ _ _ (by have:=q.isLt;unfold inI;omega)).trans (by rw[(hS _ hL).eq];congr 2;omega))<|Asg O<|aa<|ao<|Rr<|?_
    exact ar O O (λw' hw'=>⟨rfl,ae hw'⟩)
   ·obtain ⟨y3,hy⟩: ∃y:BitVec 64,x>>>8=y:=⟨_,rfl⟩
    have hn:y3.toNat=x.toNat / 2^8:=by rw[<-hy,BitVec.toNat_ushiftRight,Nat.shiftRight_eq_div_pow]
    have hS: ∀k,IsL y3.toNat k->IsL x.toNat (k+8):=λk hk=>by have:=hS _ (IsL.shift 8 (hn▸hk) h);rw[Nat.add_assoc]at this;exact this
    have hb:y3.toNat<256:=by rw[hn];exact (Nat.div_lt_iff_lt_mul aC).2 hb
    clear hn;refine Bnb true O O (λ_=>bS _ _ _) (by rw[decide_eq_true_eq,BitVec.le_def];exact h)<|aa<|aQ O<|Xp<|Mv O<|Bnr (v:=U64 y3) O O (λ_=>(cI _ _ 8#64).trans (by rw[show (8#64).toNat=8 from O,hy]))<|Asg O<|aa<|Xq<|Mv O<|Bnr (v:=I 8) O O (λ_=>(ay _ _ _ (by unfold inI;decide)).trans aE)<|Asg O<|aa<|Xp<|Mv O<|Mv O<|bI O O (λ_=>ci underlying22 underlying5 _) O O<|?_
    refine jn hb kr O O underlying9 O O (λq hL=> ?_);refine bI O O (λ_=>fV underlying5 underlying3 _) O O<|Bnr (v:=I (ln x.toNat:Int)) O O (λ_=>(ay _ _ _ (by have:=q.isLt;unfold inI;omega)).trans (by rw[(hS _ hL).eq];congr 2;omega))<|Asg O<|aa<|ao<|Rr<|?_
    exact ar O O (λw' hw'=>⟨rfl,ae hw'⟩)
  ·obtain ⟨y2,hy⟩: ∃y:BitVec 64,x>>>16=y:=⟨_,rfl⟩
   have hn:y2.toNat=x.toNat / 2^16:=by rw[<-hy,BitVec.toNat_ushiftRight,Nat.shiftRight_eq_div_pow]
   have hS: ∀k,IsL y2.toNat k->IsL x.toNat (k+16):=λk hk=>by have:=hS _ (IsL.shift 16 (hn▸hk) h);rw[Nat.add_assoc]at this;exact this
   have hb:y2.toNat<65536:=by rw[hn];exact (Nat.div_lt_iff_lt_mul aC).2 hb
   clear hn;refine Bnb true O O (λ_=>bS _ _ _) (by rw[decide_eq_true_eq,BitVec.le_def];exact h)<|aa<|aQ O<|Xp<|Mv O<|Bnr (v:=U64 y2) O O (λ_=>(cI _ _ 16#64).trans (by rw[show (16#64).toNat=16 from O,hy]))<|Asg O<|aa<|Xq<|Mv O<|Bnr (v:=I 16) O O (λ_=>(ay _ _ _ (by unfold inI;decide)).trans aE)<|Asg O<|aa<|ah<|Xp<|Mv O<|?_
   rcases Nat.lt_or_ge y2.toNat 256 with h|h
   ·have hb:=h
    refine Bnb false O O (λ_=>bS _ _ _) (by rw[decide_eq_false_iff_not,BitVec.le_def];exact Nat.not_le.2 h)<|aa<|aH O<|aw<|Xp<|Mv O<|Mv O<|bI O O (λ_=>ci underlying22 underlying5 _) O O<|?_
    refine jn hb kr O O underlying9 O O (λq hL=> ?_);refine bI O O (λ_=>fV underlying5 underlying3 _) O O<|Bnr (v:=I (ln x.toNat:Int)) O O (λ_=>(ay _ _ _ (by have:=q.isLt;unfold inI;omega)).trans (by rw[(hS _ hL).eq];congr 2;omega))<|Asg O<|aa<|ao<|Rr<|?_
    exact ar O O (λw' hw'=>⟨rfl,ae hw'⟩)
   ·obtain ⟨y3,hy⟩: ∃y:BitVec 64,y2>>>8=y:=⟨_,rfl⟩
    have hn:y3.toNat=y2.toNat / 2^8:=by rw[<-hy,BitVec.toNat_ushiftRight,Nat.shiftRight_eq_div_pow]
    have hS: ∀k,IsL y3.toNat k->IsL x.toNat (k+24):=λk hk=>by have:=hS _ (IsL.shift 8 (hn▸hk) h);rw[Nat.add_assoc]at this;exact this
    have hb:y3.toNat<256:=by rw[hn];exact (Nat.div_lt_iff_lt_mul aC).2 hb
    clear hn;refine Bnb true O O (λ_=>bS _ _ _) (by rw[decide_eq_true_eq,BitVec.le_def];exact h)<|aa<|aQ O<|Xp<|Mv O<|Bnr (v:=U64 y3) O O (λ_=>(cI _ _ 8#64).trans (by rw[show (8#64).toNat=8 from O,hy]))<|Asg O<|aa<|Xq<|Mv O<|Bnr (v:=I 24) O O (λ_=>(ay _ _ _ (by unfold inI;decide)).trans aE)<|Asg O<|aa<|Xp<|Mv O<|Mv O<|bI O O (λ_=>ci underlying22 underlying5 _) O O<|?_
    refine jn hb kr O O underlying9 O O (λq hL=> ?_);refine bI O O (λ_=>fV underlying5 underlying3 _) O O<|Bnr (v:=I (ln x.toNat:Int)) O O (λ_=>(ay _ _ _ (by have:=q.isLt;unfold inI;omega)).trans (by rw[(hS _ hL).eq];congr 2;omega))<|Asg O<|aa<|ao<|Rr<|?_
    exact ar O O (λw' hw'=>⟨rfl,ae hw'⟩)
 ·obtain ⟨y1,hy⟩: ∃y:BitVec 64,x>>>32=y:=⟨_,rfl⟩
  have hn:y1.toNat=x.toNat / 2^32:=by rw[<-hy,BitVec.toNat_ushiftRight,Nat.shiftRight_eq_div_pow]
  have hS: ∀k,IsL y1.toNat k->IsL x.toNat (k+32):=λk hk=>by have:=hS _ (IsL.shift 32 (hn▸hk) h);rw[Nat.add_assoc]at this;exact this
  have hb:y1.toNat<4294967296:=by rw[hn];exact (Nat.div_lt_iff_lt_mul aC).2 hb
  clear hn;refine Bnb true O O (λ_=>bS _ _ _) (by rw[decide_eq_true_eq,BitVec.le_def];exact h)<|aa<|aQ O<|Xp<|Mv O<|Bnr (v:=U64 y1) O O (λ_=>(cI _ _ 32#64).trans (by rw[show (32#64).toNat=32 from O,hy]))<|Asg O<|aa<|Xq<|Asg O<|aa<|ah<|Xp<|Mv O<|?_
  rcases Nat.lt_or_ge y1.toNat 65536 with h|h
  ·have hb:=h
   refine Bnb false O O (λ_=>bS _ _ _) (by rw[decide_eq_false_iff_not,BitVec.le_def];exact Nat.not_le.2 h)<|aa<|aH O<|aw<|ah<|Xp<|Mv O<|?_
   rcases Nat.lt_or_ge y1.toNat 256 with h|h
   ·have hb:=h
    refine Bnb false O O (λ_=>bS _ _ _) (by rw[decide_eq_false_iff_not,BitVec.le_def];exact Nat.not_le.2 h)<|aa<|aH O<|aw<|Xp<|Mv O<|Mv O<|bI O O (λ_=>ci underlying22 underlying5 _) O O<|?_
    refine jn hb kr O O underlying9 O O (λq hL=> ?_);refine bI O O (λ_=>fV underlying5 underlying3 _) O O<|Bnr (v:=I (ln x.toNat:Int)) O O (λ_=>(ay _ _ _ (by have:=q.isLt;unfold inI;omega)).trans (by rw[(hS _ hL).eq];congr 2;omega))<|Asg O<|aa<|ao<|Rr<|?_
    exact ar O O (λw' hw'=>⟨rfl,ae hw'⟩)
   ·obtain ⟨y3,hy⟩: ∃y:BitVec 64,y1>>>8=y:=⟨_,rfl⟩
    have hn:y3.toNat=y1.toNat / 2^8:=by rw[<-hy,BitVec.toNat_ushiftRight,Nat.shiftRight_eq_div_pow]
    have hS: ∀k,IsL y3.toNat k->IsL x.toNat (k+40):=λk hk=>by have:=hS _ (IsL.shift 8 (hn▸hk) h);rw[Nat.add_assoc]at this;exact this
    have hb:y3.toNat<256:=by rw[hn];exact (Nat.div_lt_iff_lt_mul aC).2 hb
    clear hn;refine Bnb true O O (λ_=>bS _ _ _) (by rw[decide_eq_true_eq,BitVec.le_def];exact h)<|aa<|aQ O<|Xp<|Mv O<|Bnr (v:=U64 y3) O O (λ_=>(cI _ _ 8#64).trans (by rw[show (8#64).toNat=8 from O,hy]))<|Asg O<|aa<|Xq<|Mv O<|Bnr (v:=I 40) O O (λ_=>(ay _ _ _ (by unfold inI;decide)).trans aE)<|Asg O<|aa<|Xp<|Mv O<|Mv O<|bI O O (λ_=>ci underlying22 underlying5 _) O O<|?_
    refine jn hb kr O O underlying9 O O (λq hL=> ?_);refine bI O O (λ_=>fV underlying5 underlying3 _) O O<|Bnr (v:=I (ln x.toNat:Int)) O O (λ_=>(ay _ _ _ (by have:=q.isLt;unfold inI;omega)).trans (by rw[(hS _ hL).eq];congr 2;omega))<|Asg O<|aa<|ao<|Rr<|?_
    exact ar O O (λw' hw'=>⟨rfl,ae hw'⟩)
  ·obtain ⟨y2,hy⟩: ∃y:BitVec 64,y1>>>16=y:=⟨_,rfl⟩
   have hn:y2.toNat=y1.toNat / 2^16:=by rw[<-hy,BitVec.toNat_ushiftRight,Nat.shiftRight_eq_div_pow]
   have hS: ∀k,IsL y2.toNat k->IsL x.toNat (k+48):=λk hk=>by have:=hS _ (IsL.shift 16 (hn▸hk) h);rw[Nat.add_assoc]at this;exact this
   have hb:y2.toNat<65536:=by rw[hn];exact (Nat.div_lt_iff_lt_mul aC).2 hb
   clear hn;refine Bnb true O O (λ_=>bS _ _ _) (by rw[decide_eq_true_eq,BitVec.le_def];exact h)<|aa<|aQ O<|Xp<|Mv O<|Bnr (v:=U64 y2) O O (λ_=>(cI _ _ 16#64).trans (by rw[show (16#64).toNat=16 from O,hy]))<|Asg O<|aa<|Xq<|Mv O<|Bnr (v:=I 48) O O (λ_=>(ay _ _ _ (by unfold inI;decide)).trans aE)<|Asg O<|aa<|ah<|Xp<|Mv O<|?_
   rcases Nat.lt_or_ge y2.toNat 256 with h|h
   ·have hb:=h
    refine Bnb false O O (λ_=>bS _ _ _) (by rw[decide_eq_false_iff_not,BitVec.le_def];exact Nat.not_le.2 h)<|aa<|aH O<|aw<|Xp<|Mv O<|Mv O<|bI O O (λ_=>ci underlying22 underlying5 _) O O<|?_
    refine jn hb kr O O underlying9 O O (λq hL=> ?_);refine bI O O (λ_=>fV underlying5 underlying3 _) O O<|Bnr (v:=I (ln x.toNat:Int)) O O (λ_=>(ay _ _ _ (by have:=q.isLt;unfold inI;omega)).trans (by rw[(hS _ hL).eq];congr 2;omega))<|Asg O<|aa<|ao<|Rr<|?_
    exact ar O O (λw' hw'=>⟨rfl,ae hw'⟩)
   ·obtain ⟨y3,hy⟩: ∃y:BitVec 64,y2>>>8=y:=⟨_,rfl⟩
    have hn:y3.toNat=y2.toNat / 2^8:=by rw[<-hy,BitVec.toNat_ushiftRight,Nat.shiftRight_eq_div_pow]
    have hS: ∀k,IsL y3.toNat k->IsL x.toNat (k+56):=λk hk=>by have:=hS _ (IsL.shift 8 (hn▸hk) h);rw[Nat.add_assoc]at this;exact this
    have hb:y3.toNat<256:=by rw[hn];exact (Nat.div_lt_iff_lt_mul aC).2 hb
    clear hn;refine Bnb true O O (λ_=>bS _ _ _) (by rw[decide_eq_true_eq,BitVec.le_def];exact h)<|aa<|aQ O<|Xp<|Mv O<|Bnr (v:=U64 y3) O O (λ_=>(cI _ _ 8#64).trans (by rw[show (8#64).toNat=8 from O,hy]))<|Asg O<|aa<|Xq<|Mv O<|Bnr (v:=I 56) O O (λ_=>(ay _ _ _ (by unfold inI;decide)).trans aE)<|Asg O<|aa<|Xp<|Mv O<|Mv O<|bI O O (λ_=>ci underlying22 underlying5 _) O O<|?_
    refine jn hb kr O O underlying9 O O (λq hL=> ?_);refine bI O O (λ_=>fV underlying5 underlying3 _) O O<|Bnr (v:=I (ln x.toNat:Int)) O O (λ_=>(ay _ _ _ (by have:=q.isLt;unfold inI;omega)).trans (by rw[(hS _ hL).eq];congr 2;omega))<|Asg O<|aa<|ao<|Rr<|?_
    exact ar O O (λw' hw'=>⟨rfl,ae hw'⟩)
theorem Lt(n:Nat):IsL n (ln n):=by
 unfold ln;by_cases h0:n=0
 ·rw[if_pos h0];exact ⟨om,λe he=>om⟩
 ·rw[if_neg h0]
  exact ⟨(Nat.log2_lt h0).1 (Nat.lt_succ_self _),λe he=>(Nat.le_log2 h0).1 om⟩
theorem HY(n:Nat):dep n=min (ln (n-1)) 62:=by
 have h:=Lt (n-1);refine (vd om ?_ (λe he=>by have:=h.2 e om;have:=Nat.two_pow_pos e;omega)).symm
 rcases Nat.le_total (ln (n-1)) 62 with h6|h6
 ·rw[Nat.min_eq_left h6];exact .inr (by have:=h.1;omega)
 ·rw[Nat.min_eq_right h6];exact .inl O
theorem rO(n:Int)(hn:n<9223372036854775808)(w:World)(hw:Gt w):CLS 148 [I n].toArray w (λe w'=>e=.returned (I (dep n.toNat:Nat))/\Grow w w'):=by
 refine Hf func148 O hw<|λhGF=>Xp<|Asg O<|aa<|Xp<|Mv O<|vn (z:=(if n<1 then (1:Int)else n)) O O O O O<|Bnr (v:=I (((n.toNat-1:Nat):Int))) O O (λ_=>(bC _ _ _ (by unfold inI;split<;>omega)).trans (by congr 2;split<;>omega))<|bI O O (λ_=>dg underlying3 underlying22 _) O O<|Cc O ent181 (λw' _ hG=>uk _ w' hG)<|?_
 rw[BitVec.toNat_ofInt,show ((((n.toNat-1:Nat):Int) % ((2^64:Nat):Int)).toNat)=n.toNat-1 from by omega]
 refine ki (z:=(dep n.toNat:Int)) O O (by rw[HY];split<;>omega) O O<|Asg O<|aa<|ao<|Rr<|?_
 exact ar O O (λw' hw'=>⟨rfl,ae hw'⟩)
end
section
open Go.RowKit
open Sh
theorem ent114:aL prog 114:=λ_ _=>kr
abbrev LC(a:Option Addr)(len cap:Nat)(r:Rt):List Value:=.slice a len cap::r.map U8
abbrev LV(a:Option Addr)(len cap:Nat)(r:Rt):Value:=.agg (LC a len cap r).toArray
theorem fv{a:Option Addr}{len cap:Nat}{r:Rt}(hr:r.length=32):(LC a len cap r).length=33:=by rw[LC,List.length_cons,List.length_map,hr]
theorem pZ(a:Option Addr)(len cap:Nat)(r:Rt):(LC a len cap r).all (·.oneCell')=true:=by
 rw[LC,List.all_cons,bg];rfl
theorem zvL(w:World):(zeroValue 239).run prog w=.ok (LV none 0 0 Z0) w:=(zeroValue239 w).trans aE
theorem Jk(a:Option Addr)(len cap:Nat)(w:World):(Instr.build 239 #[(0,.slice a len cap)]).run prog w=.ok (LV a len cap Z0) w:=
 cY (c:=LC none 0 0 Z0) zvL underlying239 (lW O O sizeOf86 sizeOf27) [(0,.slice a len cap)] (by
  rw[mp (vs:=[.slice a len cap]) (off:=0) (size:=1) O O O (by show 1<=33;decide)]
  rfl) w
theorem E7(a:Option Addr)(len cap:Nat)(r:Rt)(hr:r.length=32)(w:World):(Instr.build 239 #[(0,.slice a len cap),(1,.agg (r.map U8).toArray)]).run prog w=.ok (LV a len cap r) w:=
 cY (c:=LC none 0 0 Z0) zvL underlying239 (lW O O sizeOf86 sizeOf27) [(0,.slice a len cap),(1,.agg (r.map U8).toArray)] (by
  rw[mp (vs:=[.slice a len cap]) (off:=0) (size:=1) O O O (by show 1<=33;decide),mp (vs:=r.map U8) (off:=1) (size:=32) O O (by rw[List.length_map,hr]) (by rw[List.length_map,hr];show 33<=33;decide),List.length_map,hr]
  simp[Instr.fill,Z0]) w
theorem lx{w:World}{b:Nat}{x:Value}{cs:List Value}(h:w.rangeAt b 0 (x::cs)):w.rangeAt b 1 cs:=λj v hv=>by
 have:=h (j+1) v (by simpa using hv)
 rw[show 0+(j+1)=1+j from by omega]at this
 exact this
theorem rZ{n:Nat}(h:n<=1000000):(BitVec.ofInt 64 (n:Int)).toNat=n:=by rw[BitVec.toNat_ofInt];omega
theorem uh{l:List Rt}{r:Rt}(hl:AllR l)(hr:r.length=32)(i:Nat):(l.getD i r).length=32:=by
 rw[List.getD_eq_getElem?_getD]
 cases h:l[i]? with
 |none=>exact hr
 |some x=>exact hl x (List.mem_of_getElem? h)
theorem A7{r:Rt}{l:List Rt}(k:Nat):AllR (UpK P2 r l k):=Db P2 (Q:=λx=>x.length=32) cZ r l k
theorem sU{l:List Rt}(hl:AllR l): ∀h,AllR (lev P2 Z0 h l)
 |0=>hl
 |_+1=>A7 _
theorem pO(l:List Rt)(hl:AllR l)(hn:l.length<=65536)(r:Rt)(hr:r.length=32)(a:Option Addr)(cap:Nat)(x:BitVec 64)(w:World)(hw:Gt w)(ha:RtsAt w a l):CLS 180 [LV a l.length cap r,U64 x].toArray w (λe w'=>e=.returned (.agg ((l.getD x.toNat r).map U8).toArray)/\Grow w w'):=by
 refine Hf func180 O hw<|λhGF=>Xp<|Bx 2 hGF O<|λb2=>Al 4 hGF zv27<|λb4=>aa<|ah<|Xp<|Mv O<|Fa 0 O underlying239 O sizeOf86<|aV 2 O O O isAgg86 O O<|bB O (λ_=>aO underlying86 _ _ _ _) O O<|bI O O (λ_=>dg underlying3 underlying22 _) O O<|?_;rcases Nat.lt_or_ge x.toNat l.length with h|h
 ·obtain ⟨y,hxy⟩: ∃y,l[x.toNat]? =some y:=⟨_,List.getElem?_eq_getElem h⟩
  have hy:y.length=32:=hl y (List.mem_of_getElem? hxy);obtain ⟨ad,rfl,hc⟩:=ha x.toNat y hxy;have hR:l.getD x.toNat r=y:=by rw[List.getD_eq_getElem?_getD,hxy];rfl
  refine Bnb true O O (λ_=>e6 _ _ _) (by rw[decide_eq_true_eq,BitVec.lt_def,rZ om];exact h)<|aa<|aQ O<|Xp<|Fa 0 O underlying239 O sizeOf86<|aV 2 O O O isAgg86 O O<|Mv O<|zd 32 O O underlying86 sizeOf27 h O O<|aP (cs:=y.map U8) O isAgg27 sizeOf27 (by rw[List.length_map];exact hy) (λw' h j v hv=>((ae h).cell (block_lt_of_cell (hc j v hv))).trans (hc j v hv)) O O<|ai 4 hGF O O O sizeOf27 (by rw[List.length_map];exact hy) (by rw[List.length_map];exact cL) (bg _) O<|aa<|ao<|Rr<|?_
  exact aF 4 O O O isAgg27 sizeOf27 (by rw[List.length_map];exact hy) (λw' hw'=>⟨by rw[hR],ae hw'⟩)
 ·have hR:l.getD x.toNat r=r:=oP r h
  refine Bnb false O O (λ_=>e6 _ _ _) (by rw[decide_eq_false_iff_not,BitVec.lt_def,rZ om];omega)<|aa<|aH O<|aw<|Xp<|Fa 1 O underlying239 O sizeOf27<|az (cs:=r.map U8) O isAgg27 sizeOf27 (by rw[List.length_map];exact hr) (λw' hw'=>lx (av (n:=2) O w' hw')) O O<|ai 4 hGF O O O sizeOf27 (by rw[List.length_map];exact hr) (by rw[List.length_map];exact cL) (bg _) O<|aa<|ao<|Rr<|?_
  exact aF 4 O O O isAgg27 sizeOf27 (by rw[List.length_map];exact hr) (λw' hw'=>⟨by rw[hR],ae hw'⟩)
theorem bv_n{n:Nat}(h:n<=1000000):BitVec.ofInt 64 (n:Int)=BitVec.ofNat 64 n:=by apply BitVec.eq_of_toNat_eq;rw[rZ h,BitVec.toNat_ofNat];omega
theorem nt{n:Nat}(h:n<=1000000):(BitVec.ofNat 64 n).toNat=n:=by rw[BitVec.toNat_ofNat];omega
theorem wS{n:Nat}(h:n<=1000000):(BitVec.ofNat 64 n / 2#64+BitVec.ofNat 64 n % 2#64).toNat=(n+1) / 2:=by
 rw[BitVec.toNat_add,BitVec.toNat_udiv,BitVec.toNat_umod,nt h];show (n / 2+n % 2) % 18446744073709551616=_;omega
theorem Aw{n:Nat}:BitVec.ofNat 64 n+1#64=BitVec.ofNat 64 (n+1):=by rw[BitVec.ofNat_add]
theorem zZ{n:Nat}:BitVec.ofNat 64 n+2#64=BitVec.ofNat 64 (n+2):=by rw[BitVec.ofNat_add]
structure UpS(r:Rt)(l:List Rt) where
 (k b cap:Nat) (c:List Value)
 hk:k<=((l.length+1) / 2)
 hc:c.length=cap*32
 hn:k<=cap
 ht:c.take (32*k)=(UpK P2 r l k).flatten.map U8
theorem Bw{r:Rt}{l:List Rt}(k:Nat):((UpK P2 r l k).flatten.map U8).length=k*32:=by rw[List.length_map,cR _ (A7 k),mL,Nat.mul_comm]
theorem wK{r:Rt}{l:List Rt}{k:Nat}:(UpK P2 r l (k+1)).flatten.map U8=(UpK P2 r l k).flatten.map U8++(P2 (l.getD (2*k) r) (l.getD (2*k+1) r)).map U8:=by
 rw[zV,List.flatten_append,List.map_append];simp
theorem HM{s:Nat}{x:L8}(hx:x.length=s):RW s (λ_=>x) 1=x:=by
 rw[oq (λ_=>x) 0 hx,show RW s (λ_=>x) 0=[]from by simp[RW],List.nil_append]
def UpR(w w':World)(v:Value)(l:List Rt)(r:Rt):Prop:= ∃b c cap,v=LV (spt b) l.length cap r/\w.heap.size<=b/\OwnB w' b c 27/\c.take (32*l.length)=l.flatten.map U8
theorem Ap(l:List Rt)(hl:AllR l)(hn:l.length<=65536)(r:Rt)(hr:r.length=32)(a:Option Addr)(cap:Nat)(w:World)(hw:Gt w)(ha:RtsAt w a l):CLS 179 [LV a l.length cap r].toArray w (λe w'=> ∃v,e=.returned v/\Grow w w'/\UpR w w' v (upL P2 r l) (P2 r r)):=by
 refine Hf func179 O hw<|λhGF=>Xp<|Bx 1 hGF O<|λb1=>Al 2 hGF zvL<|λb2=>aa<|Xp<|Fa 0 O underlying239 O sizeOf86<|aV 1 O O O isAgg86 O O<|bB O (λ_=>aO underlying86 _ _ _ _) O O<|bI (v:=U64 (BitVec.ofNat 64 l.length)) O O (λ_=>(dg underlying3 underlying22 _).trans (by rw[bv_n om])) O O<|Asg O<|aa<|?_
 refine Ig (ι:=Nat×Nat) (λz=>[(1,pnt b1),(2,pnt b2),(3,U64 (BitVec.ofNat 64 l.length)),(4,pnt z.2)]) (λz=>[(1,b1,LC a l.length cap r,239),(2,b2,LC none 0 0 Z0,239),(4,z.2,LC (spt z.1) 0 ((l.length+1) / 2) (P2 r r),239),(15,z.1,(List.replicate (32*((l.length+1) / 2)) 0#8).map U8,27)]) hGF ?_ ?_
 ·refine vu (EE [2999995,2999999]) de kr kr<|bM (m:=4) [0,1,2,3,4,6,7,8,9,10] kr<|Mv O<|Bnr O O (λ_=>ik _ _ _ aC)<|Mv O<|Bnr O O (λ_=>fg _ _ _ aC)<|Bnr O O (λ_=>aM _ _ _)<|Fa 1 O underlying239 O sizeOf27<|az (cs:=r.map U8) O isAgg27 sizeOf27 (by rw[List.length_map];exact hr) (λw' hw'=>lx (av (n:=1) O w' hw')) O O<|Fa 1 O underlying239 O sizeOf27<|az (cs:=r.map U8) O isAgg27 sizeOf27 (by rw[List.length_map];exact hr) (λw' hw'=>lx (av (n:=1) O w' hw')) O O<|Cc O ent118 (λw' _ hG=>k9 r r hr hr w' hG)<|?_
  rw[show SHA (r++r)=P2 r r from O];refine aa<|jy (m:=3) [5,12] kr kr aC<|?_;intro i hi;simp only[List.mem_cons,List.not_mem_nil,or_false]at hi;rcases hi with rfl|rfl
  ·exact un (l:=0) (m:=((l.length+1) / 2)) (c:=(List.replicate (32*((l.length+1) / 2)) 0#8).map U8) 15 hGF O O O (wS om) (Nat.zero_le _) underlying86 tiR ⟨om,om,om⟩ (qa _) O O<|λb15=>aa<|bM (m:=2) [11] kr<|cj (ps:=[(0,.tmp 15),(1,.tmp 20)]) (vs:=[.slice (spt b15) 0 ((l.length+1) / 2),.agg ((P2 r r).map U8).toArray]) O (λw=>E7 _ _ _ _ (cZ _ _) w) O O<|aa<|bM (m:=1) [12] kr<|nB 4 hGF zvL O O O<|λb4=>aa<|bM (m:=0) [13] kr<|ai 4 hGF O O O sizeOf239 (fv (cZ _ _)) (fv cL) (pZ _ _ _ _) O<|aa<|fO kr<|aY<|⟨rfl,(b15,b4),_,rfl,trv,trv⟩
  ·exact nB 4 hGF zvL O O O<|λb4=>aa<|bM (m:=2) [5] kr<|un (l:=0) (m:=((l.length+1) / 2)) (c:=(List.replicate (32*((l.length+1) / 2)) 0#8).map U8) 15 hGF O O O (wS om) (Nat.zero_le _) underlying86 tiR ⟨om,om,om⟩ (qa _) O O<|λb15=>aa<|bM (m:=1) [11] kr<|cj (ps:=[(0,.tmp 15),(1,.tmp 20)]) (vs:=[.slice (spt b15) 0 ((l.length+1) / 2),.agg ((P2 r r).map U8).toArray]) O (λw=>E7 _ _ _ _ (cZ _ _) w) O O<|aa<|bM (m:=0) [13] kr<|ai 4 hGF O O O sizeOf239 (fv (cZ _ _)) (fv cL) (pZ _ _ _ _) O<|aa<|fO kr<|aY<|⟨rfl,(b15,b4),_,rfl,trv,trv⟩
 ·rintro ⟨b15,b4⟩
  dsimp only;refine ah<|Xp<|Asg O<|aa<|au<|bW (ι:=UpS r l) (λx=>[(1,pnt b1),(2,pnt b2),(3,U64 (BitVec.ofNat 64 l.length)),(4,pnt b4),(5,U64 (BitVec.ofNat 64 (2*x.k)))]) (λx=>[(1,b1,LC a l.length cap r,239),(2,b2,LC none 0 0 Z0,239),(4,b4,LC (spt x.b) x.k x.cap (P2 r r),239),(15,x.b,x.c,27)]) (λx=>((l.length+1) / 2)-x.k) ⟨0,b15,((l.length+1) / 2),(List.replicate (32*((l.length+1) / 2)) 0#8).map U8,Nat.zero_le _,by rw[List.length_map,List.length_replicate,Nat.mul_comm],Nat.zero_le _,aE⟩ hGF trv trv<|?_
  rintro ⟨k,bb,cp,c,hk,hc,hkc,ht⟩;dsimp only;refine ah<|Xp<|Mv O<|Mv O<|?_;rcases Nat.lt_or_ge (2*k) l.length with hlt|hge
  ·refine Bnb true O O (λ_=>e6 _ _ _) (by rw[decide_eq_true_eq,BitVec.lt_def,nt om,nt om];exact hlt)<|aa<|aQ O<|aw<|ah<|au<|Xe [2999998]<|Fa 0 O underlying239 O sizeOf86<|aV 4 O O O isAgg86 O O<|aq 1 O O isAgg239 sizeOf239 (fv hr) O O<|Mv O<|Cc O ent180 (λw' hw' hG=>pO l hl hn r hr a cap _ w' hG (ha.grow (ae hw')))<|?_
   rw[nt om];refine aq 1 O O isAgg239 sizeOf239 (fv hr) O O<|Mv O<|Bnr (v:=U64 (BitVec.ofNat 64 (2*k+1))) O O (λ_=>(aM _ _ _).trans (by rw[Aw]))<|Cc O ent180 (λw' hw' hG=>pO l hl hn r hr a cap _ w' hG (ha.grow (ae hw')))<|?_
   rw[nt om];refine Cc O ent118 (λw' _ hG=>k9 _ _ (uh hl hr _) (uh hl hr _) w' hG) ?_;rw[show SHA (l.getD (2*k) r++l.getD (2*k+1) r)=(P2 (l.getD (2*k) r) (l.getD (2*k+1) r))from O];refine ku (uf:=U8) (s:=32) 37 (λ_=>(P2 (l.getD (2*k) r) (l.getD (2*k+1) r))) (List.replicate 32 0#8) hGF O O O (λi hi=>cZ _ _) aC aC underlying86 sizeOf27 O zv27 O O ?_;intro b37;rw[HM (cZ _ _)];refine lE (s:=32) (nx:=k) (ny:=1) (xs:=(UpK P2 r l k).flatten.map U8) (ys:=(P2 (l.getD (2*k) r) (l.getD (2*k+1) r)).map U8) 15 hGF O O underlying86 underlying86 tiR O (.inr ⟨bb,c,rfl,rfl,hc,hkc,Bw k,by rw[Bw,Nat.mul_comm];exact ht⟩) (by rw[List.length_map,cZ]) (λw' h=>av (n:=37) O w' h) (bg _) aC om om O O (λb9 c9 cap9 e9 l9 t9=> ?_)
   refine Fa 0 O underlying239 O sizeOf86<|cC 4 hGF O O O sizeOf86 O aB O<|aa<|Xq<|Mv O<|Bnr (v:=U64 (BitVec.ofNat 64 (2*(k+1)))) O O (λ_=>(aM _ _ _).trans (by rw[zZ];rfl))<|Asg O<|aa<|?_
   repeat (refine bh ?_)
   exact aY<|⟨rfl,⟨k+1,b9,cap9,c9,om,e9,l9,by rw[wK,<-t9,<-wK,Bw,Nat.mul_comm]⟩,_,by show ((l.length+1) / 2)-(k+1)<((l.length+1) / 2)-k;omega,rfl,trv,trv⟩
  ·obtain rfl:k=((l.length+1) / 2):=om
   refine Bnb false O O (λ_=>e6 _ _ _) (by rw[decide_eq_false_iff_not,BitVec.lt_def,nt om,nt om];omega)<|aa<|aH O<|bv<|Xp<|aq 4 O O isAgg239 sizeOf239 (fv (cZ _ _)) O O<|ai 2 hGF O O O sizeOf239 (fv (cZ _ _)) (fv cL) (pZ _ _ _ _) O<|aa<|ao<|Rr<|?_
   exact aF 2 O O O isAgg239 sizeOf239 (fv (cZ _ _)) (λw' hw'=>⟨_,rfl,ae hw',bb,c,cp,by rw[upL,mL],(hw'.own 15 _ _ _ O).2.elim id False.elim,(hw'.own 15 _ _ _ O).1,by rw[upL,mL];exact ht⟩)
end
section
open Go.RowKit
open Sh
structure TopS(w:World)(l:List Rt)(D b4 b5:Nat) where
 (h:Nat) (a:Option Addr) (cap:Nat) (own:Hl)
 hD:h<=D
 hR: ∀w',Hp (pl w) ((4,b4,Z0.map U8,27)::(5,b5,LC a (lev P2 Z0 h l).length cap (zrT P2 Z0 h),239)::own) w'->RtsAt w' a (lev P2 Z0 h l)
theorem DJ{n b:Nat}{c:List Value}{t:TypeId}{w w':World}(h1:w.heap.size<=b)(h2:OwnB w' b c t): ∀n' b' c' t',lkB [(n,b,c,t)] n'=some (b',c',t')->w.heap.size<=b'/\OwnB w' b' c' t':=λn' b' c' t' hl=>by
 rcases bx hl with ⟨_,e⟩|⟨_,hl⟩
 ·cases e;exact ⟨h1,h2⟩
 ·cases hl
theorem Kv(h:Nat)(l:List Rt):lev P2 Z0 (h+1) l=upL P2 (zrT P2 Z0 h) (lev P2 Z0 h l):=rfl
theorem Km(h:Nat):zrT P2 Z0 (h+1)=P2 (zrT P2 Z0 h) (zrT P2 Z0 h):=rfl
theorem yX(D:Nat)(hD64:D<=64)(l:List Rt)(hl:AllR l)(hn:l.length<=65536)(a:Option Addr)(cap:Nat)(w:World)(hw:Gt w)(ha:RtsAt w a l):CLS 147 [.slice a l.length cap,I (D:Int)].toArray w (λe w'=>e=.returned (.agg ((tre P2 Z0 D l).map U8).toArray)/\Grow w w'):=by
 refine Hf func147 O hw<|λhGF=>am (E:=EE [179])<|Al 4 hGF zv27<|λb4=>aa<|am (E:=EE [179])<|Mv O<|cj (ps:=[(0,.tmp 6)]) (vs:=[.slice a l.length cap]) O (λw=>Jk _ _ _ w) O O<|Al 5 hGF zvL<|λb5=>ai 5 hGF O O O sizeOf239 (fv (cL)) (fv (cL)) (pZ _ _ _ _) O<|aa<|ah<|am (E:=EE [179])<|Mv O<|Mv O<|aa<|au<|bW (ι:=TopS w l D b4 b5) (λx=>[(4,pnt b4),(5,pnt b5),(8,I (D:Int)),(9,I (x.h:Int))]) (λx=>(4,b4,Z0.map U8,27)::(5,b5,LC x.a (lev P2 Z0 x.h l).length x.cap (zrT P2 Z0 x.h),239)::x.own) (λx=>D-x.h) ⟨0,a,cap,[],Nat.zero_le _,λw' hw'=>ha.grow (ae hw')⟩ hGF trv trv<|?_;rintro ⟨h,a,cap,own,hD,hR⟩;dsimp only;refine am (E:=EE [179]) ?_;rcases Nat.lt_or_ge h D with hlt|hge
 ·refine Bnb true O O (λ_=>aI _ _ _) (by simp;omega)<|aa<|ah<|aQ O<|aw<|ah<|au<|cv (E:=EE [179])<|aq 5 O O isAgg239 sizeOf239 (fv (fu _)) O O<|?_
  refine cn O O ent179 O O (λw' hw'=>(Ap _ (sU hl h) (Nat.le_trans (sS P2 Z0 h l) hn) _ (fu h) _ _ w' (hGF.g _ _ _ hw') (hR w' hw')).mono λe1 w2 h9=> ?_);obtain ⟨_,rfl,hg,b9,c9,cap9,rfl,hb9,ho9,ht9⟩:=h9;rw[<-Kv]at ht9⊢;rw[<-Km];refine ⟨_,_,rfl,aU hGF,hw'.news aJ hg [(12,b9,c9,27)] (DJ hb9 ho9) cE, ?_⟩;clear hw' hg hb9 ho9;refine ai 5 hGF O O O sizeOf239 (fv (fu _)) (fv (fu _)) (pZ _ _ _ _) O<|aa<|cv (E:=EE [179])<|Bnr (v:=I (((h+1:Nat):Int))) O O (λ_=>(ay _ _ _ aG).trans aE)<|Mv O<|aa<|?_
  repeat (refine bh ?_)
  exact aY<|⟨rfl,⟨h+1,some ⟨b9,0,none⟩,cap9,[(12,b9,c9,27)],hlt,λw' hw'=>n8 (sU hl (h+1)) (av (n:=12) O w' hw') ht9⟩,_,by show D-(h+1)<D-h;omega,rfl,trv,trv⟩
 ·obtain rfl:h=D:=om
  refine Bnb false O O (λ_=>aI _ _ _) (by rw[decide_eq_false_iff_not];omega)<|aa<|ah<|aH O<|bv<|am (E:=EE [179])<|aq 5 O O isAgg239 sizeOf239 (fv (fu _)) O O<|Cc O ent180 (λw' hw' hG=>pO _ (sU hl h) (Nat.le_trans (sS P2 Z0 h l) hn) _ (fu h) _ _ 0#64 w' hG (hR w' hw'))<|?_
  rw[show (0#64).toNat=0 from O,DO];refine ai 4 hGF O O O sizeOf27 (by rw[List.length_map];exact cz hl _) (by rw[List.length_map];exact cL) (bg _) O<|aa<|ao<|Rr<|?_
  exact aF 4 O O O isAgg27 sizeOf27 (by rw[List.length_map];exact cz hl _) (λw' hw'=>⟨rfl,ae hw'⟩)
theorem xu(n:Int)(h63:n<9223372036854775808)(l:List Rt)(hl:AllR l)(len:Nat)(hlen:l.length=len)(hln:len<=65536)(a:Option Addr)(cap:Nat)(hn: ¬n.toNat<len)(w:World)(hw:Gt w)(hr:RtsAt w a l):CLS 114 [.slice a len cap,I n].toArray w (λe w'=>e=.returned (.tuple #[.agg ((tre P2 Z0 (dep n.toNat) l).map U8).toArray,I 0])/\Grow w w'):=by
 refine Hf func114 O hw<|λhGF=>Xp<|Al 4 hGF zv27<|λb4=>Asg O<|aa<|Xp<|Mv O<|vn (z:=(if n<0 then (0:Int)else n)) O O O O O<|Asg O<|aa<|ah<|Xp<|Mv O<|bB O (λ_=>aO underlying86 _ _ _ _) O O<|Mv O<|Bnb false O O (λ_=>dE _ _ _) (by rw[decide_eq_false_iff_not];split<;>omega)<|aa<|aH O<|aw<|Xp<|Mv O<|Mv O<|Cc O ent148 (λw' _ hG=>rO (if n<0 then (0:Int)else n) (by split<;>omega) w' hG)<|?_
 rw[show (if n<0 then (0:Int)else n).toNat=n.toNat from by split<;>omega]
 refine Cc O ent147 (λw' hw' hG=>by have:=yX (dep n.toNat) (by have:=(nk n.toNat).1;omega) l hl om a cap w' hG (hr.grow (ae hw'));rw[hlen]at this;exact this)<|ai 4 hGF O O O sizeOf27 (by rw[List.length_map];exact cz hl _) (by rw[List.length_map];exact cL) (bg _) O<|Asg O<|aa<|ao<|Rr<|?_
 exact co 4 O O O O isAgg27 sizeOf27 (by rw[List.length_map];exact cz hl _) (λw' hw'=>⟨rfl,ae hw'⟩)
end
section
open Go.RowKit
open Sh
theorem ent117:aL prog 117:=λ_ _=>kr
theorem ent149:aL prog 149:=λ_ _=>kr
theorem ent81:aL prog 81:=λ_ _=>kr
structure StH(w:World)(bc bi n:Nat)(x:BitVec 64):Prop where
 c:OwnB w bc [I (n:Int)] 3
 i:OwnB w bi [U64 x] 22
def StV(x:BitVec 64)(n:Nat):List (List Value):=(List.range n).map λ(i:Nat)=>[I (i:Int),.bool (x.toNat.testBit i)]
theorem ss(x:BitVec 64)(n:Nat):(StV x n).length=n:=by rw[StV,List.length_map,List.length_range]
theorem vV(x:BitVec 64)(n i:Nat)(h:i<n):(StV x n)[i]? =some [I (i:Int),.bool (x.toNat.testBit i)]:=by rw[StV,List.getElem?_map,List.getElem?_range h];rfl
theorem Gi{x:BitVec 64}{n i:Nat}{v:List Value}(h:(StV x n)[i]? =some v):i<n/\[I (i:Int),.bool (x.toNat.testBit i)]=v:=by
 have hi:i<n:=by
  rcases Nat.lt_or_ge i n with hk|hk
  ·exact hk
  ·rw[List.getElem?_eq_none (by rw[ss];exact hk)]at h;cases h
 exact ⟨hi,Option.some.inj ((vV x n i hi).symm.trans h)⟩
theorem row2{n m b1 b2:Nat}{c1 c2:List Value}{t1 t2:TypeId}{w w':World}(h1:w.heap.size<=b1)(h2:w.heap.size<=b2)(o1:OwnB w' b1 c1 t1)(o2:OwnB w' b2 c2 t2): ∀n' b' c' t',lkB [(n,b1,c1,t1),(m,b2,c2,t2)] n'=some (b',c',t')->w.heap.size<=b'/\OwnB w' b' c' t':=λn' b' c' t' hl=>by
 rcases bx hl with ⟨_,e⟩|⟨_,hl⟩
 ·cases e;exact ⟨h1,o1⟩
 ·rcases bx hl with ⟨_,e⟩|⟨_,hl⟩
  ·cases e;exact ⟨h2,o2⟩
  ·cases hl
theorem tE(x:BitVec 64)(n:Nat)(w:World)(hw:Gt w):CLS 117 [U64 x,I (n:Int)].toArray w (λe w'=> ∃bc bi,e=.returned (.func (.func 149) #[] #[pnt bc,pnt bi])/\Grow w w'/\w.heap.size<=bc/\w.heap.size<=bi/\bc≠bi/\StH w' bc bi (n) x):=by
 refine Hf func117 O hw<|λhGF=>Xp<|gH 2 hGF O O O<|λb2=>gH 3 hGF O O O<|λb3=>Asg O<|aa<|Xp<|dV O O O O<|Asg O<|aa<|ao<|Rr<|?_;exact ar O O (λw' hw'=>⟨b3,b2,rfl,ae hw',(hw'.own 3 _ _ _ O).2.elim id False.elim,(hw'.own 2 _ _ _ O).2.elim id False.elim,λe=>by subst e;exact absurd (hw'.inj 3 2 _ _ _ _ _ O O) aC,(hw'.own 3 _ _ _ O).1,(hw'.own 2 _ _ _ O).1⟩)
theorem yf(bc bi n:Nat)(hn:n<=65536)(x:BitVec 64):jH prog Gt 149 [pnt bc,pnt bi] (StV x n) (λw=>StH w bc bi n x):=by
 intro l J Jx hJ hJx hRd hGx hY w hj;have okJ: ∀k,BOk Gt (Bi w (λY=>J Y k)):=λk=>⟨λ_ _ _ h=>(hRd _ _ _ h.rid).1,hJ k⟩;have okX: ∀k,BOk Gt (Bi w (λY=>Jx Y k)):=λk=>⟨λ_ _ _ h=>hGx _ _ _ h.rid,hJx k⟩;have c1: ∀k L w',Hp (Bi w (λY=>J Y k)) L w'->StH w' bc bi n x:=λk L w' h=>(hRd _ _ _ h.rid).2;refine eM (G:=Gt) func149 O O (Hp (Bi w (λY=>J Y 0)) []) (cO (Bi w _) hj (hJ 0)) (aU (okJ 0))<|Xp<|aT O isAgg3 (λw h=>(c1 _ _ w h).c.cell 0) O O<|Mv O<|aa<|au<|j0 (ι:={i:Nat // i<=n}) (λy=>[(0,.func (.yield l) #[] #[]),(1,pnt bc),(2,pnt bi),(5,I (n:Int)),(6,I (y.1:Int))]) (λy=>Bi w (λY=>J Y y.1)) (λy=>[]) (λy=>n-y.1) ⟨0,Nat.zero_le _⟩ (λ_=>okJ _) O trv trivial<|?_;rintro ⟨i,hi⟩;dsimp only;refine Xp ?_;rcases Nat.lt_or_ge i n with hlt|hge
 ·refine Bnb true O O (λ_=>aI _ _ _) (by simp;omega)<|aa<|ah<|aQ O<|aw<|ah<|au<|Xp<|Mv O<|Asg O<|aa<|Xp<|Mv O<|Mv O<|aT O isAgg22 (λw h=>(c1 _ _ w h).i.cell 0) O O<|Mv O<|Bnr O O (λ_=>cB _ _ _ om)<|Bnr O O (λ_=>ee _ _ _)<|Bnr (v:=.bool (x.toNat.testBit i)) O O (λ_=>(bA _ _ 1#64).trans (by rw[Int.toNat_natCast,vL]))<|?_
  refine e5 (hY.b (k:=i) (vV x n i hlt) w) (okJ _) (okX _) O O O O O ?_ ?_
  ·refine bV O (λ_=>bP _) O O<|aa<|aH O<|aw<|Xq<|Bnr (v:=I (((i+1:Nat):Int))) O O (λ_=>(ay _ _ _ aG).trans aE)<|Mv O<|aa<|?_
   repeat (refine bh ?_)
   exact aY<|⟨rfl,⟨i+1,hlt⟩,_,by show n-(i+1)<n-i;omega,rfl,trv,trivial⟩
  ·refine bV O (λ_=>bP _) O O<|aa<|aQ O<|ao<|Rr<|?_
   repeat (first|refine iT ?_|refine iq ?_|refine ip O ?_|refine da ?_|refine db ?_)
   exact em O (λw hw=>⟨⟨_,rfl⟩,.inr ⟨_,di (hJx _) hw.rid⟩⟩)
 ·obtain rfl:i=n:=om
  refine Bnb false O O (λ_=>aI _ _ _) (by rw[decide_eq_false_iff_not];omega)<|aa<|ah<|aH O<|bv<|?_
  repeat (first|refine iT ?_|refine iq ?_|refine ip O ?_|refine da ?_|refine db ?_)
  refine ec O (λw hw=>⟨⟨_,rfl⟩,.inl ?_⟩);have:=di (hJ _) hw.rid;rw[ss];exact this
theorem Gx{v0:Rt}{b:List Rt}{x:BitVec 64}{root:Rt}(h: ¬x>>>b.length=0#64):vfy v0 b x root=false:=by
 have h6:b.length<64:=by
  rcases Nat.lt_or_ge b.length 64 with h1|h1
  ·exact h1
  ·exact absurd (by apply BitVec.eq_of_toNat_eq;rw[BitVec.toNat_ushiftRight,Nat.shiftRight_eq_div_pow,Nat.div_eq_of_lt (Nat.lt_of_lt_of_le x.isLt (Nat.pow_le_pow_right aC h1))];rfl) h
 unfold vfy;rw[show decide (64<=b.length)=false from decide_eq_false om,Bool.false_or,beq_eq_false_iff_ne.2 h,Bool.and_false]
theorem Da{v0:Rt}{b:List Rt}{x:BitVec 64}{root:Rt}(h:x>>>b.length=0#64):vfy v0 b x root=decide (fld P2 x.toNat 0 v0 b=root):=by
 unfold vfy;rw[h];simp
theorem uD(v0:Rt)(hv0:v0.length=32)(b:List Rt)(hl:AllR b)(hln:b.length<=65536)(a:Option Addr)(cap:Nat)(x:BitVec 64)(root:Rt)(hroot:root.length=32)(w:World)(hw:Gt w)(hr:RtsAt w a b):
 CLS 81 [.agg (v0.map U8).toArray,.slice a b.length cap,U64 x,.agg (root.map U8).toArray].toArray w (λe w'=>e=.returned (.bool (vfy v0 b x root))/\Grow w w'):=by
 have hGF:BOk Gt (pl w):=gt_low.plain hw;refine fc (G:=Gt) func81 O O (Hp (pl w) []) (cO (pl w) trivial aJ) (aU hGF)<|am (E:=EE [117])<|Bx 4 hGF O<|λb4=>gH 5 hGF O O O<|λb5=>Bx 7 hGF O<|λb7=>Asg O<|aa<|ah<|am (E:=EE [117])<|Mv O<|aV 5 O O O isAgg86 O O<|bB O (λ_=>aO underlying86 _ _ _ _) O O<|Bnr (v:=U64 (x>>>b.length)) O O (λ_=>(cB _ _ _ om).trans (by rw[Int.toNat_natCast]))<|?_
 by_cases hz:x>>>b.length=0#64
 ·refine Bnb false O O (λ_=>kI _ _ _) (by rw[hz];rfl)<|aa<|aH O<|aw<|am (E:=EE [117])<|aq 4 O O isAgg27 sizeOf27 (by rw[List.length_map];exact hv0) O O<|Al 9 hGF zv27<|λb9=>ai 9 hGF O O O sizeOf27 (by rw[List.length_map];exact hv0) (by rw[List.length_map];exact cL) (bg _) O<|aa<|ah<|am (E:=EE [117])<|Mv O<|aV 5 O O O isAgg86 O O<|bB O (λ_=>aO underlying86 _ _ _ _) O O<|?_
  refine cn O O ent117 O O (λw1 hC=>(tE x b.length w1 (hGF.g _ _ _ hC)).mono λe1 w2 h=> ?_);obtain ⟨bc,bi,rfl,hg,h1,h2,hne,hs⟩:=h;refine ⟨_,_,rfl,aU hGF,hC.news aJ hg [(101,bc,_,3),(102,bi,_,22)] (row2 h1 h2 hs.c hs.i) (oe hne), ?_⟩;clear hC hg h1 h2 hs hne;refine aa<|au<|?_;refine j1 (λ_=>pl w) (λ_ _=>pl w) (λ_=>hGF) (λ_ _=>hGF) (λ_=>rfl) (λ_ _=>rfl) O O ent149 (yf bc bi b.length om x) (λv hv=>by obtain ⟨k,hk,rfl⟩:=List.mem_map.1 hv;rfl) O (λk=>[(4,b4,v0.map U8,27),(5,b5,[.slice a b.length cap],86),(7,b7,root.map U8,27),(9,b9,(fld P2 x.toNat 0 v0 (b.take k)).map U8,27),(101,bc,[I (b.length:Int)],3),(102,bi,[U64 x],22)]) (λ_ _ _=>False) trv (λk _ w' h=>⟨(h.own 101 _ _ _ O).1,(h.own 102 _ _ _ O).1⟩) ?_ ?_ (λ_ _ _ _ _ h=>h.elim)
  ·intro k v hv R hR
   have hgw: ∀L w',Hp (R.b (pl w)) L w'->Grow w w':=λL w' h=>((hR (pl w) O hGF).2.2 _ _ _ h).elim λ_ h2=>h2.below (λ_ h=>h);obtain ⟨hk,rfl⟩:=Gi hv;obtain ⟨y,hby⟩: ∃y,b[k]? =some y:=⟨_,List.getElem?_eq_getElem hk⟩;have hy:y.length=32:=hl y (List.mem_of_getElem? hby);obtain ⟨ad,rfl,hyc⟩:=hr k y hby;have hstep:=my P2 (i:=x.toNat) v0 hby;have hbk:x.toNat.testBit k=true->k<64:=λh=>by rcases Nat.lt_or_ge k 64 with h1|h1;exact h1;rw[Nat.testBit_lt_two_pow (Nat.lt_of_lt_of_le x.isLt (Nat.pow_le_pow_right aC h1))]at h;cases h
   cases hbit:x.toNat.testBit k
   ·have hst:fld P2 x.toNat 0 v0 (b.take (k+1))=P2 (fld P2 x.toNat 0 v0 (b.take k)) y:=by rw[hstep,FQ P2 _ _ hbit]
    refine am (E:=EE [117])<|Asg O<|aa<|cv (E:=EE [117])<|Asg O<|aa<|?_;refine ⟨rfl,_,rfl, ?_⟩;refine au<|am (E:=EE [117])<|Mv O<|aa<|aH O<|Xe [117]<|aq 9 O O isAgg27 sizeOf27 (by rw[List.length_map];exact i5 _ _ _ hv0) O O<|aV 5 O O O isAgg86 O O<|Mv O<|dJ k 32 O O underlying86 sizeOf27 O om O O<|aP (cs:=y.map U8) O isAgg27 sizeOf27 (by rw[List.length_map];exact hy) (λw' h j v hv=>((hgw _ w' h).cell (block_lt_of_cell (hyc j v hv))).trans (hyc j v hv)) O O<|Cc O ent118 (λw' _ hG=>k9 (fld P2 x.toNat 0 v0 (b.take k)) y (i5 _ _ _ hv0) hy w' hG)<|?_
    rw[show SHA ((fld P2 x.toNat 0 v0 (b.take k))++y)=P2 (fld P2 x.toNat 0 v0 (b.take k)) y from O,<-hst];refine ai 9 (hR (pl w) O hGF).2.1 O O O sizeOf27 (by rw[List.length_map];exact i5 _ _ _ hv0) (by rw[List.length_map];exact i5 _ _ _ hv0) (bg _) O<|aa<|?_
    repeat (refine bh ?_)
    exact ⟨_,rfl,trv⟩
   ·have hst:fld P2 x.toNat 0 v0 (b.take (k+1))=P2 y (fld P2 x.toNat 0 v0 (b.take k)):=by rw[hstep,Ff P2 _ _ (hbk hbit) hbit]
    refine am (E:=EE [117])<|Asg O<|aa<|cv (E:=EE [117])<|Asg O<|aa<|?_;refine ⟨rfl,_,rfl, ?_⟩;refine au<|am (E:=EE [117])<|Mv O<|aa<|aQ O<|Xe [117]<|aV 5 O O O isAgg86 O O<|Mv O<|dJ k 32 O O underlying86 sizeOf27 O om O O<|aP (cs:=y.map U8) O isAgg27 sizeOf27 (by rw[List.length_map];exact hy) (λw' h j v hv=>((hgw _ w' h).cell (block_lt_of_cell (hyc j v hv))).trans (hyc j v hv)) O O<|aq 9 O O isAgg27 sizeOf27 (by rw[List.length_map];exact i5 _ _ _ hv0) O O<|Cc O ent118 (λw' _ hG=>k9 y (fld P2 x.toNat 0 v0 (b.take k)) hy (i5 _ _ _ hv0) w' hG)<|?_
    rw[show SHA (y++(fld P2 x.toNat 0 v0 (b.take k)))=P2 y (fld P2 x.toNat 0 v0 (b.take k))from O,<-hst];refine ai 9 (hR (pl w) O hGF).2.1 O O O sizeOf27 (by rw[List.length_map];exact i5 _ _ _ hv0) (by rw[List.length_map];exact i5 _ _ _ hv0) (bg _) O<|aa<|?_
    repeat (refine bh ?_)
    exact ⟨_,rfl,trv⟩
  ·intro D hD
   rw[ss,List.take_length];refine am (E:=EE [117])<|aq 9 O O isAgg27 sizeOf27 (by rw[List.length_map];exact i5 _ _ _ hv0) O O<|aq 7 O O isAgg27 sizeOf27 (by rw[List.length_map];exact hroot) O O<|dv (v:=.bool (decide (fld P2 x.toNat 0 v0 b=root))) O O (λw'=>vb _ _ _ _ _ w') (λw'=>uC _ _ (i5 _ _ _ hv0) hroot w') O O<|Asg O<|aa<|ao<|Rr<|?_
   exact iD (.inl O) aJ (ar O O (λw' hw'=>⟨by rw[Da hz],ae hw'⟩))
 ·refine Bnb true O O (λ_=>kI _ _ _) (bne_iff_ne.2 hz)<|aa<|aQ O<|am (E:=EE [117])<|Asg O<|aa<|ao<|Rr<|?_
  exact se (.inl O) (ar O O (λw' hw'=>⟨by rw[Gx hz];rfl,ae hw'⟩))
end
section
open Go.RowKit
open Sh
theorem ent53:aL prog 53:=λ_ _=>kr
theorem ent89:aL prog 89:=λ_ _=>kr
theorem ent123:aL prog 123:=λ_ _=>kr
theorem d6{cs:List Value}: ∀j v,cs[j]? =some v->cs[0+j]? =some v:=λj v hv=>by rw[Nat.zero_add];exact hv
theorem Hd.a_s{h:Hd}: ∀j v,[U64 h.s][j]? =some v->h.cs[0+j]? =some v:=eI (pre:=[]) O
theorem St.at_f{s:St}: ∀j v,s.f.cs[j]? =some v->s.cs[0+j]? =some v:=eI (pre:=[]) O
theorem nn(u:Up)(hk:u.Ok)(w:World)(hw:Gt w):CLS 19 [.agg u.cs.toArray].toArray w (λe w'=>e=.returned (.bool u.isn)/\Grow w w'):=by
 refine Hf func19 O hw<|λhGF=>Xp<|Bx 1 hGF O<|λb1=>Asg O<|aa<|Xp<|Fa 147 O underlying71 O sizeOf36<|az (cs:=u.br.map U8) O isAgg36 sizeOf36 (by rw[List.length_map];exact hk.br) (λw' hw' j v hv=>by have:=(av (n:=1) O w' hw') _ v ((Up.l3 hk) j v hv);rwa [Nat.zero_add]at this) O O<|ew H8 underlying36 sizeOf28 O O<|dv (v:=.bool (!decide (u.br=Zs 160))) O O (λw'=>Kf _ _ _ _ _ w') (λw'=>n9 K8 aC u.br (Zs 160) hk.br O w') O O<|Asg O<|aa<|ao<|Rr<|?_
 exact ar O O (λw' hw'=>⟨rfl,ae hw'⟩)
theorem jA(u:Up)(hk:u.Ok)(w:World)(hw:Gt w):CLS 21 [.agg u.cs.toArray].toArray w (λe w'=>e=.returned (.bool u.isf)/\Grow w w'):=by
 refine Hf func21 O hw<|λhGF=>Xp<|Bx 1 hGF O<|λb1=>Asg O<|aa<|Xp<|Fa 405 O underlying71 O sizeOf64<|az (cs:=u.fy.map U8) O isAgg64 sizeOf64 (by rw[List.length_map];exact hk.fy) (λw' hw' j v hv=>by have:=(av (n:=1) O w' hw') _ v ((Up.l5 hk) j v hv);rwa [Nat.zero_add]at this) O O<|ew zvT6 underlying64 sizeOf28 O O<|dv (v:=.bool (!decide (u.fy=Zs 192))) O O (λw'=>Jy _ _ _ _ _ w') (λw'=>n9 JN aC u.fy (Zs 192) hk.fy O w') O O<|Asg O<|aa<|ao<|Rr<|?_
 exact ar O O (λw' hw'=>⟨rfl,ae hw'⟩)
theorem BV(c:Co)(hk:c.Ok)(hln:c.ks.length<=1000000)(w:World)(hw:Gt w)(hrw:RwsAt 48 w c.ka c.ks):CLS 53 [.agg c.cs.toArray].toArray w (λe w'=>e=.returned (.bool (p8 c))/\Grow w w'):=by
 refine Hf func53 O hw<|λhGF=>Xp<|Bx 1 hGF O<|λb1=>Asg O<|aa<|ah<|Xp<|Fa 0 O underlying35 O sizeOf31<|aV 1 O O ((Co.a0) 0 (.slice c.ka c.ks.length c.kc) O) isAgg31 O O<|bB O (λ_=>aO underlying31 _ _ _ _) O O<|Mv O<|aa<|au<|bW (ι:={i:Nat // i<=c.ks.length/\∀j r,j<i->c.ks[j]? =some r->r=(Zs 48)}) (λx=>[(1,pnt b1),(6,.slice c.ka c.ks.length c.kc),(7,I (c.ks.length:Int)),(8,I (x.1:Int))]) (λ_=>[(1,b1,c.cs,35)]) (λx=>c.ks.length-x.1) ⟨0,Nat.zero_le _,λj r hj=>absurd hj (Nat.not_lt_zero j)⟩ hGF trv trv<|?_;rintro ⟨i,hi,hno⟩;dsimp only;refine Xp<|Bnr O O (λ_=>aI _ _ _)<|aa<|ah<|?_;refine cx O (λhc=> ?_) (λhc=> ?_)
 ·have hlt:i<c.ks.length:=(by simp at hc;omega)
  clear hc;obtain ⟨x,hx⟩: ∃x,c.ks[i]? =some x:=⟨_,List.getElem?_eq_getElem hlt⟩;have hxl:=hk.ks x (List.mem_of_getElem? hx);refine aw<|ah<|au<|Xp<|?_;obtain ⟨ad,hae,hcell⟩:=hrw i x hx;refine dJ (ad:=ad) i 48 (by rw[<-hae];rfl) O underlying31 sizeOf33 O hlt O O<|aP (cs:=x.map U8) O isAgg33 sizeOf33 (by rw[List.length_map];exact hxl) (λw' h j v hv=>((ae h).cell (block_lt_of_cell (hcell j v hv))).trans (hcell j v hv)) O O<|Al 4 hGF BC<|λb4=>ai 4 hGF O O O sizeOf33 (by rw[List.length_map];exact hxl) (by rw[List.length_map];rfl) (bg _) O<|aa<|Xp<|aq 4 O O isAgg33 sizeOf33 (by rw[List.length_map];exact hxl) O O<|ew BC underlying33 sizeOf5 O O<|?_
  rcases Bool.eq_false_or_eq_true (decide (x=(Zs 48)))with hq|hq
  ·refine gW false O O (λw'=>zI _ _ _ _ _ w') (λ_=>n9 A0 aC x (Zs 48) hxl O _) (by rw[hq];rfl) O O<|aa<|aH O<|aw<|Xq<|Bnr (v:=I (((i+1:Nat):Int))) O O (λ_=>(ay _ _ _ aG).trans aE)<|Mv O<|aa<|?_
   repeat (refine bh ?_)
   exact aY<|⟨rfl,⟨i+1,hlt,λj r hj hr=>(Nat.lt_or_ge j i).elim (λh=>hno j r h hr) (λh=>by have e:j=i:=om;subst e;rw[hx]at hr;cases hr;exact of_decide_eq_true hq)⟩,_,by show c.ks.length-(i+1)<c.ks.length-i;omega,rfl,trv,trv⟩
  ·refine gW true O O (λw'=>zI _ _ _ _ _ w') (λ_=>n9 A0 aC x (Zs 48) hxl O _) (by rw[hq];rfl) O O<|aa<|aQ O<|Xp<|Asg O<|aa<|ao<|Rr<|?_
   exact ar O O (λw' hw'=>⟨by rw[G8 hx hq];rfl,ae hw'⟩)
 ·have hie:i=c.ks.length:=(by simp at hc;omega)
  clear hc;refine bv<|Xp<|Fa 1 O underlying35 O sizeOf33<|az (cs:=c.sum.map U8) O isAgg33 sizeOf33 (by rw[List.length_map];exact hk.sum) (λw' hw' j v hv=>by have:=(av (n:=1) O w' hw') _ v ((Co.a_sum) j v hv);rwa [Nat.zero_add]at this) O O<|ew BC underlying33 sizeOf5 O O<|dv (v:=.bool (decide (c.sum=(Zs 48)))) O O (λw'=>zI _ _ _ _ _ w') (λw'=>wJ A0 aC c.sum (Zs 48) hk.sum O w') O O<|Asg O<|aa<|ao<|Rr<|?_
  exact ar O O (λw' hw'=>⟨by rw[CY (λj r hj=>hno j r om)],ae hw'⟩)
theorem It(s:St)(hk:s.Ok)(hln:s.nx.ks.length<=1000000)(w:World)(hw:Gt w)(hrw:RwsAt 48 w s.nx.ka s.nx.ks):CLS 23 [.agg s.cs.toArray].toArray w (λe w'=>e=.returned (.bool (!p8 s.nx))/\Grow w w'):=by
 refine Hf func23 O hw<|λhGF=>Xp<|Bx 1 hGF O<|λb1=>Asg O<|aa<|Xp<|Fa 245 O underlying53 O sizeOf35<|az (cs:=s.nx.cs) O isAgg35 sizeOf35 (Co.len hk.nx) (λw' hw' j v hv=>by have:=(av (n:=1) O w' hw') _ v ((St.at_nx hk) j v hv);rwa [Nat.zero_add]at this) O O<|Cc O ent53 (λw' hw' hG=>BV s.nx hk.nx hln w' hG (hrw.grow (ae hw')))<|bV O (λ_=>bP _) O O<|Asg O<|aa<|ao<|Rr<|?_
 exact ar O O (λw' hw'=>⟨rfl,ae hw'⟩)
theorem na(l:List Bool)(hl:l.length<=1000000)(a:Option Addr)(cap:Nat)(w:World)(hw:Gt w)(hcl:CellsAt w a (l.map .bool)):CLS 89 [.slice a l.length cap].toArray w (λe w'=>e=.returned (I (onN l:Int))/\Grow w w'):=by
 refine Hf func89 O hw<|λhGF=>Xp<|Asg O<|aa<|Xp<|Asg O<|aa<|ah<|Xp<|Mv O<|bB O (λ_=>aO underlying65 _ _ _ _) O O<|Mv O<|aa<|au<|bW (ι:={i:Nat // i<=l.length}) (λx=>[(6,.slice a l.length cap),(7,I (l.length:Int)),(3,I (onN (l.take x.1):Int)),(8,I (x.1:Int))]) (λ_=>[]) (λx=>l.length-x.1) ⟨0,Nat.zero_le _⟩ hGF trv trivial<|?_;rintro ⟨i,hi⟩;dsimp only;refine Xp<|Bnr O O (λ_=>aI _ _ _)<|aa<|ah<|?_;refine cx O (λhc=> ?_) (λhc=> ?_)
 ·have hlt:i<l.length:=(by simp at hc;omega)
  clear hc;obtain ⟨x,hx⟩: ∃x,l[i]? =some x:=⟨_,List.getElem?_eq_getElem hlt⟩;refine aw<|ah<|au<|Xp<|?_;obtain ⟨ad,hae,hcell⟩:=hcl i (.bool x) (by rw[List.getElem?_map,hx];rfl)
  refine dJ (ad:=ad) i 1 (by rw[<-hae];rfl) O underlying65 sizeOf4 O hlt O O ?_
  rcases Bool.eq_false_or_eq_true x with hq|hq
  ·refine aT (v:=.bool true) O isAgg4 (λw' h=>by rw[Nat.mul_one];have h9:=((ae h).cell (block_lt_of_cell hcell)).trans hcell;rw[hq]at h9;exact h9) O O<|Asg O<|aa<|Xp<|Mv O<|aa<|aQ O<|Xq<|Mv O<|Bnr (v:=I ((onN (l.take i)+1:Nat):Int)) O O (λ_=>(ay _ _ _ (by have:=z0 (l.take i);rw[List.length_take]at this;unfold inI;omega)).trans aE)<|Asg O<|aa<|Xq<|Bnr (v:=I (((i+1:Nat):Int))) O O (λ_=>(ay _ _ _ aG).trans aE)<|Mv O<|aa<|?_
   repeat (refine bh ?_)
   refine aY ?_;rw[hq]at hx;exact ⟨rfl,⟨i+1,hlt⟩,_,by show l.length-(i+1)<l.length-i;omega,rfl,⟨rfl,rfl,by rw[s7 l i _ hx];rfl,rfl,trivial⟩,trivial⟩
  ·refine aT (v:=.bool false) O isAgg4 (λw' h=>by rw[Nat.mul_one];have h9:=((ae h).cell (block_lt_of_cell hcell)).trans hcell;rw[hq]at h9;exact h9) O O<|Asg O<|aa<|Xp<|Mv O<|aa<|aH O<|aw<|Xq<|Bnr (v:=I (((i+1:Nat):Int))) O O (λ_=>(ay _ _ _ aG).trans aE)<|Mv O<|aa<|?_
   repeat (refine bh ?_)
   refine aY ?_;rw[hq]at hx;exact ⟨rfl,⟨i+1,hlt⟩,_,by show l.length-(i+1)<l.length-i;omega,rfl,⟨rfl,rfl,by rw[s7 l i _ hx];rfl,rfl,trivial⟩,trivial⟩
 ·have hie:i=l.length:=(by simp at hc;omega)
  clear hc;refine bv<|Xp<|Mv O<|Asg O<|aa<|ao<|Rr<|?_;exact ar O O (λw' hw'=>⟨by rw[List.take_of_length_le om],ae hw'⟩)
theorem ou(l:List Bool)(hl:l.length<=1000000)(a:Option Addr)(cap:Nat)(w:World)(hw:Gt w)(hcl:CellsAt w a (l.map .bool)):CLS 123 [.slice a l.length cap].toArray w (λe w'=>e=.returned (.bool (dq l))/\Grow w w'):=by
 refine Hf func123 O hw<|λhGF=>Xp<|Asg O<|aa<|Xp<|Mv O<|Cc O ent89 (λw' hw' hG=>na l hl a cap w' hG (hcl.grow (ae hw')))<|Bnr (v:=I (3*(onN l:Int))) O O (λ_=>bT _ 3 _ (by have:=z0 l;unfold inI;omega))<|Mv O<|bB O (λ_=>aO underlying65 _ _ _ _) O O<|Bnr (v:=I (2*(l.length:Int))) O O (λ_=>bT _ 2 _ aG)<|Bnr (v:=.bool (dq l)) O O (λ_=>(cQ _ _ _).trans (by rw[show decide (3*(onN l:Int)>=2*(l.length:Int))=dq l from decide_eq_decide.2 om]))<|Asg O<|aa<|ao<|Rr<|?_
 exact ar O O (λw' hw'=>⟨rfl,ae hw'⟩)
end
section
open Go.RowKit
theorem ent37:aL prog 37:=λ_ _=>kr
theorem ent122:aL prog 122:=λ_ _=>kr
theorem ent77:aL prog 77:=λ_ _=>kr
theorem ent78:aL prog 78:=λ_ _=>kr
theorem wU(n:BitVec 64)(w:World)(hw:Gt w):CLS 77 [U64 n].toArray w (λe w'=>e=.returned (.bool (gE n))/\Grow w w'):=by
 refine Hf func77 O hw<|λhGF=>Xp<|Asg O<|aa<|Xp<|Mv O<|?_;rcases Bool.eq_false_or_eq_true (decide (1#64<=n))with h1|h1
 ·refine Bnb true O O (λ_=>bS _ n 1#64) (h1)<|Mv O<|Mv O<|?_
  rcases Bool.eq_false_or_eq_true (decide (n<=65536#64))with h2|h2
  ·refine Bnb true O O (λ_=>fX _ n 65536#64) (h2)<|Pk O O O<|Asg O<|aa<|ao<|Rr<|?_
   exact ar O O (λw' hw'=>⟨by unfold gE;rw[h1,h2];rfl,ae hw'⟩)
  ·refine Bnb false O O (λ_=>fX _ n 65536#64) (h2)<|Pk O O O<|Asg O<|aa<|ao<|Rr<|?_
   exact ar O O (λw' hw'=>⟨by unfold gE;rw[h1,h2];rfl,ae hw'⟩)
 ·refine Bnb false O O (λ_=>bS _ n 1#64) (h1)<|Mv O<|Sk<|Sk<|Pk O O O<|Asg O<|aa<|ao<|Rr<|?_
  exact ar O O (λw' hw'=>⟨by unfold gE;rw[h1];rfl,ae hw'⟩)
theorem FJ(z:Int)(w:World)(hw:Gt w):CLS 78 [I z].toArray w (λe w'=>e=.returned (.bool (gJ z))/\Grow w w'):=by
 refine Hf func78 O hw<|λhGF=>Xp<|Asg O<|aa<|Xp<|Mv O<|?_;rcases Bool.eq_false_or_eq_true (decide (z>=1))with h1|h1
 ·refine Bnb true O O (λ_=>cQ _ z 1) (h1)<|Mv O<|Mv O<|?_
  rcases Bool.eq_false_or_eq_true (decide (z<=512))with h2|h2
  ·refine Bnb true O O (λ_=>nE _ z 512) (h2)<|Pk O O O<|Mv O<|Mv O<|Mv O<|Bnr (v:=I (z-1)) O O (λ_=>bC _ _ _ (by unfold inI;simp at h1 h2;omega))<|Bnr (v:=I (D2 z (z-1))) O O (λ_=>yj _ _ _ _)<|Bnr (v:=.bool (gJ z)) O O (λ_=>(bK _ _ _).trans (by rw[BJ z (by simpa using h1) (by simpa using h2)]))<|Pk O O O<|Asg O<|aa<|ao<|Rr<|?_
   exact ar O O (λw' hw'=>⟨rfl,ae hw'⟩)
  ·refine Bnb false O O (λ_=>nE _ z 512) (h2)<|Pk O O O<|Mv O<|Sk<|Sk<|Sk<|Sk<|Sk<|Pk O O O<|Asg O<|aa<|ao<|Rr<|?_
   exact ar O O (λw' hw'=>⟨by rw[Dj (of_decide_eq_false h2)];rfl,ae hw'⟩)
 ·refine Bnb false O O (λ_=>cQ _ z 1) (h1)<|Mv O<|Sk<|Sk<|Pk O O O<|Mv O<|Sk<|Sk<|Sk<|Sk<|Sk<|Pk O O O<|Asg O<|aa<|ao<|Rr<|?_
  exact ar O O (λw' hw'=>⟨by rw[Di (of_decide_eq_false h1)];rfl,ae hw'⟩)
theorem rA(c:Cf)(hc_:c.Ok)(w:World)(hw:Gt w):CLS 37 [.agg c.cs.toArray].toArray w (λe w'=>e=.returned (I c.chk)/\Grow w w'):=by
 refine Hf func37 O hw<|λhGF=>Xp<|Bx 1 hGF O<|λb1=>Asg O<|aa<|ah<|Xp<|Fa 36 O underlying50 O sizeOf22<|aT (v:=U64 c.s) O isAgg22 (λw' hw'=>by have:=(av (n:=1) O w' hw') 36 _ (Cf.at_s hc_);rwa [Nat.zero_add]at this) O O<|?_
 rcases Bool.eq_false_or_eq_true (gE c.s)with h1|h1
 ·refine Cbl true O ent77 (wU c.s) (h1)<|bV O (λ_=>bP _) O O<|Mv O<|Fa 37 O underlying50 O sizeOf22<|aT (v:=U64 c.e) O isAgg22 (λw' hw'=>by have:=(av (n:=1) O w' hw') 37 _ (Cf.at_e hc_);rwa [Nat.zero_add]at this) O O<|?_
  rcases Bool.eq_false_or_eq_true (gE c.e)with h2|h2
  ·refine Cbl true O ent77 (wU c.e) (h2)<|bV O (λ_=>bP _) O O<|Pk O O O<|Mv O<|Fa 38 O underlying50 O sizeOf3<|aT (v:=I c.z) O isAgg3 (λw' hw'=>by have:=(av (n:=1) O w' hw') 38 _ (Cf.at_z hc_);rwa [Nat.zero_add]at this) O O<|?_
   rcases Bool.eq_false_or_eq_true (gJ c.z)with h3|h3
   ·refine Cbl true O ent78 (FJ c.z) (h3)<|bV O (λ_=>bP _) O O<|Pk O O O<|aa<|aH O<|aw<|Xp<|Asg O<|aa<|ao<|Rr<|?_
    exact ar O O (λw' hw'=>⟨by unfold Cf.chk Cf.rt;rw[h1,h2,h3];rfl,ae hw'⟩)
   ·refine Cbl false O ent78 (FJ c.z) (h3)<|bV O (λ_=>bP _) O O<|Pk O O O<|aa<|aQ O<|Xp<|Asg O<|aa<|ao<|Rr<|?_
    exact ar O O (λw' hw'=>⟨by unfold Cf.chk Cf.rt;rw[h1,h2,h3];rfl,ae hw'⟩)
  ·refine Cbl false O ent77 (wU c.e) (h2)<|bV O (λ_=>bP _) O O<|Pk O O O<|Mv O<|Sk<|Sk<|Sk<|Sk<|Pk O O O<|aa<|aQ O<|Xp<|Asg O<|aa<|ao<|Rr<|?_
   exact ar O O (λw' hw'=>⟨by unfold Cf.chk Cf.rt;rw[h1,h2];rfl,ae hw'⟩)
 ·refine Cbl false O ent77 (wU c.s) (h1)<|bV O (λ_=>bP _) O O<|Mv O<|Sk<|Sk<|Sk<|Sk<|Pk O O O<|Mv O<|Sk<|Sk<|Sk<|Sk<|Pk O O O<|aa<|aQ O<|Xp<|Asg O<|aa<|ao<|Rr<|?_
  exact ar O O (λw' hw'=>⟨by unfold Cf.chk Cf.rt;rw[h1];rfl,ae hw'⟩)
theorem J5(c:Cf)(hc_:c.Ok)(n:BitVec 64)(w:World)(hw:Gt w):CLS 153 [.agg c.cs.toArray,U64 n].toArray w (λe w'=>e=.returned (U64 (c.ep n))/\Grow w w'):=by
 refine Hf func153 O hw<|λhGF=>Xp<|Bx 2 hGF O<|λb2=>Asg O<|aa<|ah<|Xp<|az (cs:=c.cs) O isAgg50 sizeOf50 (Cf.len hc_) (λw' hw' j v hv=>by have:=(av (n:=2) O w' hw') _ v (Cf.all j v hv);rwa [Nat.zero_add]at this) O O<|Ca O (rA c hc_)<|?_
 rcases Bool.eq_false_or_eq_true (c.rt)with hr|hr
 ·refine Bnb false O O (λ_=>cJ _ c.chk 0) (by rw[FU hr];rfl)<|aa<|aH O<|aw<|Xp<|Mv O<|Fa 36 O underlying50 O sizeOf22<|aT (v:=U64 c.s) O isAgg22 (λw' hw'=>by have:=(av (n:=2) O w' hw') 36 _ (Cf.at_s hc_);rwa [Nat.zero_add]at this) O O<|Bnr (v:=U64 (n / c.s)) O O (λ_=>ik _ _ _ (oy (LJ hr)))<|Asg O<|aa<|ao<|Rr<|?_
  exact ar O O (λw' hw'=>⟨by rw[Ks hr],ae hw'⟩)
 ·refine Bnb true O O (λ_=>cJ _ c.chk 0) (by rw[EO hr];rfl)<|aa<|aQ O<|Xp<|Asg O<|aa<|ao<|Rr<|?_
  exact ar O O (λw' hw'=>⟨by rw[ep_f hr];rfl,ae hw'⟩)
theorem mQ(c:Cf)(hc_:c.Ok)(n:BitVec 64)(w:World)(hw:Gt w):CLS 122 [.agg c.cs.toArray,U64 n].toArray w (λe w'=>e=.returned (U64 (c.pe n))/\Grow w w'):=by
 refine Hf func122 O hw<|λhGF=>Xp<|Bx 2 hGF O<|λb2=>Asg O<|aa<|ah<|Xp<|az (cs:=c.cs) O isAgg50 sizeOf50 (Cf.len hc_) (λw' hw' j v hv=>by have:=(av (n:=2) O w' hw') _ v (Cf.all j v hv);rwa [Nat.zero_add]at this) O O<|Ca O (rA c hc_)<|?_
 rcases Bool.eq_false_or_eq_true (c.rt)with hr|hr
 ·refine Bnb false O O (λ_=>cJ _ c.chk 0) (by rw[FU hr];rfl)<|aa<|aH O<|aw<|Xd []<|az (cs:=c.cs) O isAgg50 sizeOf50 (Cf.len hc_) (λw' hw' j v hv=>by have:=(av (n:=2) O w' hw') _ v (Cf.all j v hv);rwa [Nat.zero_add]at this) O O<|Mv O<|Ca O (J5 c hc_ n)<|Fa 37 O underlying50 O sizeOf22<|aT (v:=U64 c.e) O isAgg22 (λw' hw'=>by have:=(av (n:=2) O w' hw') 37 _ (Cf.at_e hc_);rwa [Nat.zero_add]at this) O O<|Bnr (v:=U64 (c.ep n / c.e)) O O (λ_=>ik _ _ _ (oy (Jc hr)))<|Asg O<|aa<|ao<|Rr<|?_
  exact ar O O (λw' hw'=>⟨by rw[JL hr,Ks hr],ae hw'⟩)
 ·refine Bnb true O O (λ_=>cJ _ c.chk 0) (by rw[EO hr];rfl)<|aa<|aQ O<|Xp<|Asg O<|aa<|ao<|Rr<|?_
  exact ar O O (λw' hw'=>⟨by rw[Md hr];rfl,ae hw'⟩)
end
section
open Go.RowKit
open Sh
theorem ent87:aL prog 87:=λ_ _=>kr
theorem ent88:aL prog 88:=λ_ _=>kr
theorem ent124:aL prog 124:=λ_ _=>kr
theorem ent125:aL prog 125:=λ_ _=>kr
theorem ent85:aL prog 85:=λ_ _=>kr
theorem ent86:aL prog 86:=λ_ _=>kr
theorem ent48:aL prog 48:=λ_ _=>kr
theorem ent49:aL prog 49:=λ_ _=>kr
def jst(x y:Bool):Int:=bif x && !y then 1 else bif y && !x then-1 else 0
def pr(x y:Int):Int:=bif decide (x<y)then-1 else bif decide (x>y)then 1 else 0
def qH(x y:BitVec 64):Int:=bif decide (x<y)then-1 else bif decide (x>y)then 1 else 0
def grt:List Int->Bool
 |[]=>false
 |x::l=>bif decide (x=0)then grt l else decide (x>0)
def Up.fb(u:Up):Int:=bif dq u.sy.bs then 0 else (onN u.sy.bs:Int)
def Sd(c:Cf)(u:Up):List Value:=[.bool (dq u.sy.bs),.bool (u.rip c),.bool u.isf,.bool (u.isf && u.nea c),I (onN u.sy.bs:Int),I u.fb,U64 u.at_.s,U64 u.sl]
def Mk(c:Cf)(a b:Up):List Int:=[jst (dq a.sy.bs) (dq b.sy.bs),pr a.fb b.fb,jst (a.rip c) (b.rip c),jst a.isf b.isf,jst (a.isf && a.nea c) (b.isf && b.nea c),pr (onN a.sy.bs:Int) (onN b.sy.bs:Int),qH b.at_.s a.at_.s,qH b.sl a.sl]
theorem xF(x y:Bool)(l:List Int):grt (jst x y::l)=bif x !=y then x else grt l:=by cases x<;>cases y<;>rfl
theorem Fo(x y:Nat)(l:List Int):grt (pr (x:Int) (y:Int)::l)=bif decide (x≠y)then decide (y<x)else grt l:=by
 show (bif decide (pr (x:Int) (y:Int)=0)then grt l else decide (pr (x:Int) (y:Int)>0))=_
 unfold pr;rcases Nat.lt_trichotomy x y with h|h|h
 ·rw[show decide ((x:Int)<(y:Int))=true from decide_eq_true om,show decide (x≠y)=true from decide_eq_true om,show decide (y<x)=false from decide_eq_false om];rfl
 ·subst h;rw[show decide ((x:Int)<(x:Int))=false from decide_eq_false om,show decide (x≠x)=false from decide_eq_false om];rfl
 ·rw[show decide ((x:Int)<(y:Int))=false from decide_eq_false om,show decide ((x:Int)>(y:Int))=true from decide_eq_true om,show decide (x≠y)=true from decide_eq_true om,show decide (y<x)=true from decide_eq_true h];rfl
theorem Ga(x y:BitVec 64)(l:List Int):grt (qH y x::l)=bif decide (x≠y)then decide (x<y)else grt l:=by
 show (bif decide (qH y x=0)then grt l else decide (qH y x>0))=_
 unfold qH;rcases Nat.lt_trichotomy x.toNat y.toNat with h|h|h
 ·rw[show decide (y<x)=false from decide_eq_false (by rw[BitVec.lt_def];omega),show decide (y>x)=true from decide_eq_true (by rw[gt_iff_lt,BitVec.lt_def];omega),show decide (x≠y)=true from decide_eq_true (λe=>by subst e;omega)];rfl
 ·obtain rfl:=BitVec.eq_of_toNat_eq h;rw[show decide (x<x)=false from decide_eq_false (by rw[BitVec.lt_def];omega),show decide (x≠x)=false from decide_eq_false (λh=>h O)];rfl
 ·rw[show decide (y<x)=true from decide_eq_true (by rw[BitVec.lt_def];omega),show decide (x≠y)=true from decide_eq_true (λe=>by subst e;omega),show decide (x<y)=false from decide_eq_false (by rw[BitVec.lt_def];omega)];rfl
theorem G6(a b:Up)(l:List Int)(h:dq a.sy.bs=dq b.sy.bs):grt (pr a.fb b.fb::l)=bif !dq a.sy.bs && decide (onN a.sy.bs≠onN b.sy.bs)then decide (onN b.sy.bs<onN a.sy.bs)else grt l:=by
 unfold Up.fb;rw[<-h]
 cases dq a.sy.bs with
 |true=>rfl
 |false=>rw[cond_false,cond_false,Fo];rfl
theorem sE{x y:Bool}{α:Type}{a b b':α}(h:x=y->b=b'):(bif x !=y then a else b)=bif x !=y then a else b':=by
 cases x<;>cases y<;>first|rfl|exact h O
theorem GF(c:Cf)(a b:Up):grt (Mk c a b)=H2 c a b:=by
 unfold Mk H2;rw[xF];refine sE λh1=> ?_;rw[G6 a b _ h1,xF,xF];congr 1;refine sE λ_=>sE λh2=> ?_;rw[xF,Fo,Ga,Ga,<-h2];have e: ∀x y:Bool,(bif decide (a.sl≠b.sl)then decide (a.sl<b.sl)else grt [])=decide (a.sl<b.sl):=λ_ _=>by
  by_cases h:a.sl=b.sl
  ·rw[h];simp[grt]
  ·rw[decide_eq_true h,cond_true]
 rw[e true true]
 cases a.isf<;>cases a.nea c<;>cases b.nea c<;>rfl
theorem FB(x:Int)(w:World)(hw:Gt w):CLS 124 [I x].toArray w (λe w'=>e=.returned (.bool false)/\Grow w w'):=by
 refine Hf func124 O hw<|λhGF=>Xp<|Asg O<|aa<|Xp<|Mv O<|Mv O<|Bnr (v:=.bool false) O O (λ_=>(cJ _ x x).trans aB)<|Asg O<|aa<|ao<|Rr<|?_;exact ar O O (λw' hw'=>⟨rfl,ae hw'⟩)
theorem FC(x:BitVec 64)(w:World)(hw:Gt w):CLS 125 [U64 x].toArray w (λe w'=>e=.returned (.bool false)/\Grow w w'):=by
 refine Hf func125 O hw<|λhGF=>Xp<|Asg O<|aa<|Xp<|Mv O<|Mv O<|Bnr (v:=.bool false) O O (λ_=>(kI _ x x).trans aB)<|Asg O<|aa<|ao<|Rr<|?_;exact ar O O (λw' hw'=>⟨rfl,ae hw'⟩)
theorem Fc(x y:Int)(w:World)(hw:Gt w):CLS 87 [I x,I y].toArray w (λe w'=>e=.returned (I (pr x y))/\Grow w w'):=by
 refine Hf func87 O hw<|λhGF=>Xp<|Asg O<|aa<|Xp<|Mv O<|Cc O ent124 (λw' hw' hG=>FB x w' hG)<|Asg O<|aa<|Xp<|Mv O<|Cc O ent124 (λw' hw' hG=>FB y w' hG)<|Asg O<|aa<|ah<|Xp<|Mv O<|aa<|aH O<|aw<|ah<|Xp<|Mv O<|aa<|aH O<|aw<|ah<|Xp<|Mv O<|Mv O<|?_;rcases Bool.eq_false_or_eq_true (decide (x<y))with hl|hl
 ·refine Bnb true O O (λ_=>aI _ x y) (hl)<|aa<|aQ O<|Xp<|Asg O<|aa<|ao<|Rr<|?_
  exact ar O O (λw' hw'=>⟨by rw[pr,hl];rfl,ae hw'⟩)
 ·refine Bnb false O O (λ_=>aI _ x y) (hl)<|aa<|aH O<|aw<|ah<|Xp<|Mv O<|Mv O<|?_
  rcases Bool.eq_false_or_eq_true (decide (x>y))with hg|hg
  ·refine Bnb true O O (λ_=>dE _ x y) (hg)<|aa<|aQ O<|Xp<|Asg O<|aa<|ao<|Rr<|?_
   exact ar O O (λw' hw'=>⟨by rw[pr,hl,hg];rfl,ae hw'⟩)
  ·refine Bnb false O O (λ_=>dE _ x y) (hg)<|aa<|aH O<|aw<|Xp<|Asg O<|aa<|ao<|Rr<|?_
   exact ar O O (λw' hw'=>⟨by rw[pr,hl,hg];rfl,ae hw'⟩)
theorem Fl(x y:BitVec 64)(w:World)(hw:Gt w):CLS 88 [U64 x,U64 y].toArray w (λe w'=>e=.returned (I (qH x y))/\Grow w w'):=by
 refine Hf func88 O hw<|λhGF=>Xp<|Asg O<|aa<|Xp<|Mv O<|Cc O ent125 (λw' hw' hG=>FC x w' hG)<|Asg O<|aa<|Xp<|Mv O<|Cc O ent125 (λw' hw' hG=>FC y w' hG)<|Asg O<|aa<|ah<|Xp<|Mv O<|aa<|aH O<|aw<|ah<|Xp<|Mv O<|aa<|aH O<|aw<|ah<|Xp<|Mv O<|Mv O<|?_;rcases Bool.eq_false_or_eq_true (decide (x<y))with hl|hl
 ·refine Bnb true O O (λ_=>e6 _ x y) (hl)<|aa<|aQ O<|Xp<|Asg O<|aa<|ao<|Rr<|?_
  exact ar O O (λw' hw'=>⟨by rw[qH,hl];rfl,ae hw'⟩)
 ·refine Bnb false O O (λ_=>e6 _ x y) (hl)<|aa<|aH O<|aw<|ah<|Xp<|Mv O<|Mv O<|?_
  rcases Bool.eq_false_or_eq_true (decide (x>y))with hg|hg
  ·refine Bnb true O O (λ_=>eX _ x y) (hg)<|aa<|aQ O<|Xp<|Asg O<|aa<|ao<|Rr<|?_
   exact ar O O (λw' hw'=>⟨by rw[qH,hl,hg];rfl,ae hw'⟩)
  ·refine Bnb false O O (λ_=>eX _ x y) (hg)<|aa<|aH O<|aw<|Xp<|Asg O<|aa<|ao<|Rr<|?_
   exact ar O O (λw' hw'=>⟨by rw[qH,hl,hg];rfl,ae hw'⟩)
theorem wL(x y:Bool)(w:World)(hw:Gt w):CLS 86 [.bool x,.bool y].toArray w (λe w'=>e=.returned (I (jst x y))/\Grow w w'):=by
 cases x<;>cases y
 ·refine Hf func86 O hw<|λhGF=>Xp<|Asg O<|aa<|ah<|au<|Xp<|Mv O<|Mv O<|Sk<|Sk<|Pk O O O<|Asg O<|aa<|aH O<|Xp<|Mv O<|Mv O<|Sk<|Sk<|Pk O O O<|Asg O<|aa<|aH O<|aw<|Xp<|Asg O<|aa<|ao<|Rr<|?_
  exact ar O O (λw' hw'=>⟨rfl,ae hw'⟩)
 ·refine Hf func86 O hw<|λhGF=>Xp<|Asg O<|aa<|ah<|au<|Xp<|Mv O<|Mv O<|Sk<|Sk<|Pk O O O<|Asg O<|aa<|aH O<|Xp<|Mv O<|Mv O<|Mv O<|bV O (λ_=>bP _) O O<|Pk O O O<|Asg O<|aa<|aQ O<|Xp<|Asg O<|aa<|ao<|Rr<|?_
  exact ar O O (λw' hw'=>⟨rfl,ae hw'⟩)
 ·refine Hf func86 O hw<|λhGF=>Xp<|Asg O<|aa<|ah<|au<|Xp<|Mv O<|Mv O<|Mv O<|bV O (λ_=>bP _) O O<|Pk O O O<|Asg O<|aa<|aQ O<|Xp<|Asg O<|aa<|ao<|Rr<|?_
  exact ar O O (λw' hw'=>⟨rfl,ae hw'⟩)
 ·refine Hf func86 O hw<|λhGF=>Xp<|Asg O<|aa<|ah<|au<|Xp<|Mv O<|Mv O<|Mv O<|bV O (λ_=>bP _) O O<|Pk O O O<|Asg O<|aa<|aH O<|Xp<|Mv O<|Mv O<|Mv O<|bV O (λ_=>bP _) O O<|Pk O O O<|Asg O<|aa<|aH O<|aw<|Xp<|Asg O<|aa<|ao<|Rr<|?_
  exact ar O O (λw' hw'=>⟨rfl,ae hw'⟩)
end
section
open Go.RowKit
open Sh
def ZSd:List Value:=[.bool false,.bool false,.bool false,.bool false,I 0,I 0,U64 0,U64 0]
theorem zv145(w:World):(zeroValue 145).run prog w=.ok (.agg ZSd.toArray) w:=(zeroValue145 w).trans aE
theorem wQ(a b c d:Bool)(x:Int)(s t:BitVec 64)(w:World):(Instr.build 145 #[(0,.bool a),(1,.bool b),(2,.bool c),(3,.bool d),(4,I x),(6,U64 s),(7,U64 t)]).run prog w=.ok (.agg ([Value.bool a,.bool b,.bool c,.bool d,I x,I 0,U64 s,U64 t]:List Value).toArray) w:=
 cY (c:=ZSd) (ps:= #[(0,1),(1,1),(2,1),(3,1),(4,1),(5,1),(6,1),(7,1)]) zv145 underlying145 (λw=>by simp[sizeOf3,sizeOf4,sizeOf22]) [(0,.bool a),(1,.bool b),(2,.bool c),(3,.bool d),(4,I x),(6,U64 s),(7,U64 t)] aE w
theorem Bl(c:Cf)(hc_:c.Ok)(u:Up)(hk:u.Ok)(hl:u.sy.bs.length<=1000)(w:World)(hw:Gt w)(hca:CellsAt w u.sy.ba (u.sy.bs.map .bool)):CLS 85 [.agg c.cs.toArray,.agg u.cs.toArray].toArray w (λe w'=>e=.returned (.agg (Sd c u).toArray)/\Grow w w'):=by
 refine Hf func85 O hw<|λhGF=>Xp<|Bx 2 hGF O<|λb2=>Bx 3 hGF O<|λb3=>Al 4 hGF zv145<|λb4=>aa<|Xp<|az (cs:=c.cs) O isAgg50 sizeOf50 (Cf.len hc_) (λw' hw' j v hv=>by have:=(av (n:=2) O w' hw') _ v (Cf.all j v hv);rwa [Nat.zero_add]at this) O O<|Fa 0 O underlying71 O sizeOf30<|Fa 0 O underlying30 O sizeOf22<|?_
 rcases Bool.eq_false_or_eq_true u.isn with hi|hi
 ·refine aV 3 O O ((bu (o:=0) (p:=0) (Up.l1) (Hd.a_s)) 0 (U64 u.at_.s) O) isAgg22 O O ?_
  rcases Bool.eq_false_or_eq_true u.isf with hf|hf
  ·refine Cc O ent122 (λw' hw' hG=>mQ c hc_ (u.at_.s) w' hG)<|Asg O<|aa<|Xa [0,1,2,3,4,5,6,7,8,9,10,11,12,13,14,15,16,17,18,19,20,21,22,23,24,25,26,27,28,29,30,31,32,33,34,35,36] ⟨37,6,145,ZSd⟩ [38] (bH O zv145 O)<|Fa 597 O underlying71 O sizeOf69<|Fa 597 O underlying69 O sizeOf65<|aV 3 O O ((bu (o:=597) (p:=0) (Up.l6 hk) (Ag.a0)) 0 (.slice u.sy.ba u.sy.bs.length u.sy.bc) O) isAgg65 O O<|Cc O ent123 (λw' hw' hG=>ou u.sy.bs om _ _ w' hG (hca.grow (ae hw')))<|az (cs:=u.cs) O isAgg71 sizeOf71 (Up.len hk) (λw' hw' j v hv=>by have:=(av (n:=3) O w' hw') _ v (d6 j v hv);rwa [Nat.zero_add]at this) O O<|Cc O ent19 (λw' hw' hG=>nn u hk w' hG)<|?_
   rw[hi];refine Mv O<|Mv O<|az (cs:=c.cs) O isAgg50 sizeOf50 (Cf.len hc_) (λw' hw' j v hv=>by have:=(av (n:=2) O w' hw') _ v (Cf.all j v hv);rwa [Nat.zero_add]at this) O O<|Fa 694 O underlying71 O sizeOf22<|aV 3 O O ((Up.l7 hk) 0 (U64 u.sl) O) isAgg22 O O<|Cc O ent122 (λw' hw' hG=>mQ c hc_ (u.sl) w' hG)<|Bnr (v:=.bool (decide (c.pe u.at_.s=c.pe u.sl))) O O (λ_=>(bA _ (c.pe u.at_.s) (c.pe u.sl)).trans (by rw[m3]))<|Pk O O O<|az (cs:=u.cs) O isAgg71 sizeOf71 (Up.len hk) (λw' hw' j v hv=>by have:=(av (n:=3) O w' hw') _ v (d6 j v hv);rwa [Nat.zero_add]at this) O O<|Cc O ent21 (λw' hw' hG=>jA u hk w' hG)<|?_
   rw[hf];refine az (cs:=u.cs) O isAgg71 sizeOf71 (Up.len hk) (λw' hw' j v hv=>by have:=(av (n:=3) O w' hw') _ v (d6 j v hv);rwa [Nat.zero_add]at this) O O<|Cc O ent21 (λw' hw' hG=>jA u hk w' hG)<|?_
   rw[hf];refine Mv O<|Mv O<|az (cs:=c.cs) O isAgg50 sizeOf50 (Cf.len hc_) (λw' hw' j v hv=>by have:=(av (n:=2) O w' hw') _ v (Cf.all j v hv);rwa [Nat.zero_add]at this) O O<|Fa 307 O underlying71 O sizeOf30<|Fa 307 O underlying30 O sizeOf22<|aV 3 O O ((bu (o:=307) (p:=0) (Up.l4 hk) (Hd.a_s)) 0 (U64 u.fi.s) O) isAgg22 O O<|Cc O ent122 (λw' hw' hG=>mQ c hc_ (u.fi.s) w' hG)<|Bnr (v:=.bool (u.nea c)) O O (λ_=>(bA _ (c.pe u.at_.s) (c.pe u.fi.s)).trans (by rw[m3,show decide (c.pe u.at_.s=c.pe u.fi.s)=u.nea c from decide_eq_decide.2 ⟨Eq.symm,Eq.symm⟩]))<|Pk O O O<|Fa 597 O underlying71 O sizeOf69<|Fa 597 O underlying69 O sizeOf65<|aV 3 O O ((bu (o:=597) (p:=0) (Up.l6 hk) (Ag.a0)) 0 (.slice u.sy.ba u.sy.bs.length u.sy.bc) O) isAgg65 O O<|Cc O ent89 (λw' hw' hG=>na u.sy.bs om _ _ w' hG (hca.grow (ae hw')))<|Fa 0 O underlying71 O sizeOf30<|Fa 0 O underlying30 O sizeOf22<|aV 3 O O ((bu (o:=0) (p:=0) (Up.l1) (Hd.a_s)) 0 (U64 u.at_.s) O) isAgg22 O O<|Fa 694 O underlying71 O sizeOf22<|aV 3 O O ((Up.l7 hk) 0 (U64 u.sl) O) isAgg22 O O<|cj (ps:=[(0,.tmp 15),(1,.tmp 25),(2,.tmp 27),(3,.tmp 38),(4,.tmp 42),(6,.tmp 45),(7,.tmp 47)]) (vs:=[.bool (dq u.sy.bs),.bool (decide (c.pe u.at_.s=c.pe u.sl)),.bool true,.bool (u.nea c),I (onN u.sy.bs:Int),U64 u.at_.s,U64 u.sl]) (v:=.agg ([Value.bool (dq u.sy.bs),.bool (decide (c.pe u.at_.s=c.pe u.sl)),.bool true,.bool (u.nea c),I (onN u.sy.bs:Int),I 0,U64 u.at_.s,U64 u.sl]:List Value).toArray) O (λw=>wQ _ _ _ _ _ _ _ w) O O<|aa<|?_
   refine ⟨_,_,rfl,hGF,by intro x hx;simp only[List.mem_cons,List.not_mem_nil,or_false]at hx;subst hx;rfl,by intro x hx;simp only[List.mem_cons,List.not_mem_nil,or_false]at hx;subst hx;rfl,λadr2=> ?_⟩
   refine ai 6 hGF O O O sizeOf145 O O aE O<|aa<|ah<|Xp<|Fa 0 O underlying145 O sizeOf4<|?_;rcases Bool.eq_false_or_eq_true (dq u.sy.bs)with hmo|hmo
   ·refine aV (v:=.bool true) 6 O O (by show some (Value.bool (dq u.sy.bs))=_;rw[hmo]) isAgg4 O O<|bV O (λ_=>bP _) O O<|aa<|aH O<|aw<|Xp<|aq 6 O O isAgg145 sizeOf145 O O O<|ai 4 hGF O O O sizeOf145 O O aE O<|aa<|ao<|Rr<|?_
    exact aF 4 O O O isAgg145 sizeOf145 O (λw' hw'=>⟨by rw[Sd,Up.fb,Up.rip,hi,hf,hmo];rfl,ae hw'⟩)
   ·refine aV (v:=.bool false) 6 O O (by show some (Value.bool (dq u.sy.bs))=_;rw[hmo]) isAgg4 O O<|bV O (λ_=>bP _) O O<|aa<|aQ O<|Xq<|Fa 4 O underlying145 O sizeOf3<|aV 6 O O O isAgg3 O O<|Fa 5 O underlying145 O sizeOf3<|cC 6 hGF O O O sizeOf3 O (by show 5<8;decide) O<|aa<|Xp<|aq 6 O O isAgg145 sizeOf145 O O O<|ai 4 hGF O O O sizeOf145 O O aE O<|aa<|ao<|Rr<|?_
    exact aF 4 O O O isAgg145 sizeOf145 O (λw' hw'=>⟨by rw[Sd,Up.fb,Up.rip,hi,hf,hmo];rfl,ae hw'⟩)
  ·refine Cc O ent122 (λw' hw' hG=>mQ c hc_ (u.at_.s) w' hG)<|Asg O<|aa<|Xa [0,1,2,3,4,5,6,7,8,9,10,11,12,13,14,15,16,17,18,19,20,21,22,23,24,25,26,27,28,29,30,31,32,33,34,35,36] ⟨37,6,145,ZSd⟩ [38] (bH O zv145 O)<|Fa 597 O underlying71 O sizeOf69<|Fa 597 O underlying69 O sizeOf65<|aV 3 O O ((bu (o:=597) (p:=0) (Up.l6 hk) (Ag.a0)) 0 (.slice u.sy.ba u.sy.bs.length u.sy.bc) O) isAgg65 O O<|Cc O ent123 (λw' hw' hG=>ou u.sy.bs om _ _ w' hG (hca.grow (ae hw')))<|az (cs:=u.cs) O isAgg71 sizeOf71 (Up.len hk) (λw' hw' j v hv=>by have:=(av (n:=3) O w' hw') _ v (d6 j v hv);rwa [Nat.zero_add]at this) O O<|Cc O ent19 (λw' hw' hG=>nn u hk w' hG)<|?_
   rw[hi];refine Mv O<|Mv O<|az (cs:=c.cs) O isAgg50 sizeOf50 (Cf.len hc_) (λw' hw' j v hv=>by have:=(av (n:=2) O w' hw') _ v (Cf.all j v hv);rwa [Nat.zero_add]at this) O O<|Fa 694 O underlying71 O sizeOf22<|aV 3 O O ((Up.l7 hk) 0 (U64 u.sl) O) isAgg22 O O<|Cc O ent122 (λw' hw' hG=>mQ c hc_ (u.sl) w' hG)<|Bnr (v:=.bool (decide (c.pe u.at_.s=c.pe u.sl))) O O (λ_=>(bA _ (c.pe u.at_.s) (c.pe u.sl)).trans (by rw[m3]))<|Pk O O O<|az (cs:=u.cs) O isAgg71 sizeOf71 (Up.len hk) (λw' hw' j v hv=>by have:=(av (n:=3) O w' hw') _ v (d6 j v hv);rwa [Nat.zero_add]at this) O O<|Cc O ent21 (λw' hw' hG=>jA u hk w' hG)<|?_
   rw[hf];refine az (cs:=u.cs) O isAgg71 sizeOf71 (Up.len hk) (λw' hw' j v hv=>by have:=(av (n:=3) O w' hw') _ v (d6 j v hv);rwa [Nat.zero_add]at this) O O<|Cc O ent21 (λw' hw' hG=>jA u hk w' hG)<|?_
   rw[hf];refine Mv O<|Sk<|Sk<|Sk<|Sk<|Sk<|Sk<|Sk<|Pk O O O<|Fa 597 O underlying71 O sizeOf69<|Fa 597 O underlying69 O sizeOf65<|aV 3 O O ((bu (o:=597) (p:=0) (Up.l6 hk) (Ag.a0)) 0 (.slice u.sy.ba u.sy.bs.length u.sy.bc) O) isAgg65 O O<|Cc O ent89 (λw' hw' hG=>na u.sy.bs om _ _ w' hG (hca.grow (ae hw')))<|Fa 0 O underlying71 O sizeOf30<|Fa 0 O underlying30 O sizeOf22<|aV 3 O O ((bu (o:=0) (p:=0) (Up.l1) (Hd.a_s)) 0 (U64 u.at_.s) O) isAgg22 O O<|Fa 694 O underlying71 O sizeOf22<|aV 3 O O ((Up.l7 hk) 0 (U64 u.sl) O) isAgg22 O O<|cj (ps:=[(0,.tmp 15),(1,.tmp 25),(2,.tmp 27),(3,.tmp 38),(4,.tmp 42),(6,.tmp 45),(7,.tmp 47)]) (vs:=[.bool (dq u.sy.bs),.bool (decide (c.pe u.at_.s=c.pe u.sl)),.bool false,.bool (false),I (onN u.sy.bs:Int),U64 u.at_.s,U64 u.sl]) (v:=.agg ([Value.bool (dq u.sy.bs),.bool (decide (c.pe u.at_.s=c.pe u.sl)),.bool false,.bool (false),I (onN u.sy.bs:Int),I 0,U64 u.at_.s,U64 u.sl]:List Value).toArray) O (λw=>wQ _ _ _ _ _ _ _ w) O O<|aa<|?_;refine ⟨_,_,rfl,hGF,by intro x hx;simp only[List.mem_cons,List.not_mem_nil,or_false]at hx;subst hx;rfl,by intro x hx;simp only[List.mem_cons,List.not_mem_nil,or_false]at hx;subst hx;rfl,λadr2=> ?_⟩
   refine ai 6 hGF O O O sizeOf145 O O aE O<|aa<|ah<|Xp<|Fa 0 O underlying145 O sizeOf4<|?_;rcases Bool.eq_false_or_eq_true (dq u.sy.bs)with hmo|hmo
   ·refine aV (v:=.bool true) 6 O O (by show some (Value.bool (dq u.sy.bs))=_;rw[hmo]) isAgg4 O O<|bV O (λ_=>bP _) O O<|aa<|aH O<|aw<|Xp<|aq 6 O O isAgg145 sizeOf145 O O O<|ai 4 hGF O O O sizeOf145 O O aE O<|aa<|ao<|Rr<|?_
    exact aF 4 O O O isAgg145 sizeOf145 O (λw' hw'=>⟨by rw[Sd,Up.fb,Up.rip,hi,hf,hmo];rfl,ae hw'⟩)
   ·refine aV (v:=.bool false) 6 O O (by show some (Value.bool (dq u.sy.bs))=_;rw[hmo]) isAgg4 O O<|bV O (λ_=>bP _) O O<|aa<|aQ O<|Xq<|Fa 4 O underlying145 O sizeOf3<|aV 6 O O O isAgg3 O O<|Fa 5 O underlying145 O sizeOf3<|cC 6 hGF O O O sizeOf3 O (by show 5<8;decide) O<|aa<|Xp<|aq 6 O O isAgg145 sizeOf145 O O O<|ai 4 hGF O O O sizeOf145 O O aE O<|aa<|ao<|Rr<|?_
    exact aF 4 O O O isAgg145 sizeOf145 O (λw' hw'=>⟨by rw[Sd,Up.fb,Up.rip,hi,hf,hmo];rfl,ae hw'⟩)
 ·refine aV 3 O O ((bu (o:=0) (p:=0) (Up.l1) (Hd.a_s)) 0 (U64 u.at_.s) O) isAgg22 O O ?_
  rcases Bool.eq_false_or_eq_true u.isf with hf|hf
  ·refine Cc O ent122 (λw' hw' hG=>mQ c hc_ (u.at_.s) w' hG)<|Asg O<|aa<|Xa [0,1,2,3,4,5,6,7,8,9,10,11,12,13,14,15,16,17,18,19,20,21,22,23,24,25,26,27,28,29,30,31,32,33,34,35,36] ⟨37,6,145,ZSd⟩ [38] (bH O zv145 O)<|Fa 597 O underlying71 O sizeOf69<|Fa 597 O underlying69 O sizeOf65<|aV 3 O O ((bu (o:=597) (p:=0) (Up.l6 hk) (Ag.a0)) 0 (.slice u.sy.ba u.sy.bs.length u.sy.bc) O) isAgg65 O O<|Cc O ent123 (λw' hw' hG=>ou u.sy.bs om _ _ w' hG (hca.grow (ae hw')))<|az (cs:=u.cs) O isAgg71 sizeOf71 (Up.len hk) (λw' hw' j v hv=>by have:=(av (n:=3) O w' hw') _ v (d6 j v hv);rwa [Nat.zero_add]at this) O O<|Cc O ent19 (λw' hw' hG=>nn u hk w' hG)<|?_
   rw[hi];refine Mv O<|Sk<|Sk<|Sk<|Sk<|Sk<|Sk<|Pk O O O<|az (cs:=u.cs) O isAgg71 sizeOf71 (Up.len hk) (λw' hw' j v hv=>by have:=(av (n:=3) O w' hw') _ v (d6 j v hv);rwa [Nat.zero_add]at this) O O<|Cc O ent21 (λw' hw' hG=>jA u hk w' hG)<|?_
   rw[hf];refine az (cs:=u.cs) O isAgg71 sizeOf71 (Up.len hk) (λw' hw' j v hv=>by have:=(av (n:=3) O w' hw') _ v (d6 j v hv);rwa [Nat.zero_add]at this) O O<|Cc O ent21 (λw' hw' hG=>jA u hk w' hG)<|?_
   rw[hf];refine Mv O<|Mv O<|az (cs:=c.cs) O isAgg50 sizeOf50 (Cf.len hc_) (λw' hw' j v hv=>by have:=(av (n:=2) O w' hw') _ v (Cf.all j v hv);rwa [Nat.zero_add]at this) O O<|Fa 307 O underlying71 O sizeOf30<|Fa 307 O underlying30 O sizeOf22<|aV 3 O O ((bu (o:=307) (p:=0) (Up.l4 hk) (Hd.a_s)) 0 (U64 u.fi.s) O) isAgg22 O O<|Cc O ent122 (λw' hw' hG=>mQ c hc_ (u.fi.s) w' hG)<|Bnr (v:=.bool (u.nea c)) O O (λ_=>(bA _ (c.pe u.at_.s) (c.pe u.fi.s)).trans (by rw[m3,show decide (c.pe u.at_.s=c.pe u.fi.s)=u.nea c from decide_eq_decide.2 ⟨Eq.symm,Eq.symm⟩]))<|Pk O O O<|Fa 597 O underlying71 O sizeOf69<|Fa 597 O underlying69 O sizeOf65<|aV 3 O O ((bu (o:=597) (p:=0) (Up.l6 hk) (Ag.a0)) 0 (.slice u.sy.ba u.sy.bs.length u.sy.bc) O) isAgg65 O O<|Cc O ent89 (λw' hw' hG=>na u.sy.bs om _ _ w' hG (hca.grow (ae hw')))<|Fa 0 O underlying71 O sizeOf30<|Fa 0 O underlying30 O sizeOf22<|aV 3 O O ((bu (o:=0) (p:=0) (Up.l1) (Hd.a_s)) 0 (U64 u.at_.s) O) isAgg22 O O<|Fa 694 O underlying71 O sizeOf22<|aV 3 O O ((Up.l7 hk) 0 (U64 u.sl) O) isAgg22 O O<|cj (ps:=[(0,.tmp 15),(1,.tmp 25),(2,.tmp 27),(3,.tmp 38),(4,.tmp 42),(6,.tmp 45),(7,.tmp 47)]) (vs:=[.bool (dq u.sy.bs),.bool (false),.bool true,.bool (u.nea c),I (onN u.sy.bs:Int),U64 u.at_.s,U64 u.sl]) (v:=.agg ([Value.bool (dq u.sy.bs),.bool (false),.bool true,.bool (u.nea c),I (onN u.sy.bs:Int),I 0,U64 u.at_.s,U64 u.sl]:List Value).toArray) O (λw=>wQ _ _ _ _ _ _ _ w) O O<|aa<|?_
   refine ⟨_,_,rfl,hGF,by intro x hx;simp only[List.mem_cons,List.not_mem_nil,or_false]at hx;subst hx;rfl,by intro x hx;simp only[List.mem_cons,List.not_mem_nil,or_false]at hx;subst hx;rfl,λadr2=> ?_⟩
   refine ai 6 hGF O O O sizeOf145 O O aE O<|aa<|ah<|Xp<|Fa 0 O underlying145 O sizeOf4<|?_;rcases Bool.eq_false_or_eq_true (dq u.sy.bs)with hmo|hmo
   ·refine aV (v:=.bool true) 6 O O (by show some (Value.bool (dq u.sy.bs))=_;rw[hmo]) isAgg4 O O<|bV O (λ_=>bP _) O O<|aa<|aH O<|aw<|Xp<|aq 6 O O isAgg145 sizeOf145 O O O<|ai 4 hGF O O O sizeOf145 O O aE O<|aa<|ao<|Rr<|?_
    exact aF 4 O O O isAgg145 sizeOf145 O (λw' hw'=>⟨by rw[Sd,Up.fb,Up.rip,hi,hf,hmo];rfl,ae hw'⟩)
   ·refine aV (v:=.bool false) 6 O O (by show some (Value.bool (dq u.sy.bs))=_;rw[hmo]) isAgg4 O O<|bV O (λ_=>bP _) O O<|aa<|aQ O<|Xq<|Fa 4 O underlying145 O sizeOf3<|aV 6 O O O isAgg3 O O<|Fa 5 O underlying145 O sizeOf3<|cC 6 hGF O O O sizeOf3 O (by show 5<8;decide) O<|aa<|Xp<|aq 6 O O isAgg145 sizeOf145 O O O<|ai 4 hGF O O O sizeOf145 O O aE O<|aa<|ao<|Rr<|?_
    exact aF 4 O O O isAgg145 sizeOf145 O (λw' hw'=>⟨by rw[Sd,Up.fb,Up.rip,hi,hf,hmo];rfl,ae hw'⟩)
  ·refine Cc O ent122 (λw' hw' hG=>mQ c hc_ (u.at_.s) w' hG)<|Asg O<|aa<|Xa [0,1,2,3,4,5,6,7,8,9,10,11,12,13,14,15,16,17,18,19,20,21,22,23,24,25,26,27,28,29,30,31,32,33,34,35,36] ⟨37,6,145,ZSd⟩ [38] (bH O zv145 O)<|Fa 597 O underlying71 O sizeOf69<|Fa 597 O underlying69 O sizeOf65<|aV 3 O O ((bu (o:=597) (p:=0) (Up.l6 hk) (Ag.a0)) 0 (.slice u.sy.ba u.sy.bs.length u.sy.bc) O) isAgg65 O O<|Cc O ent123 (λw' hw' hG=>ou u.sy.bs om _ _ w' hG (hca.grow (ae hw')))<|az (cs:=u.cs) O isAgg71 sizeOf71 (Up.len hk) (λw' hw' j v hv=>by have:=(av (n:=3) O w' hw') _ v (d6 j v hv);rwa [Nat.zero_add]at this) O O<|Cc O ent19 (λw' hw' hG=>nn u hk w' hG)<|?_
   rw[hi];refine Mv O<|Sk<|Sk<|Sk<|Sk<|Sk<|Sk<|Pk O O O<|az (cs:=u.cs) O isAgg71 sizeOf71 (Up.len hk) (λw' hw' j v hv=>by have:=(av (n:=3) O w' hw') _ v (d6 j v hv);rwa [Nat.zero_add]at this) O O<|Cc O ent21 (λw' hw' hG=>jA u hk w' hG)<|?_
   rw[hf];refine az (cs:=u.cs) O isAgg71 sizeOf71 (Up.len hk) (λw' hw' j v hv=>by have:=(av (n:=3) O w' hw') _ v (d6 j v hv);rwa [Nat.zero_add]at this) O O<|Cc O ent21 (λw' hw' hG=>jA u hk w' hG)<|?_
   rw[hf];refine Mv O<|Sk<|Sk<|Sk<|Sk<|Sk<|Sk<|Sk<|Pk O O O<|Fa 597 O underlying71 O sizeOf69<|Fa 597 O underlying69 O sizeOf65<|aV 3 O O ((bu (o:=597) (p:=0) (Up.l6 hk) (Ag.a0)) 0 (.slice u.sy.ba u.sy.bs.length u.sy.bc) O) isAgg65 O O<|Cc O ent89 (λw' hw' hG=>na u.sy.bs om _ _ w' hG (hca.grow (ae hw')))<|Fa 0 O underlying71 O sizeOf30<|Fa 0 O underlying30 O sizeOf22<|aV 3 O O ((bu (o:=0) (p:=0) (Up.l1) (Hd.a_s)) 0 (U64 u.at_.s) O) isAgg22 O O<|Fa 694 O underlying71 O sizeOf22<|aV 3 O O ((Up.l7 hk) 0 (U64 u.sl) O) isAgg22 O O<|cj (ps:=[(0,.tmp 15),(1,.tmp 25),(2,.tmp 27),(3,.tmp 38),(4,.tmp 42),(6,.tmp 45),(7,.tmp 47)]) (vs:=[.bool (dq u.sy.bs),.bool (false),.bool false,.bool (false),I (onN u.sy.bs:Int),U64 u.at_.s,U64 u.sl]) (v:=.agg ([Value.bool (dq u.sy.bs),.bool (false),.bool false,.bool (false),I (onN u.sy.bs:Int),I 0,U64 u.at_.s,U64 u.sl]:List Value).toArray) O (λw=>wQ _ _ _ _ _ _ _ w) O O<|aa<|?_;refine ⟨_,_,rfl,hGF,by intro x hx;simp only[List.mem_cons,List.not_mem_nil,or_false]at hx;subst hx;rfl,by intro x hx;simp only[List.mem_cons,List.not_mem_nil,or_false]at hx;subst hx;rfl,λadr2=> ?_⟩
   refine ai 6 hGF O O O sizeOf145 O O aE O<|aa<|ah<|Xp<|Fa 0 O underlying145 O sizeOf4<|?_;rcases Bool.eq_false_or_eq_true (dq u.sy.bs)with hmo|hmo
   ·refine aV (v:=.bool true) 6 O O (by show some (Value.bool (dq u.sy.bs))=_;rw[hmo]) isAgg4 O O<|bV O (λ_=>bP _) O O<|aa<|aH O<|aw<|Xp<|aq 6 O O isAgg145 sizeOf145 O O O<|ai 4 hGF O O O sizeOf145 O O aE O<|aa<|ao<|Rr<|?_
    exact aF 4 O O O isAgg145 sizeOf145 O (λw' hw'=>⟨by rw[Sd,Up.fb,Up.rip,hi,hf,hmo];rfl,ae hw'⟩)
   ·refine aV (v:=.bool false) 6 O O (by show some (Value.bool (dq u.sy.bs))=_;rw[hmo]) isAgg4 O O<|bV O (λ_=>bP _) O O<|aa<|aQ O<|Xq<|Fa 4 O underlying145 O sizeOf3<|aV 6 O O O isAgg3 O O<|Fa 5 O underlying145 O sizeOf3<|cC 6 hGF O O O sizeOf3 O (by show 5<8;decide) O<|aa<|Xp<|aq 6 O O isAgg145 sizeOf145 O O O<|ai 4 hGF O O O sizeOf145 O O aE O<|aa<|ao<|Rr<|?_
    exact aF 4 O O O isAgg145 sizeOf145 O (λw' hw'=>⟨by rw[Sd,Up.fb,Up.rip,hi,hf,hmo];rfl,ae hw'⟩)
end
section
open Go.RowKit
open Sh
theorem wt{α:Type}{l:List α}{i:Nat}{x:α}(h:l[i]? =some x):l.drop i=x::l.drop (i+1):=by
 obtain ⟨h1,h2⟩:=List.getElem?_eq_some_iff.1 h;rw[List.drop_eq_getElem_cons h1,h2]
theorem Mj(l:List Int)(hl:l.length<=1000)(a:Option Addr)(cap:Nat)(w:World)(hw:Gt w)(hcl:CellsAt w a (l.map I)):CLS 48 [.slice a l.length cap].toArray w (λe w'=>e=.returned (.bool (grt l))/\Grow w w'):=by
 refine Hf func48 O hw<|λhGF=>Xp<|Asg O<|aa<|jO<|Xp<|Asg O<|aa<|ah<|mg<|ah<|Xp<|Mv O<|bB O (λ_=>aO underlying101 _ _ _ _) O O<|Mv O<|aa<|au<|bW (ι:={i:Nat // i<=l.length/\grt (l.drop i)=grt l}) (λx=>[(3,.bool false),(6,.slice a l.length cap),(7,I (l.length:Int)),(8,I (x.1:Int))]) (λ_=>[]) (λx=>l.length-x.1) ⟨0,Nat.zero_le _,rfl⟩ hGF trv trivial<|?_;rintro ⟨i,hi,hgr⟩;dsimp only;refine Xp<|Bnr O O (λ_=>aI _ _ _)<|aa<|ah<|?_;refine cx O (λhc=> ?_) (λhc=> ?_)
 ·have hlt:i<l.length:=(by simp at hc;omega)
  clear hc;obtain ⟨x,hx⟩: ∃x,l[i]? =some x:=⟨_,List.getElem?_eq_getElem hlt⟩;have hdr:=wt hx;refine aw<|ah<|au<|Xp<|?_;obtain ⟨ad,hae,hcell⟩:=hcl i (I x) (by rw[List.getElem?_map,hx];rfl)
  refine dJ (ad:=ad) i 1 (by rw[<-hae];rfl) O underlying101 sizeOf3 O hlt O O<|aT (v:=I x) O isAgg3 (λw' h=>by rw[Nat.mul_one];exact ((ae h).cell (block_lt_of_cell hcell)).trans hcell) O O<|Asg O<|aa<|Xp<|Mv O<|aa<|au<|Xp<|?_
  rcases Bool.eq_false_or_eq_true (decide (x=0))with hq|hq
  ·refine Bnb true O O (λ_=>bK _ x 0) (hq)<|Asg O<|aa<|aQ O<|aw<|Xq<|Bnr (v:=I (((i+1:Nat):Int))) O O (λ_=>(ay _ _ _ aG).trans aE)<|Mv O<|aa<|?_
   repeat (refine bh ?_)
   exact aY<|⟨rfl,⟨i+1,hlt,by rw[<-hgr,hdr,grt,hq,cond_true]⟩,_,by show l.length-(i+1)<l.length-i;omega,rfl,trv,trivial⟩
  ·refine Bnb false O O (λ_=>bK _ x 0) (hq)<|Asg O<|aa<|aH O<|Xp<|Mv O<|Bnr (v:=.bool (decide (x>0))) O O (λ_=>dE _ x 0)<|Asg O<|aa<|bv<|Xp<|Mv O<|Asg O<|aa<|ao<|?_
   repeat (first|refine da ?_|refine db ?_|refine gr ?_)
   exact ar O O (λw' hw'=>⟨by rw[<-hgr,hdr,grt,hq];rfl,ae hw'⟩)
 ·have hie:i=l.length:=(by simp at hc;omega)
  clear hc;refine bv<|Xp<|Mv O<|Asg O<|aa<|ao<|?_
  repeat (first|refine da ?_|refine db ?_|refine gr ?_)
  exact ar O O (λw' hw'=>⟨by rw[<-hgr,hie,List.drop_length];rfl,ae hw'⟩)
theorem Kw(c:Cf)(hc_:c.Ok)(a b:Up)(ha:a.Ok)(hb:b.Ok)(hla:a.sy.bs.length<=1000)(hlb:b.sy.bs.length<=1000)(w:World)(hw:Gt w)(hca:CellsAt w a.sy.ba (a.sy.bs.map .bool))(hcb:CellsAt w b.sy.ba (b.sy.bs.map .bool)):CLS 49 [.agg c.cs.toArray,.agg a.cs.toArray,.agg b.cs.toArray].toArray w (λe w'=> ∃m,e=.returned (.slice (spt m) 8 8)/\Grow w w'/\w.heap.size<=m/\OwnB w' m ((Mk c a b).map I) 3):=by
 refine Hf func49 O hw<|λhGF=>Xp<|Bx 3 hGF O<|λb3=>Bx 4 hGF O<|λb4=>Bx 5 hGF O<|λb5=>Asg O<|aa<|cU (E:=EE [2999999]) [0,1,2,3,4,5] [⟨6,7,145,ZSd⟩,⟨7,8,145,ZSd⟩] [8,9] de O kr kr kr kr kr kr aC (by intro x hx;simp only[List.mem_cons,List.not_mem_nil,or_false]at hx;rcases hx with rfl|rfl<;>exact bH O zv145 O)<|az (cs:=c.cs) O isAgg50 sizeOf50 (Cf.len hc_) (λw' hw' j v hv=>by have:=(av (n:=3) O w' hw') _ v (Cf.all j v hv);rwa [Nat.zero_add]at this) O O<|az (cs:=a.cs) O isAgg71 sizeOf71 (Up.len ha) (λw' hw' j v hv=>by have:=(av (n:=4) O w' hw') _ v (d6 j v hv);rwa [Nat.zero_add]at this) O O<|Cc O ent85 (λw' hw' hG=>Bl c hc_ a ha hla w' hG (hca.grow (ae hw')))<|az (cs:=c.cs) O isAgg50 sizeOf50 (Cf.len hc_) (λw' hw' j v hv=>by have:=(av (n:=3) O w' hw') _ v (Cf.all j v hv);rwa [Nat.zero_add]at this) O O<|az (cs:=b.cs) O isAgg71 sizeOf71 (Up.len hb) (λw' hw' j v hv=>by have:=(av (n:=5) O w' hw') _ v (d6 j v hv);rwa [Nat.zero_add]at this) O O<|Cc O ent85 (λw' hw' hG=>Bl c hc_ b hb hlb w' hG (hcb.grow (ae hw')))<|aa<|?_
 refine ⟨_,_,rfl,hGF,by intro x hx;simp only[List.mem_cons,List.not_mem_nil,or_false]at hx;rcases hx with rfl|rfl<;>rfl,by intro x hx;simp only[List.mem_cons,List.not_mem_nil,or_false]at hx;rcases hx with rfl|rfl<;>rfl,λadr1=> ?_⟩
 refine ai 7 hGF O O O sizeOf145 O O aE O<|ai 8 hGF O O O sizeOf145 O O aE O<|aa<|Xd []<|Fa 0 O underlying145 O sizeOf4<|aV 7 O O O isAgg4 O O<|Fa 0 O underlying145 O sizeOf4<|aV 8 O O O isAgg4 O O<|Cc O ent86 (λw' hw' hG=>wL (dq a.sy.bs) (dq b.sy.bs) w' hG)<|Fa 5 O underlying145 O sizeOf3<|aV 7 O O O isAgg3 O O<|Fa 5 O underlying145 O sizeOf3<|aV 8 O O O isAgg3 O O<|Cc O ent87 (λw' hw' hG=>Fc (a.fb) (b.fb) w' hG)<|Fa 1 O underlying145 O sizeOf4<|aV 7 O O O isAgg4 O O<|Fa 1 O underlying145 O sizeOf4<|aV 8 O O O isAgg4 O O<|Cc O ent86 (λw' hw' hG=>wL (a.rip c) (b.rip c) w' hG)<|Fa 2 O underlying145 O sizeOf4<|aV 7 O O O isAgg4 O O<|Fa 2 O underlying145 O sizeOf4<|aV 8 O O O isAgg4 O O<|Cc O ent86 (λw' hw' hG=>wL (a.isf) (b.isf) w' hG)<|Fa 3 O underlying145 O sizeOf4<|aV 7 O O O isAgg4 O O<|Fa 3 O underlying145 O sizeOf4<|aV 8 O O O isAgg4 O O<|Cc O ent86 (λw' hw' hG=>wL (a.isf && a.nea c) (b.isf && b.nea c) w' hG)<|Fa 4 O underlying145 O sizeOf3<|aV 7 O O O isAgg3 O O<|Fa 4 O underlying145 O sizeOf3<|aV 8 O O O isAgg3 O O<|Cc O ent87 (λw' hw' hG=>Fc ((onN a.sy.bs:Int)) ((onN b.sy.bs:Int)) w' hG)<|Fa 6 O underlying145 O sizeOf22<|aV 8 O O O isAgg22 O O<|Fa 6 O underlying145 O sizeOf22<|aV 7 O O O isAgg22 O O<|Cc O ent88 (λw' hw' hG=>Fl (b.at_.s) (a.at_.s) w' hG)<|Fa 7 O underlying145 O sizeOf22<|?_;refine aV 8 O O O isAgg22 O O<|Fa 7 O underlying145 O sizeOf22<|aV 7 O O O isAgg22 O O<|Cc O ent88 (λw' hw' hG=>Fl (b.sl) (a.sl) w' hG)<|iF 55 ((Mk c a b).map I) hGF O O O aC aC underlying101 sizeOf3 zeroValue3 O O O<|λb55=>Asg O<|aa<|ao<|Rr<|?_;exact ar O O (λw' hw'=>⟨b55,rfl,ae hw',(hw'.own 55 _ _ _ O).2.elim id False.elim,(hw'.own 55 _ _ _ O).1⟩)
theorem GZ(c:Cf)(a b:Up)(hc_:c.Ok)(ha:a.Ok)(hb:b.Ok)(hla:a.sy.bs.length<=1000)(hlb:b.sy.bs.length<=1000)(w:World)(hw:Gt w)(hca:CellsAt w a.sy.ba (a.sy.bs.map .bool))(hcb:CellsAt w b.sy.ba (b.sy.bs.map .bool)):CLS 17 [.agg c.cs.toArray,.agg a.cs.toArray,.agg b.cs.toArray].toArray w (λe w'=>e=.returned (.bool (Et c a b))/\Grow w w'):=by
 refine Hf func17 O hw<|λhGF=>Xp<|?_;rcases Bool.eq_false_or_eq_true c.rt with hrt|hrt
 ·refine Bx 3 hGF O<|λb3=>Bx 4 hGF O<|λb4=>Bx 5 hGF O<|λb5=>Asg O<|aa<|am (E:=EE [49,2000049])<|az (cs:=c.cs) O isAgg50 sizeOf50 (Cf.len hc_) (λw' hw' j v hv=>by have:=(av (n:=3) O w' hw') _ v (Cf.all j v hv);rwa [Nat.zero_add]at this) O O<|Cc O ent37 (λw' hw' hG=>rA c hc_ w' hG)<|Bnb true O O (λ_=>bK _ c.chk 0) (by rw[Cf.chk,hrt];rfl)<|Mv O<|az (cs:=c.cs) O isAgg50 sizeOf50 (Cf.len hc_) (λw' hw' j v hv=>by have:=(av (n:=3) O w' hw') _ v (Cf.all j v hv);rwa [Nat.zero_add]at this) O O<|az (cs:=a.cs) O isAgg71 sizeOf71 (Up.len ha) (λw' hw' j v hv=>by have:=(av (n:=4) O w' hw') _ v (d6 j v hv);rwa [Nat.zero_add]at this) O O<|az (cs:=b.cs) O isAgg71 sizeOf71 (Up.len hb) (λw' hw' j v hv=>by have:=(av (n:=5) O w' hw') _ v (d6 j v hv);rwa [Nat.zero_add]at this) O O<|?_
  refine er O O ent49 O O (λw' hw'=>(Kw c hc_ a b ha hb hla hlb w' (hGF.g _ _ _ hw') (hca.grow (ae hw')) (hcb.grow (ae hw'))).mono λe1 w2 h=> ?_);obtain ⟨m,rfl,hgm,hnm,hom⟩:=h;refine ⟨_,_,rfl,aU hGF,hw'.news aJ hgm [(14,m,(Mk c a b).map I,3)] (DJ hnm hom) cE,dU aJ O, ?_⟩;clear hw' hgm hnm hom;refine Cc O ent48 (λw' hw' hG=>Mj (Mk c a b) (by show 8<=1000;decide) _ 8 w' hG (CellsAt.range (av (n:=14) O w' hw')))<|Pk O O O<|Asg O<|aa<|ao<|Rr<|?_
  exact ar O O (λw' hw'=>⟨by rw[Et,hrt,cond_true,<-GF];rfl,ae hw'⟩)
 ·refine Bx 3 hGF O<|λb3=>Bx 4 hGF O<|λb4=>Bx 5 hGF O<|λb5=>Asg O<|aa<|Xp<|az (cs:=c.cs) O isAgg50 sizeOf50 (Cf.len hc_) (λw' hw' j v hv=>by have:=(av (n:=3) O w' hw') _ v (Cf.all j v hv);rwa [Nat.zero_add]at this) O O<|Cc O ent37 (λw' hw' hG=>rA c hc_ w' hG)<|Bnb false O O (λ_=>bK _ c.chk 0) (by rw[Cf.chk,hrt];rfl)<|Mv O<|Sk<|Sk<|Sk<|Sk<|Sk<|Pk O O O<|Asg O<|aa<|ao<|Rr<|?_
  exact ar O O (λw' hw'=>⟨by rw[Et,hrt];rfl,ae hw'⟩)
end
section
open Go.RowKit
open Sh
theorem ent187:aL prog 187:=λ_ _=>kr
theorem ent156:aL prog 156:=λ_ _=>kr
theorem ent157:aL prog 157:=λ_ _=>kr
def Chain(w:World)(S:Nat->Prop):List L8->Option Addr->Prop
 |[],p=>p=none
 |x::r,p=> ∃q a c pa,p=some ⟨q,0,none⟩/\w.rangeAt q 0 [.slice a x.length c,.pointer pa]/\BytesAt w a x/\S q/\(∀k,Of a k->S k)/\Chain w S r pa
theorem Chain.mm{M S S':Nat->Prop}{w w':World}(hm:MM M w w')(hS: ∀k,S k->¬M k/\S' k): ∀(ps:List L8) (p:Option Addr),Chain w S ps p->Chain w' S' ps p
 |[],_,h=>h
 |x::r,p,h=>by
  obtain ⟨q,a,c,pa,e,h1,h2,h3,h4,h5⟩:=h;exact ⟨q,a,c,pa,e,hm.range h1 (hS q h3).1,hm.bytes h2 (λad e=>(hS _ (h4 _ ⟨ad,e,rfl⟩)).1),(hS q h3).2,λk hk=>(hS k (h4 k hk)).2,Chain.mm hm hS r pa h5⟩
def WrAt(S:Nat->Prop)(w:World)(b:Nat)(xs:L8):Prop:= ∃ps p,OwnB w b [.pointer p,I (xs.length:Int)] 210/\Chain w S ps p/\ps.reverse.flatten=xs/\¬S b
theorem WrAt.mm{M S S':Nat->Prop}{w w':World}{b:Nat}{xs:L8}(h:WrAt S w b xs)(hm:MM M w w')(hb: ¬M b)(hS: ∀k,S k->¬M k/\S' k)(hb': ¬S' b):WrAt S' w' b xs:=by
 obtain ⟨ps,p,h1,h2,h3,_⟩:=h;exact ⟨ps,p,hm.own h1 hb,h2.mm hm hS,h3,hb'⟩
theorem WrAt.grow{S:Nat->Prop}{w w':World}{b:Nat}{xs:L8}(h:WrAt S w b xs)(hg:Grow w w'):WrAt S w' b xs:=by
 have hb:=h;obtain ⟨_,_,_,_,_,hb⟩:=hb;exact h.mm (M:=λ_=>False) (aZ hg) id (λk hk=>⟨id,hk⟩) hb
theorem WrAt.lt{S:Nat->Prop}{w:World}{b:Nat}{xs:L8}(h:WrAt S w b xs):b<w.heap.size:=by
 obtain ⟨_,_,h1,_⟩:=h;exact h1.lt
theorem WrAt.out{S:Nat->Prop}{w:World}{b:Nat}{xs:L8}(h:WrAt S w b xs): ¬S b:=by
 obtain ⟨_,_,_,_,_,h1⟩:=h;exact h1
theorem bldP(a:Option Addr)(n c:Nat)(p:Option Addr)(w:World):(Instr.build 250 #[(0,.slice a n c),(1,.pointer p)]).run prog w=.ok (.agg [.slice a n c,.pointer p].toArray) w:=by
 simp[Instr.build,zeroValue250,run_underlying underlying250,sizeOf123,sizeOf208,Value.cells,Instr.fill]
theorem ML(b:Nat)(p:Option Addr)(xs ys:L8)(a:Option Addr)(cap:Nat)(w:World)(hw:Gt w)(hbl:6<=b)(ho:OwnB w b [.pointer p,I (xs.length:Int)] 210)(hl:xs.length<=1000000)(hl2:ys.length<=1000000):CLS 187 [pnt b,.slice a ys.length cap].toArray w (λr w'=> ∃q,r=.returned (.tuple #[])/\MM (λk=>k=b) w w'/\OwnB w' b [pnt q,I ((xs++ys).length:Int)] 210/\(w.heap.size<=q/\q<w'.heap.size)/\w'.rangeAt q 0 [.slice a ys.length cap,.pointer p]):=by
 have hGF:BOk Gt (plM w (λk=>k=b)):=mX gt_low hw (λm e=>e▸hbl);exact eM (G:=Gt) func187 O O (Hp (plM w (λk=>k=b)) [(0,b,[.pointer p,I (xs.length:Int)],210)]) (jg ho O) (aU hGF)<|Xp<|Mv O<|Mv O<|Mv O<|aR O O O<|Fa 0 O underlying210 O sizeOf208<|aV 0 O O O isAgg208 O O<|cj (ps:=[(0,.tmp 5),(1,.tmp 9)]) (vs:=[.slice a ys.length cap,.pointer p]) O (λw=>bldP a ys.length cap p w) O O<|Bx 11 hGF O<|λb11=>aR O O O<|Fa 0 O underlying210 O sizeOf208<|cC 0 hGF O O O sizeOf208 O (by simp[*]) O<|aa<|Xq<|Mv O<|aR O O O<|Fa 1 O underlying210 O sizeOf3<|aV 0 O O O isAgg3 O O<|Mv O<|bB O (λ_=>aO underlying123 _ _ _ _) O O<|Bnr (v:=I (((xs++ys).length:Int))) O O (λ_=>(ay _ _ _ aG).trans (by rw[List.length_append];rfl))<|aR O O O<|Fa 1 O underlying210 O sizeOf3<|cC 0 hGF O O O sizeOf3 O (by simp[*]) O<|aa<|(by first|exact em O (λw' hw'=>⟨b11,rfl,ke hw',(hw'.own 0 _ _ _ O).1,⟨(hw'.own 11 _ _ _ O).2.elim id (λh=>by obtain rfl:b11=b:=h;exact absurd (hw'.inj 11 0 _ _ _ _ _ O O) aC),(hw'.own 11 _ _ _ O).1.lt⟩,(hw'.own 11 _ _ _ O).1.range⟩)|exact ec O (λw' hw'=>⟨b11,rfl,ke hw',(hw'.own 0 _ _ _ O).1,⟨(hw'.own 11 _ _ _ O).2.elim id (λh=>by obtain rfl:b11=b:=h;exact absurd (hw'.inj 11 0 _ _ _ _ _ O O) aC),(hw'.own 11 _ _ _ O).1.lt⟩,(hw'.own 11 _ _ _ O).1.range⟩))
theorem yQ(S:Nat->Prop)(b:Nat)(xs ys:L8)(a:Option Addr)(len cap:Nat)(hlen:ys.length=len)(hl:xs.length<=1000000)(hl2:len<=1000000)(w:World)(hw:Gt w)(hbl:6<=b)(hr:WrAt S w b xs)(hy:BytesAt w a ys)(ha: ¬Of a b):CLS 187 [pnt b,.slice a len cap].toArray w (λr w'=>r=.returned (.tuple #[])/\MM (λk=>k=b) w w'/\WrAt (λk=>S k\/Of a k\/(w.heap.size<=k/\k<w'.heap.size)) w' b (xs++ys)):=by
 subst hlen;obtain ⟨ps,p,ho,hc,he,hb⟩:=hr;refine (ML b p xs ys a cap w hw hbl ho hl hl2).mono λr w' ⟨q,h1,h2,h3,h4,h5⟩=>⟨h1,h2,ys::ps,_,h3,⟨q,a,cap,p,rfl,h5,h2.bytes hy (λad e h=>ha ⟨ad,e,h.symm⟩),.inr (.inr h4),λk hk=>.inr (.inl hk),hc.mm h2 (λk hk=>⟨λh=>hb (h▸hk),.inl hk⟩)⟩,by rw[List.reverse_cons,List.flatten_append,he];simp, ?_⟩
 rintro (h|h|h)
 ·exact hb h
 ·exact ha h
 ·have:=ho.lt;omega
theorem AZ(S:Nat->Prop)(b:Nat)(xs ys:L8)(a:Option Addr)(cap:Nat)(hl:xs.length<=1000000)(hl2:ys.length<=1000000)(w:World)(hw:Gt w)(hbl:6<=b)(hr:WrAt S w b xs)(hy:BytesAt w a ys):CLS 156 [pnt b,.slice a ys.length cap].toArray w (λr w'=>r=.returned (.tuple #[])/\MM (λk=>k=b) w w'/\WrAt (λk=>S k\/(w.heap.size<=k/\k<w'.heap.size)) w' b (xs++ys)):=by
 refine Hf func156 O hw<|λhGF=>am (E:=EE [187])<|Mv O<|bB O (λ_=>aO underlying123 _ _ _ _) O O<|ic (l:=ys.length) (m:=ys.length) (c:=(List.replicate (ys.length) 0#8).map U8) 7 hGF O O (Nat.le_refl _) underlying123 ti5 ⟨om,om,om⟩ (by rw[Nat.mul_one];exact zC _) O O<|λb7=>Asg O<|aa<|am (E:=EE [187])<|Mv O<|Mv O<|ek (cs:=ys) 7 hGF O O O underlying123 kr (Nat.min_self _).symm (λw' h=>hy.grow (ae h)) aB O O<|?_
 rw[dp _ _ aB];refine aa<|cv (E:=EE [187])<|Mv O<|Mv O<|?_;refine cn O O ent187 O O (λw3 hC=>(yQ S b xs ys (spt b7) _ ys.length O hl hl2 w3 (hGF.g _ _ _ hC) hbl (hr.grow (ae hC)) (BytesAt.range (av (n:=7) O w3 hC)) (λ⟨ad,e,hb⟩=>by cases e;dsimp only at hb;have h1:w.heap.size<=b7:=(hC.own 7 _ _ _ O).2.elim id False.elim;have:=hr.lt;omega)).mono λe1 w4 h=> ?_)
 obtain ⟨rfl,hm,hW⟩:=h;have hg3:=ae hC;have hnb:w.heap.size<=b7:=(hC.own 7 _ _ _ O).2.elim id False.elim;have hnl:b7<w3.heap.size:=(hC.own 7 _ _ _ O).1.lt;have hg4:Gt w4:=gt_low.same w3 w4 (λk hk=>hm.keep k (Nat.lt_of_lt_of_le hk (gt_low.size w3 (hGF.g _ _ _ hC))) λh=>om) (hGF.g _ _ _ hC);refine ⟨_,Hp (pl w4) [],rfl,aU (gt_low.plain hg4),cO (pl w4) trivial aJ, ?_⟩;refine aa ?_
 first|exact em O (λw' hw'=>⟨rfl,((aZ hg3).trans hm).trans (aZ (ae hw')),(hW.grow (ae hw')).mm (M:=λ_=>False) (aZ (Grow.refl w')) id (λk hk=>⟨id,by rcases hk with h|⟨ad,e,h⟩|h;exact .inl h;exact .inr (by cases e;dsimp only at h;have:=hm.size;have:=(ae hw').size;omega);exact .inr (by have:=hg3.size;have:=(ae hw').size;omega)⟩) (λh=>h.elim hr.out (by have:=hr.lt;omega))⟩)|exact ec O (λw' hw'=>⟨rfl,((aZ hg3).trans hm).trans (aZ (ae hw')),(hW.grow (ae hw')).mm (M:=λ_=>False) (aZ (Grow.refl w')) id (λk hk=>⟨id,by rcases hk with h|⟨ad,e,h⟩|h;exact .inl h;exact .inr (by cases e;dsimp only at h;have:=hm.size;have:=(ae hw').size;omega);exact .inr (by have:=hg3.size;have:=(ae hw').size;omega)⟩) (λh=>h.elim hr.out (by have:=hr.lt;omega))⟩)
theorem cutW(b s e:Nat):(if e=s then some (⟨b,0,none⟩:Addr)else (some (⟨b,0,none⟩:Addr)).map (·.add (s*1)))=some ⟨b,if e=s then 0 else s,none⟩:=by
 split
 ·rfl
 ·simp[Addr.add]
  intro h;exact h.symm
theorem Es{z x t:L8}{s e o:Nat}(ho:o=if e=s then 0 else s)(he:e=s+x.length)(hz:z=List.replicate e 0#8):lay o (x.map U8) ((z++t).map U8)=((List.replicate s 0#8++x)++t).map U8:=by
 subst hz;by_cases h:e=s
 ·have hx:x=[]:=List.eq_nil_of_length_eq_zero om
  subst hx;rw[h];simp[lay]
 ·rw[if_neg h]at ho
  subst ho;rw[iy _ _ _ (by simp;omega)]
  simp only[<-List.map_take,<-List.map_drop,<-List.map_append,List.length_map];congr 1;rw[List.take_append_of_le_length (by simp;omega),List.take_replicate,Nat.min_eq_left om,<-he,List.drop_append_of_le_length aB,List.drop_replicate,Nat.sub_self]
  simp
structure LaV(w:World)(S:Nat->Prop)(ps:List L8) where
 (d r:List L8) (p:Option Addr)
 h:d++r=ps
 c:Chain w S r p
theorem yu(S:Nat->Prop)(b:Nat)(xs:L8)(hl:xs.length<=1000000)(w:World)(hw:Gt w)(hr:WrAt S w b xs):CLS 157 [pnt b].toArray w (λe w'=> ∃v,e=.returned v/\Grow w w'/\Fr8 w w' v xs):=by
 obtain ⟨ps,p0,ho,hch,he,_⟩:=hr;refine Hf func157 O hw<|λhGF=>Xp<|Asg O<|aa<|Xp<|Mv O<|aR O O O<|Fa 1 O underlying210 O sizeOf3<|aT O isAgg3 (λw' h=>((ho.grow (ae h)).cell 1).trans O) O O<|ic (l:=xs.length) (m:=xs.length) (c:=(List.replicate (xs.length) 0#8).map U8) 11 hGF O O (Nat.le_refl _) underlying123 ti5 ⟨om,om,om⟩ (by rw[Nat.mul_one];exact zC _) O O<|λb11=>Asg O<|aa<|Xp<|Mv O<|bB O (λ_=>aO underlying123 _ _ _ _) O O<|Asg O<|aa<|ah<|Xp<|Mv O<|aR O O O<|Fa 0 O underlying210 O sizeOf208<|aT O isAgg208 (λw' h=>((ho.grow (ae h)).cell 0).trans O) O O<|Asg O<|aa<|au<|bW (ι:=LaV w S ps) (λy=>[(0,pnt b),(3,.slice (spt b11) xs.length xs.length),(4,I ((y.r.reverse.flatten).length:Int)),(5,.pointer y.p)]) (λy=>[(11,b11,((List.replicate (y.r.reverse.flatten).length 0#8++y.d.reverse.flatten).map U8),5)]) (λy=>y.r.length) ⟨[],ps,p0,rfl,hch⟩ hGF ⟨rfl,rfl,by rw[he];rfl,rfl,trivial⟩ ⟨by rw[he];simp;rfl,trivial⟩<|?_
 rintro ⟨d,r,p,hdr,hc⟩;dsimp only;have hc2:=hc;clear hc;refine ah<|Xp<|Mv O<|Bnr O O (λw'=>yo underlying208 _ w')<|aa<|?_;refine cx O (λhc=> ?_) (λhc=> ?_)
 ·obtain ⟨x,r,rfl⟩: ∃x r',r=x::r':=by
   cases r with
   |nil=>rw[show p=none from hc2]at hc;cases hc
   |cons x r=>exact ⟨x,r,rfl⟩
  clear hc;obtain ⟨q,a,c,pa,rfl,hrg,hby,hSq,hSa,hc6⟩:=hc2;have hr0:=hrg 0 _ O;have hr1:=hrg 1 _ O;have hlen:((x::r).reverse.flatten).length=(r.reverse.flatten).length+x.length:=by rw[List.reverse_cons,List.flatten_append,List.length_append];simp
  have htot:((x::r).reverse.flatten).length+(d.reverse.flatten).length=xs.length:=by rw[<-he,<-hdr,List.reverse_append,List.flatten_append,List.length_append]
  have hcl:(List.replicate ((x::r).reverse.flatten).length 0#8++d.reverse.flatten).length=xs.length:=by rw[List.length_append,List.length_replicate,htot]
  refine aw<|ah<|au<|Xp<|Mv O<|Mv O<|aR O O O<|Fa 0 O underlying250 O sizeOf123<|aT O isAgg123 (λw' h=>((ae h).cell (block_lt_of_cell hr0)).trans hr0) O O<|bB O (λ_=>aO underlying123 _ _ _ _) O O<|Bnr (v:=I (((r.reverse.flatten).length:Int))) O O (λ_=>(bC _ _ _ aG).trans (by congr 2;omega))<|Asg O<|aa<|Xd []<|Mv O<|Mv O<|Mv O<|Mv O<|o0 (l:=(r.reverse.flatten).length) (h':=((x::r).reverse.flatten).length) (m:=((x::r).reverse.flatten).length) O underlying123 sizeOf5 O O O ⟨om,Nat.le_refl _,om⟩ O O<|?_
  rw[cutW];refine Mv O<|aR O O O<|Fa 0 O underlying250 O sizeOf123<|aT O isAgg123 (λw' h=>((ae h).cell (block_lt_of_cell hr0)).trans hr0) O O<|ek (cs:=x) 11 hGF O O O underlying123 kr (by rw[hlen,Nat.add_sub_cancel_left];exact (Nat.min_self _).symm) (λw' h=>hby.grow (ae h)) (by split<;>simp<;>omega) O O<|?_
  rw[Es (t:=d.reverse.flatten) O hlen O];refine aa<|Xq<|Mv O<|Asg O<|aa<|Xq<|Mv O<|aR O O O<|Fa 1 O underlying250 O sizeOf208<|aT O isAgg208 (λw' h=>((ae h).cell (block_lt_of_cell hr1)).trans hr1) O O<|Asg O<|aa<|?_
  repeat (refine bh ?_)
  exact aY<|⟨rfl,⟨d++[x],r,pa,by rw[List.append_assoc];exact hdr,hc6⟩,_,by show r.length<r.length+1;omega,rfl,trv,⟨by rw[List.reverse_append];simp[List.append_assoc];rfl,trivial⟩⟩
 ·have hrn:r=[]:=by
   cases r with
   |nil=>rfl
   |cons x r=>obtain ⟨_,_,_,_,rfl,_⟩:=hc2;cases hc
  subst hrn;rw[List.append_nil]at hdr;subst hdr;refine bv<|Xp<|Mv O<|Asg O<|aa<|ao<|Rr<|?_;exact ar O O (λw' hw'=>⟨_,rfl,ae hw',wy (n:=11) hw' (by rw[<-he];rfl)⟩)
end
section
open Go.RowKit
open Sh
def FRK(v:L8)(g:Rt):Rt:=P2 (ei v) g
def DOM(c:Cf):Rt:=[7#8,0#8,0#8,0#8]++(FRK c.v c.g).take 28
def MSG(c:Cf)(h:Hd):Rt:=P2 h.rt (DOM c)
theorem xc(v:L8)(g:Rt):(FRK v g).length=32:=cZ _ _
theorem DX(c:Cf):(DOM c).length=32:=by rw[DOM,List.length_append,List.length_take,xc];rfl
theorem Cf.at_g{c:Cf}(j:Nat)(v:Value)(h:(c.g.map U8)[j]? =some v):c.cs[0+j]? =some v:=by
 rw[Nat.zero_add,Cf.cs,List.getElem?_append_left (List.getElem?_eq_some_iff.1 h).1];exact h
theorem Cf.at_v{c:Cf}(k:c.Ok)(j:Nat)(v:Value)(h:(c.v.map U8)[j]? =some v):c.cs[32+j]? =some v:=by
 rw[Cf.cs,List.getElem?_append_right (by rw[List.length_map,k.g];omega),List.length_map,k.g,Nat.add_sub_cancel_left,List.getElem?_append_left (List.getElem?_eq_some_iff.1 h).1];exact h
def JJ(w w':World)(e:Ending)(xs:L8)(n:Nat):Prop:= ∃b cs cap,e=.returned (.slice (spt b) n cap)/\Grow w w'/\w.heap.size<=b/\OwnB w' b cs 5/\cs.length=cap/\n<=cap/\cs.take n=xs.map U8
end
section
open Go.RowKit
open Sh
theorem ent79:aL prog 79:=λ_ _=>kr
theorem ent119:aL prog 119:=λ_ _=>kr
theorem ent83:aL prog 83:=λ_ _=>kr
theorem ent82:aL prog 82:=λ_ _=>kr
theorem ent40:aL prog 40:=λ_ _=>kr
theorem ent43:aL prog 43:=λ_ _=>kr
theorem i4(l:List Rt)(hl:AllR l)(hln:l.length<=65536)(a:Option Addr)(cap:Nat)(w:World)(hw:Gt w)(hr:RtsAt w a l):CLS 79 [.slice a l.length cap].toArray w (λe w'=>e=.returned (.agg ((Tor l).map U8).toArray)/\Grow w w'):=by
 refine Hf func79 O hw<|λhGF=>Xp<|Al 2 hGF zv28<|λb2=>aa<|Xp<|Mv O<|Mv O<|bB O (λ_=>aO underlying86 _ _ _ _) O O<|Cc O ent114 (λw' hw' hG=>xu (l.length:Int) om l hl l.length O hln a cap (by rw[Int.toNat_natCast];omega) w' hG (hr.grow (ae hw')))<|?_
 rw[Int.toNat_natCast,show tre P2 Z0 (dep l.length) l=Tor l from O];refine Mv O<|Exq O O<|Exq O O<|Al 3 hGF zv27<|λb3=>ai 3 hGF O O O sizeOf27 (by rw[List.length_map];exact cF hl) (by rw[List.length_map];exact cL) (bg _) O<|Asg O<|aa<|Xp<|aq 3 O O isAgg27 sizeOf27 (by rw[List.length_map];exact cF hl) O O<|ai 2 hGF O O O sizeOf28 (by rw[List.length_map];exact cF hl) (by rw[List.length_map];exact cL) (bg _) O<|aa<|ao<|Rr<|?_
 exact aF 2 O O O isAgg28 sizeOf28 (by rw[List.length_map];exact cF hl) (λw' hw'=>⟨rfl,ae hw'⟩)
theorem Ea:BR8 []=Tor []:=by rw[BR8,show chs []=[]from O]
theorem J3(a:Option Addr)(cap:Nat)(w:World)(hw:Gt w):CLS 119 [.slice a 0 cap].toArray w (λe w'=>e=.returned (.agg ((BR8 []).map U8).toArray)/\Grow w w'):=by
 refine Hf func119 O hw<|λhGF=>am (E:=EE [151])<|Al 2 hGF zv28<|λb2=>aa<|am (E:=EE [151])<|Mv O<|?_;refine cn O O ent151 O O (λw' hw'=>(nh [] a cap aC (Nat.zero_le _) w' (hGF.g _ _ _ hw') (jJ _ _)).mono λe1 w2 h=> ?_);obtain ⟨_,rfl,hg,a9,c9,rfl,hs9,hn9⟩:=h;refine ⟨_,_,rfl,aU hGF,hw'.news aJ hg [] (λ_ _ _ _ h=>by cases h) (λ_ _ _ _ _ _ _ h=>by cases h), ?_⟩
 clear hw' hg hs9 hn9;refine Cc O ent79 (λw' hw' hG=>i4 [] (λ_ h=>by simp at h) aC a9 c9 w' hG (rV _ _)) ?_
 rw[<-Ea];refine ai 2 hGF O O O sizeOf28 (by rw[List.length_map];exact dF []) (by rw[List.length_map];exact cL) (bg _) O<|aa<|ao<|Rr<|?_
 exact aF 2 O O O isAgg28 sizeOf28 (by rw[List.length_map];exact dF []) (λw' hw'=>⟨rfl,ae hw'⟩)
theorem Me(bs:By)(h0:0<bs.length)(hl:bs.length<=1000000)(a:Option Addr)(cap:Nat)(hc:bs.length<=cap)(w:World)(hw:Gt w)(hb:BytesAt w a bs):CLS 119 [.slice a bs.length cap].toArray w (λe w'=>e=.returned (.agg ((BR8 bs).map U8).toArray)/\Grow w w'):=by
 refine Hf func119 O hw<|λhGF=>am (E:=EE [151])<|Al 2 hGF zv28<|λb2=>aa<|am (E:=EE [151])<|Mv O<|?_;refine cn O O ent151 O O (λw' hw'=>(nh bs a cap hl hc w' (hGF.g _ _ _ hw') (hb.grow (ae hw'))).mono λe1 w2 h=> ?_);obtain ⟨_,rfl,hg,a9,c9,rfl,hs9,hn9⟩:=h;unfold SlR at hs9;rw[tP,<-gV]at hs9;obtain ⟨b9,cs9,rfl,ho9,hl9,hc9,_,ht9⟩:=hs9.resolve_left (λh=>by have h3:=h.2.2.1;rw[gV]at h3;unfold cks at h3;omega)
 refine ⟨_,_,rfl,aU hGF,hw'.news aJ hg [(4,b9,cs9,27)] ?_ cE, ?_⟩
 ·intro n' b' c' t' hl
  rcases bx hl with ⟨_,e⟩|⟨_,hl⟩
  ·cases e;exact ⟨hn9 _ O,ho9⟩
  ·cases hl
 rw[<-gV];rw[List.length_map,cR _ (gX bs)]at ht9;clear hw' hg hn9 ho9;refine Cc O ent79 (λw' hw' hG=>i4 (chs bs) (gX bs) (by rw[gV];unfold cks;omega) _ c9 w' hG (gq (n:=4) (gX bs) O ht9 w' hw')) ?_
 rw[show Tor (chs bs)=BR8 bs from O];refine ai 2 hGF O O O sizeOf28 (by rw[List.length_map];exact dF bs) (by rw[List.length_map];exact cL) (bg _) O<|aa<|ao<|Rr<|?_
 exact aF 2 O O O isAgg28 sizeOf28 (by rw[List.length_map];exact dF bs) (λw' hw'=>⟨rfl,ae hw'⟩)
theorem xU(bs:By)(hl:bs.length<=1000000)(a:Option Addr)(cap:Nat)(hc:bs.length<=cap)(w:World)(hw:Gt w)(hb:BytesAt w a bs):CLS 119 [.slice a bs.length cap].toArray w (λe w'=>e=.returned (.agg ((BR8 bs).map U8).toArray)/\Grow w w'):=by
 rcases Nat.eq_zero_or_pos bs.length with h0|h0
 ·obtain rfl:bs=[]:=List.eq_nil_of_length_eq_zero h0
  exact J3 a cap w hw
 ·exact Me bs h0 hl a cap hc w hw hb
theorem ES(k:By)(hk:k.length=48)(w:World)(hw:Gt w):CLS 83 [.agg (k.map U8).toArray].toArray w (λe w'=>e=.returned (.agg ((BR8 k).map U8).toArray)/\Grow w w'):=by
 refine Hf func83 O hw<|λhGF=>Xp<|Bx 1 hGF O<|λb1=>Al 2 hGF zv28<|λb2=>aa<|Xp<|d9 (n:=48) O underlying33 sizeOf5 aC O O<|Cc O ent119 (λw' hw' hG=>by rw[<-hk];exact xU k (by rw[hk];decide) _ k.length (Nat.le_refl _) w' hG (BytesAt.range (av (n:=1) O w' hw')))<|ai 2 hGF O O O sizeOf28 (by rw[List.length_map];exact dF _) (by rw[List.length_map];exact cL) (bg _) O<|aa<|ao<|Rr<|?_
 exact aF 2 O O O isAgg28 sizeOf28 (by rw[List.length_map];exact dF _) (λw' hw'=>⟨rfl,ae hw'⟩)
structure RwS(n:Nat)(f:Nat->By) where
 (k:Nat) (c:List Value)
 hk:k<=n
 hc:c.length=32*n
 ht:c.take (32*k)=(RW 32 f k).map U8
theorem uu{n k:Nat}{f:Nat->By}{c:List Value}(hk:k<n)(hc:c.length=32*n)(ht:c.take (32*k)=(RW 32 f k).map U8)(hf:(f k).length=32):(lay (0+32*k) ((f k).map U8) c).take (32*(k+1))=(RW 32 f (k+1)).map U8:=by
 rw[Nat.zero_add,iy _ _ _ (by rw[List.length_map,hf,hc];omega),oq f k hf,List.map_append,<-ht,List.take_append_of_le_length (by simp[hc,hf];omega)]
 exact List.take_of_length_le (by simp[hf];omega)
def tz(n:Nat)(f:Nat->By):RwS n f:=⟨0,(List.replicate (32*n) 0#8).map U8,Nat.zero_le _,aB,by simp[RW]⟩
theorem vh(ks:List By)(hl: ∀r∈ks,r.length=48)(hln:ks.length<=1000)(a:Option Addr)(cap:Nat)(w:World)(hw:Gt w)(hr:RwsAt 48 w a ks):CLS 82 [.slice a ks.length cap].toArray w (λe w'=>e=.returned (.agg ((Tor (krs ks ks.length)).map U8).toArray)/\Grow w w'):=by
 refine Hf func82 O hw<|λhGF=>Xp<|Al 2 hGF zv28<|λb2=>aa<|Xp<|Mv O<|bB O (λ_=>aO underlying31 _ _ _ _) O O<|ic (l:=ks.length) (m:=ks.length) (c:=(List.replicate (32*ks.length) 0#8).map U8) 8 hGF O O (Nat.le_refl _) underlying86 tiR ⟨om,om,om⟩ (qa _) O O<|λb8=>Asg O<|aa<|ah<|Xp<|Mv O<|bB O (λ_=>aO underlying31 _ _ _ _) O O<|Mv O<|aa<|au<|bW (ι:=RwS ks.length (λi=>BR8 (ks.getD i Z48))) (λx=>[(0,.slice a ks.length cap),(2,pnt b2),(3,.slice (spt b8) ks.length ks.length),(9,.slice a ks.length cap),(10,I (ks.length:Int)),(11,I (x.k:Int))]) (λx=>[(2,b2,Z0.map U8,28),(8,b8,x.c,27)]) (λx=>ks.length-x.k) (tz _ _) hGF trv trv<|?_;rintro ⟨k,c2,hk,hc2,ht2⟩;dsimp only;refine Xp ?_;rcases Nat.lt_or_ge k ks.length with hlt|hge
 ·obtain ⟨y,hiy⟩: ∃y,ks[k]? =some y:=⟨_,List.getElem?_eq_getElem hlt⟩
  have hy:y.length=48:=hl y (List.mem_of_getElem? hiy);obtain ⟨ad,hka,hyc⟩:=hr k y hiy;have hfy:(λi=>BR8 (ks.getD i Z48)) k=(BR8 y):=by show BR8 (ks.getD k Z48)=_;rw[List.getD_eq_getElem?_getD,hiy];rfl
  have hfk:(BR8 y).length=32:=dF y;refine Bnb true O O (λ_=>aI _ _ _) (by simp;omega)<|aa<|ah<|aQ O<|aw<|ah<|au<|Xp<|Mv O<|dJ (ad:=ad) k 48 (by rw[<-hka];rfl) O underlying31 sizeOf33 O hlt O O<|aP (cs:=y.map U8) O isAgg33 sizeOf33 (by rw[List.length_map];exact hy) (λw' h j v hv=>((ae h).cell (block_lt_of_cell (hyc j v hv))).trans (hyc j v hv)) O O<|Al 5 hGF zvK<|λb5=>Asg O<|ai 5 hGF O O O sizeOf33 (by rw[List.length_map];exact hy) (by rw[List.length_map];rfl) (bg _) O<|aa<|Xq<|Mv O<|Mv O<|aq 5 O O isAgg33 sizeOf33 (by rw[List.length_map];exact hy) O O<|Cc O ent83 (λw' hw' hG=>ES y hy w' hG)<|gG (s:=32) k O O underlying86 sizeOf27 O hlt O O<|fZ (vs:=((BR8 y)).map U8) (o:=0+32*k) 8 hGF O O O sizeOf27 (by rw[List.length_map];exact hfk) (bg _) (by rw[List.length_map,hfk,hc2];omega) O<|aa<|Xq<|Bnr (v:=I (((k+1:Nat):Int))) O O (λ_=>(ay _ _ _ aG).trans aE)<|Mv O<|aa<|?_
  repeat (refine bh ?_)
  exact aY<|⟨rfl,⟨k+1,lay (0+32*k) (((BR8 y)).map U8) c2,hlt,by rw[fH];exact hc2,by rw[<-hfy]at hfk⊢;exact uu hlt hc2 ht2 hfk⟩,_,by show ks.length-(k+1)<ks.length-k;omega,rfl,trv,trv⟩
 ·obtain rfl:k=ks.length:=om
  rw[tO]at ht2;have hAl:=fo ks ks.length;have hLn:(krs ks ks.length).length=ks.length:=ji _ _;have ht2:c2.take (32*(krs ks ks.length).length)=(krs ks ks.length).flatten.map U8:=by rw[ji];exact ht2
  refine Bnb false O O (λ_=>aI _ _ _) (by rw[decide_eq_false_iff_not];omega)<|aa<|ah<|aH O<|bv<|Xp<|Mv O<|Cc O ent79 (λw' hw' hG=>by have:=i4 (krs ks ks.length) (fo _ _) (by rw[ji];omega) _ ks.length w' hG (gq (n:=8) hAl O ht2 w' hw');rw[hLn]at this;exact this)<|ai 2 hGF O O O sizeOf28 (by rw[List.length_map];exact cF (fo _ _)) (by rw[List.length_map];exact cL) (bg _) O<|aa<|ao<|Rr<|?_
  exact aF 2 O O O isAgg28 sizeOf28 (by rw[List.length_map];exact cF (fo _ _)) (λw' hw'=>⟨rfl,ae hw'⟩)
theorem Hd.c0{h:Hd}: ∀j v,[U64 h.s][j]? =some v->h.cs[0+j]? =some v:=eI (pre:=[]) (post:=U64 h.p::(h.a.map U8++(h.b.map U8++h.c.map U8))) O
theorem Hd.c1{h:Hd}: ∀j v,[U64 h.p][j]? =some v->h.cs[1+j]? =some v:=eI (pre:=[U64 h.s]) (post:=h.a.map U8++(h.b.map U8++h.c.map U8)) O
theorem Fu(h:Hd)(hk:h.Ok)(w:World)(hw:Gt w):CLS 40 [.agg h.cs.toArray].toArray w (λe w'=>e=.returned (.agg ((h.rt).map U8).toArray)/\Grow w w'):=by
 refine Hf func40 O hw<|λhGF=>am (E:=EE [2999998])<|Bx 1 hGF O<|λb1=>Al 2 hGF zv28<|λb2=>aa<|Xd [2999998]<|Fa 0 O underlying30 O sizeOf22<|aT (v:=U64 h.s) O isAgg22 (λw' hw'=>by have:=(av (n:=1) O w' hw') _ _ (Hd.c0 0 _ O);exact this) O O<|Cc O ent80 (λw' hw' hG=>rd h.s w' hG)<|?_
 rw[show ei (le8 h.s 8)=nR h.s from O];obtain ⟨r5,hr5⟩: ∃x,x=nR h.s:=⟨_,rfl⟩;rw[<-hr5];have hl5:r5.length=32:=by rw[hr5];exact mY _
 refine Fa 1 O underlying30 O sizeOf22<|aT (v:=U64 h.p) O isAgg22 (λw' hw'=>by have:=(av (n:=1) O w' hw') _ _ (Hd.c1 0 _ O);exact this) O O<|Cc O ent80 (λw' hw' hG=>rd h.p w' hG)<|?_
 rw[show ei (le8 h.p 8)=nR h.p from O];obtain ⟨r8,hr8⟩: ∃x,x=nR h.p:=⟨_,rfl⟩;rw[<-hr8];have hl8:r8.length=32:=by rw[hr8];exact mY _
 refine Fa 2 O underlying30 O sizeOf28<|az (cs:=h.a.map U8) O isAgg28 sizeOf28 (by rw[List.length_map];exact hk.a) (λw' hw' j v hv=>by have:=(av (n:=1) O w' hw') _ v (Hd.at_a j v hv);rwa [Nat.zero_add]at this) O O<|Fa 34 O underlying30 O sizeOf28<|az (cs:=h.b.map U8) O isAgg28 sizeOf28 (by rw[List.length_map];exact hk.b) (λw' hw' j v hv=>by have:=(av (n:=1) O w' hw') _ v ((Hd.at_b hk) j v hv);rwa [Nat.zero_add]at this) O O<|Fa 66 O underlying30 O sizeOf28<|az (cs:=h.c.map U8) O isAgg28 sizeOf28 (by rw[List.length_map];exact hk.c) (λw' hw' j v hv=>by have:=(av (n:=1) O w' hw') _ v ((Hd.at_c hk) j v hv);rwa [Nat.zero_add]at this) O O<|ku (uf:=U8) (s:=32) 15 (λi=>([r5,r8,h.a,h.b,h.c]).getD i []) (List.replicate 32 0#8) hGF O O O (λi hi=>(cV hl5 (cV hl8 (cV hk.a (cV hk.b (cV hk.c jY))))) _ (kZ hi)) aC aC underlying86 sizeOf27 O zv27 O O<|?_
 intro b15;rw[show RW 32 (λi=>([r5,r8,h.a,h.b,h.c]).getD i []) 5=([r5,r8,h.a,h.b,h.c]).flatten from iG ([r5,r8,h.a,h.b,h.c]) (cV hl5 (cV hl8 (cV hk.a (cV hk.b (cV hk.c jY)))))];refine lX O O ent79 (λw' hw' hG=>i4 [r5,r8,h.a,h.b,h.c] (cV hl5 (cV hl8 (cV hk.a (cV hk.b (cV hk.c jY))))) (by show 5<=65536;decide) _ 5 w' hG (gq (n:=15) (cV hl5 (cV hl8 (cV hk.a (cV hk.b (cV hk.c jY))))) O (List.take_of_length_le (by rw[List.length_map,cR _ (cV hl5 (cV hl8 (cV hk.a (cV hk.b (cV hk.c jY)))))];exact Nat.le_refl _)) w' hw')) O O<|ai 2 hGF O O O sizeOf28 (by rw[List.length_map];exact cF (cV hl5 (cV hl8 (cV hk.a (cV hk.b (cV hk.c jY)))))) (by rw[List.length_map];exact cL) (bg _) O<|aa<|ao<|Rr<|?_
 exact aF 2 O O O isAgg28 sizeOf28 (by rw[List.length_map];exact cF (cV hl5 (cV hl8 (cV hk.a (cV hk.b (cV hk.c jY)))))) (λw' hw'=>⟨by rw[hr5,hr8];rfl,ae hw'⟩)
theorem KP(c:Co)(hk:c.Ok)(hn:c.ks.length<=1000)(w:World)(hw:Gt w)(hks:RwsAt 48 w c.ka c.ks):CLS 43 [.agg c.cs.toArray].toArray w (λe w'=>e=.returned (.agg ((c.rt c.ks.length).map U8).toArray)/\Grow w w'):=by
 refine Hf func43 O hw<|λhGF=>am (E:=EE [2999998])<|Bx 1 hGF O<|λb1=>Al 2 hGF zv28<|λb2=>aa<|Xd [2999998]<|Fa 0 O underlying35 O sizeOf31<|aT (v:=.slice c.ka c.ks.length c.kc) O isAgg31 (λw' hw'=>by have:=(av (n:=1) O w' hw') _ _ (Co.a0 0 _ O);exact this) O O<|Cc O ent82 (λw' hw' hG=>vh c.ks hk.ks hn c.ka c.kc w' hG (hks.grow (ae hw')))<|?_
 obtain ⟨r5,hr5⟩: ∃x,x=Tor (krs c.ks c.ks.length):=⟨_,rfl⟩;rw[<-hr5];have hl5:r5.length=32:=by rw[hr5];exact cF (fo _ _)
 refine Fa 1 O underlying35 O sizeOf33<|az (cs:=c.sum.map U8) O isAgg33 sizeOf33 (by rw[List.length_map];exact hk.sum) (λw' hw' j v hv=>by have:=(av (n:=1) O w' hw') _ v (Co.a_sum j v hv);rwa [Nat.zero_add]at this) O O<|Cc O ent83 (λw' hw' hG=>ES c.sum hk.sum w' hG)<|?_
 obtain ⟨r8,hr8⟩: ∃x,x=BR8 c.sum:=⟨_,rfl⟩;rw[<-hr8];have hl8:r8.length=32:=by rw[hr8];exact dF _
 refine ku (uf:=U8) (s:=32) 9 (λi=>([r5,r8]).getD i []) (List.replicate 32 0#8) hGF O O O (λi hi=>(cV hl5 (cV hl8 jY)) _ (kZ hi)) aC aC underlying86 sizeOf27 O zv27 O O ?_;intro b9;rw[show RW 32 (λi=>([r5,r8]).getD i []) 2=([r5,r8]).flatten from iG ([r5,r8]) (cV hl5 (cV hl8 jY))];refine lX O O ent79 (λw' hw' hG=>i4 [r5,r8] (cV hl5 (cV hl8 jY)) (by show 2<=65536;decide) _ 2 w' hG (gq (n:=9) (cV hl5 (cV hl8 jY)) O (List.take_of_length_le (by rw[List.length_map,cR _ (cV hl5 (cV hl8 jY))];exact Nat.le_refl _)) w' hw')) O O<|ai 2 hGF O O O sizeOf28 (by rw[List.length_map];exact cF (cV hl5 (cV hl8 jY))) (by rw[List.length_map];exact cL) (bg _) O<|aa<|ao<|Rr<|?_
 exact aF 2 O O O isAgg28 sizeOf28 (by rw[List.length_map];exact cF (cV hl5 (cV hl8 jY))) (λw' hw'=>⟨by rw[hr5,hr8];rfl,ae hw'⟩)
end
section
open Go.RowKit
open Sh
theorem ent39:aL prog 39:=λ_ _=>kr
theorem ent44:aL prog 44:=λ_ _=>kr
theorem ent42:aL prog 42:=λ_ _=>kr
theorem ent36:aL prog 36:=λ_ _=>kr
theorem ent38:aL prog 38:=λ_ _=>kr
theorem ent41:aL prog 41:=λ_ _=>kr
def FnA(w:World)(v:Value)(a:Int):Prop:= ∃f ft cl,v=.func (.func f) (ft:List Value).toArray (cl:List Value).toArray/\aL prog f/\∀w1,Grow w w1->Gt w1->CLS f (ft++[]++cl).toArray w1 (λe w2=>e=.returned (I a)/\Grow w1 w2)
def Fst(w:World):List Value->Int->Prop
 |[],r=>r=0
 |v::l,r=> ∃a,FnA w v a/\((a=0/\Fst w l r)\/(a≠0/\r=a))
theorem FnA.ok{w:World}{v:Value}{l:List Value}{r:Int}(h:FnA w v 0)(hl:Fst w l r):Fst w (v::l) r:=⟨0,h,.inl ⟨rfl,hl⟩⟩
theorem FnA.no{w:World}{v:Value}{l:List Value}{r:Int}(h:FnA w v r)(hr:r≠0):Fst w (v::l) r:=⟨r,h,.inr ⟨hr,rfl⟩⟩
theorem mP(b:Bool)(k:Int)(w:World)(hw:Gt w):CLS 39 [.bool b,I k].toArray w (λe w'=>e=.returned (I (bif b then 0 else k))/\Grow w w'):=by
 cases b
 ·refine Hf func39 O hw<|λhGF=>Xp<|Asg O<|aa<|ah<|Xp<|Mv O<|aa<|aH O<|aw<|Xp<|Mv O<|Asg O<|aa<|ao<|Rr<|?_
  exact ar O O (λw' hw'=>⟨rfl,ae hw'⟩)
 ·refine Hf func39 O hw<|λhGF=>Xp<|Asg O<|aa<|ah<|Xp<|Mv O<|aa<|aQ O<|Xp<|Asg O<|aa<|ao<|Rr<|?_
  exact ar O O (λw' hw'=>⟨rfl,ae hw'⟩)
theorem E8(l:List Value)(hl:l.length<=1000)(a:Option Addr)(cap:Nat)(r:Int)(w:World)(hw:Gt w)(hcl:CellsAt w a l)(hF:Fst w l r):CLS 44 [.slice a l.length cap].toArray w (λe w'=>e=.returned (I r)/\Grow w w'):=by
 refine Hf func44 O hw<|λhGF=>Xp<|Asg O<|aa<|jO<|Xp<|Asg O<|aa<|ah<|mg<|ah<|Xp<|Mv O<|bB O (λ_=>aO underlying142 _ _ _ _) O O<|Mv O<|aa<|au<|bW (ι:={i:Nat // i<=l.length/\Fst w (l.drop i) r}) (λx=>[(3,I 0),(6,.slice a l.length cap),(7,I (l.length:Int)),(8,I (x.1:Int))]) (λ_=>[]) (λx=>l.length-x.1) ⟨0,Nat.zero_le _,hF⟩ hGF trv trivial<|?_;rintro ⟨i,hi,hFi⟩;dsimp only;refine Xp<|Bnr O O (λ_=>aI _ _ _)<|aa<|ah<|?_;refine cx O (λhc=> ?_) (λhc=> ?_)
 ·have hlt:i<l.length:=(by simp at hc;omega)
  clear hc;obtain ⟨y,hx⟩: ∃y,l[i]? =some y:=⟨_,List.getElem?_eq_getElem hlt⟩;rw[wt hx]at hFi;obtain ⟨x,⟨f,ft,cl,rfl,hen,hfp⟩,hca⟩:=hFi;refine aw<|ah<|au<|Xp<|?_;obtain ⟨ad,hae,hcell⟩:=hcl i _ hx;refine dJ (ad:=ad) i 1 (by rw[<-hae];rfl) O underlying142 sizeOf92 O hlt O O<|aT (v:=.func (.func f) ft.toArray cl.toArray) O isAgg92 (λw' h=>by rw[Nat.mul_one];exact ((ae h).cell (block_lt_of_cell hcell)).trans hcell) O O<|Asg O<|aa<|Xp<|Mv O<|AT (v:=I x) O O hen (λw' hw' hG=>hfp w' (ae hw') hG) hGF O O O<|Asg O<|aa<|Xp<|Mv O<|aa<|au<|Xp<|?_
  rcases hca with ⟨hx0,hrest⟩|⟨hx0,hrx⟩
  ·refine Bnb true O O (λ_=>bK _ x 0) (decide_eq_true hx0)<|Asg O<|aa<|aQ O<|aw<|Xq<|Bnr (v:=I (((i+1:Nat):Int))) O O (λ_=>(ay _ _ _ aG).trans aE)<|Mv O<|aa<|?_
   repeat (refine bh ?_)
   exact aY<|⟨rfl,⟨i+1,hlt,hrest⟩,_,by show l.length-(i+1)<l.length-i;omega,rfl,⟨by rw[hx0];rfl,rfl,rfl,rfl,trivial⟩,trivial⟩
  ·refine Bnb false O O (λ_=>bK _ x 0) (decide_eq_false hx0)<|Asg O<|aa<|aH O<|bv<|Xp<|Mv O<|Asg O<|aa<|ao<|?_
   repeat (first|refine da ?_|refine db ?_|refine gr ?_)
   exact ar O O (λw' hw'=>⟨by rw[hrx],ae hw'⟩)
 ·have hie:i=l.length:=(by simp at hc;omega)
  clear hc;rw[hie,List.drop_length]at hFi;refine bv<|Xp<|Mv O<|Asg O<|aa<|ao<|?_
  repeat (first|refine da ?_|refine db ?_|refine gr ?_)
  exact ar O O (λw' hw'=>⟨by rw[show r=0 from hFi],ae hw'⟩)
theorem Kq(lf:Rt)(hlf:lf.length=32)(l:List Rt)(hl:AllR l)(hln:l.length<=1000)(a:Option Addr)(cap:Nat)(ix:BitVec 64)(st:Rt)(hst_:st.length=32)(w:World)(hw:Gt w)(hr:RtsAt w a l):CLS 42 [.agg (lf.map U8).toArray,.slice a l.length cap,U64 ix,.agg (st.map U8).toArray].toArray w (λe w'=>e=.returned (.bool (vfy lf l ix st))/\Grow w w'):=by
 refine Hf func42 O hw<|λhGF=>Xp<|Bx 4 hGF O<|λb4=>Bx 7 hGF O<|λb7=>Asg O<|aa<|Xp<|Mv O<|bB O (λ_=>aO underlying96 _ _ _ _) O O<|ic (l:=l.length) (m:=l.length) (c:=(List.replicate (32*l.length) 0#8).map U8) 14 hGF O O (Nat.le_refl _) underlying86 tiR ⟨om,om,om⟩ (qa _) O O<|λb14=>Asg O<|aa<|ah<|Xp<|Mv O<|bB O (λ_=>aO underlying96 _ _ _ _) O O<|Mv O<|aa<|au<|bW (ι:=RwS l.length (λi=>l.getD i [])) (λx=>[(1,.slice a l.length cap),(2,U64 ix),(4,pnt b4),(7,pnt b7),(9,.slice (spt b14) l.length l.length),(15,.slice a l.length cap),(16,I (l.length:Int)),(17,I (x.k:Int))]) (λx=>[(4,b4,lf.map U8,28),(7,b7,st.map U8,28),(14,b14,x.c,27)]) (λx=>l.length-x.k) (tz _ _) hGF trv trv<|?_;rintro ⟨k,c2,hk,hc2,ht2⟩;dsimp only;refine Xp ?_;rcases Nat.lt_or_ge k l.length with hlt|hge
 ·obtain ⟨y,hiy⟩: ∃y,l[k]? =some y:=⟨_,List.getElem?_eq_getElem hlt⟩
  have hy:y.length=32:=hl y (List.mem_of_getElem? hiy);obtain ⟨ad,hka,hyc⟩:=hr k y hiy;have hfy:(λi=>l.getD i []) k=y:=by show l.getD k []=_;rw[List.getD_eq_getElem?_getD,hiy];rfl
  refine Bnb true O O (λ_=>aI _ _ _) (by simp;omega)<|aa<|ah<|aQ O<|aw<|ah<|au<|Xp<|Mv O<|dJ (ad:=ad) k 32 (by rw[<-hka];rfl) O underlying96 sizeOf28 O hlt O O<|aP (cs:=y.map U8) O isAgg28 sizeOf28 (by rw[List.length_map];exact hy) (λw' h j v hv=>((ae h).cell (block_lt_of_cell (hyc j v hv))).trans (hyc j v hv)) O O<|Al 11 hGF zv28<|λb11=>Asg O<|ai 11 hGF O O O sizeOf28 (by rw[List.length_map];exact hy) (by rw[List.length_map];rfl) (bg _) O<|aa<|Xq<|Mv O<|Mv O<|aq 11 O O isAgg28 sizeOf28 (by rw[List.length_map];exact hy) O O<|gG (s:=32) k O O underlying86 sizeOf27 O hlt O O<|fZ (vs:=y.map U8) (o:=0+32*k) 14 hGF O O O sizeOf27 (by rw[List.length_map];exact hy) (bg _) (by rw[List.length_map,hy,hc2];omega) O<|aa<|Xq<|Bnr (v:=I (((k+1:Nat):Int))) O O (λ_=>(ay _ _ _ aG).trans aE)<|Mv O<|aa<|?_
  repeat (refine bh ?_)
  exact aY<|⟨rfl,⟨k+1,lay (0+32*k) (y.map U8) c2,hlt,by rw[fH];exact hc2,by have hy2:=hy;rw[<-hfy]at hy2⊢;exact uu hlt hc2 ht2 hy2⟩,_,by show l.length-(k+1)<l.length-k;omega,rfl,trv,trv⟩
 ·obtain rfl:k=l.length:=om
  rw[iG l hl]at ht2;refine Bnb false O O (λ_=>aI _ _ _) (by rw[decide_eq_false_iff_not];omega)<|aa<|ah<|aH O<|bv<|Xp<|az (cs:=lf.map U8) O isAgg28 sizeOf28 (by rw[List.length_map];exact hlf) (λw' hw' j v hv=>by have:=(av (n:=4) O w' hw') _ v (d6 j v hv);rwa [Nat.zero_add]at this) O O<|Mv O<|Mv O<|az (cs:=st.map U8) O isAgg28 sizeOf28 (by rw[List.length_map];exact hst_) (λw' hw' j v hv=>by have:=(av (n:=7) O w' hw') _ v (d6 j v hv);rwa [Nat.zero_add]at this) O O<|Cc O ent81 (λw' hw' hG=>uD lf hlf l hl om _ l.length ix st hst_ w' hG (gq (n:=14) hl O ht2 w' hw'))<|Asg O<|aa<|ao<|Rr<|?_
  exact ar O O (λw' hw'=>⟨rfl,ae hw'⟩)
theorem HP{lf st:Rt}{br:By}{n:Nat}(hn:n<=1000)(hb:br.length=32*n)(hlf:lf.length=32)(hst:st.length=32){x:BitVec 64}{V:Bool}(hV:vfy lf (cT br n) x st=V)(a:Option Addr)(cap:Nat)(w:World)(hw:Gt w)(h:BytesAt w a br):CLS 42 [.agg (lf.map U8).toArray,.slice a n cap,U64 x,.agg (st.map U8).toArray].toArray w (λe w'=>e=.returned (.bool V)/\Grow w w'):=by
 have e:(cT br n).length=n:=dO _ _;have h1:=Kq lf hlf (cT br n) (dh hb) (by rw[e];exact hn) a cap x st hst w hw (oN hb h)
 rw[e,hV]at h1;exact h1
theorem e8{w w':World}{b:Nat}{cs vs:List Value}{o:Nat}(h:w.rangeAt b 0 cs)(hg:Grow w w')(hat: ∀j v,vs[j]? =some v->cs[o+j]? =some v): ∀j v,vs[j]? =some v->w'.cell? ((⟨b,o,none⟩:Addr).add j)=some v:=λj v hv=>by
 have h1:=h _ v (hat j v hv);rw[Nat.zero_add]at h1;rw[Addr.add_mid];exact (hg.cell (block_lt_of_cell h1)).trans h1
theorem iB{w w':World}{b:Nat}{cs:List Value}{o:Nat}{v:Value}(h:w.rangeAt b 0 cs)(hg:Grow w w')(hat:cs[o]? =some v):w'.cell? ⟨b,o,none⟩=some v:=by
 have h1:=h _ v hat;rw[Nat.zero_add]at h1;exact (hg.cell (block_lt_of_cell h1)).trans h1
theorem cM{w w':World}{b:Nat}{cs:List Value}(h:w.rangeAt b 0 cs)(hg:Grow w w'):w'.rangeAt b 0 cs:=λj v hv=>(hg.cell (block_lt_of_cell (h j v hv))).trans (h j v hv)
theorem Mr(c:Cf)(hc_:c.Ok)(p:Nat)(w:World)(hw:Gt w)(hr:w.rangeAt p 0 c.cs):CLS 36 [pnt p].toArray w (λe w'=>e=.returned (I c.chk)/\Grow w w'):=by
 refine Hf func36 O hw<|λhGF=>Xp<|Asg O<|aa<|Xp<|aP (cs:=c.cs) O isAgg50 sizeOf50 (Cf.len hc_) (λw' h=>e8 hr (ae h) (d6)) O O<|Cc O ent37 (λw' hw' hG=>rA c hc_ w' hG)<|Asg O<|aa<|ao<|Rr<|?_;exact ar O O (λw' hw'=>⟨rfl,ae hw'⟩)
theorem Jb(b:Bo)(hb:b.Ok)(t:Rt)(ht:t.length=32)(p q:Nat)(w:World)(hw:Gt w)(hr:w.rangeAt p 0 b.cs)(hs:w.rangeAt q 0 (t.map U8)):CLS 38 [pnt p,pnt q].toArray w (λe w'=>e=.returned (I (bif decide (b.hd.rt=t)then 0 else 230))/\Grow w w'):=by
 refine Hf func38 O hw<|λhGF=>Xp<|Asg O<|aa<|Xd []<|Fa 0 O underlying38 O sizeOf30<|aP (cs:=b.hd.cs) O isAgg30 sizeOf30 (Hd.len hb.hd) (λw' h=>e8 hr (ae h) ((Bo.l1))) O O<|Cc O ent40 (λw' hw' hG=>Fu b.hd hb.hd w' hG)<|aP (cs:=t.map U8) O isAgg28 sizeOf28 (by rw[List.length_map];exact ht) (λw' h=>e8 hs (ae h) (d6)) O O<|dv (v:=.bool (decide (b.hd.rt=t))) O O (λw'=>Am _ _ _ _ _ w') (λw'=>wJ AI aC b.hd.rt t (Hd.rt_len hb.hd) ht w') O O<|Cc O ent39 (λw' hw' hG=>mP (decide (b.hd.rt=t)) 230 w' hG)<|Asg O<|aa<|ao<|Rr<|?_
 exact ar O O (λw' hw'=>⟨rfl,ae hw'⟩)
theorem I2(b:Bo)(hb:b.Ok)(hks:b.nw.ks.length<=1000)(p:Nat)(w:World)(hw:Gt w)(hr:w.rangeAt p 0 b.cs)(hrw:RwsAt 48 w b.nw.ka b.nw.ks):CLS 41 [pnt p].toArray w (λe w'=>e=.returned (I (bif vfy (b.nw.rt b.nw.ks.length) (cT b.br 5) 22#64 b.hd.b then 0 else 231))/\Grow w w'):=by
 refine Hf func41 O hw<|λhGF=>Xp<|Asg O<|aa<|Xd []<|Fa 98 O underlying38 O sizeOf35<|aP (cs:=b.nw.cs) O isAgg35 sizeOf35 (Co.len hb.nw) (λw' h=>e8 hr (ae h) ((Bo.l2 hb))) O O<|Cc O ent43 (λw' hw' hG=>KP b.nw hb.nw hks w' hG (hrw.grow (ae hw')))<|Fa 147 O underlying38 O sizeOf36<|d9 (n:=5) O underlying36 sizeOf28 aC O O<|Fa 0 O underlying38 O sizeOf30<|Fa 34 O underlying30 O sizeOf28<|aP (cs:=b.hd.b.map U8) O isAgg28 sizeOf28 (by rw[List.length_map];exact hb.hd.b) (λw' h=>e8 hr (ae h) ((bu (o:=0) (p:=34) (Bo.l1) (Hd.at_b hb.hd)))) O O<|Cc O ent42 (λw' hw' hG=>HP (n:=5) aC hb.br (Co.rt_len _ _) hb.hd.b O _ 5 w' hG (λj v hv=>⟨_,rfl,e8 hr (ae hw') (Bo.l3 hb) j v hv⟩))<|Cc O ent39 (λw' hw' hG=>mP (vfy (b.nw.rt b.nw.ks.length) (cT b.br 5) 22#64 b.hd.b) 231 w' hG)<|Asg O<|aa<|ao<|Rr<|?_
 exact ar O O (λw' hw'=>⟨rfl,ae hw'⟩)
theorem C7{c:Cf}{t:Rt}{b:Bo}{p q r:Nat}{w:World}(hc_:c.Ok)(ht:t.length=32)(hb:b.Ok)(hks:b.nw.ks.length<=1000)(hp:w.rangeAt p 0 c.cs)(hq:w.rangeAt q 0 (t.map U8))(hr:w.rangeAt r 0 b.cs)(hrw:RwsAt 48 w b.nw.ka b.nw.ks):
 Fst w [.func (.func 36) #[] #[pnt p],.func (.func 38) #[] #[pnt r,pnt q],.func (.func 41) #[] #[pnt r]] (bif c.rt then f7 t b else 210):=by
 have h1:FnA w (.func (.func 36) #[] #[pnt p]) c.chk:=⟨_,[],[pnt p],rfl,ent36,λw1 hg hG=>Mr c hc_ p w1 hG (cM hp hg)⟩;have h2:FnA w (.func (.func 38) #[] #[pnt r,pnt q]) (bif decide (b.hd.rt=t)then 0 else 230):=⟨_,[],[pnt r,pnt q],rfl,ent38,λw1 hg hG=>Jb b hb t ht r q w1 hG (cM hr hg) (cM hq hg)⟩
 have h3:FnA w (.func (.func 41) #[] #[pnt r]) (bif vfy (b.nw.rt b.nw.ks.length) (cT b.br 5) 22#64 b.hd.b then 0 else 231):=⟨_,[],[pnt r],rfl,ent41,λw1 hg hG=>I2 b hb hks r w1 hG (cM hr hg) (hrw.grow hg)⟩
 rcases Bool.eq_false_or_eq_true c.rt with hrt|hrt
 ·rw[show c.chk=0 from by rw[Cf.chk,hrt];rfl]at h1
  rw[hrt,cond_true];refine h1.ok ?_;by_cases e:b.hd.rt=t
  ·rw[decide_eq_true e]at h2
   refine h2.ok ?_;rcases Bool.eq_false_or_eq_true (vfy (b.nw.rt b.nw.ks.length) (cT b.br 5) 22#64 b.hd.b)with hv|hv
   ·rw[hv]at h3;rw[sQ (decide_eq_true e) hv];exact h3.ok O
   ·rw[hv]at h3;rw[xA (decide_eq_true e) hv];exact h3.no aC
  ·rw[decide_eq_false e]at h2
   rw[uL (decide_eq_false e)];exact h2.no aC
 ·rw[show c.chk=210 from by rw[Cf.chk,hrt];rfl]at h1
  rw[hrt];exact h1.no aC
theorem Hv(c:Cf)(t:Rt)(b:Bo)(hc_:c.Ok)(ht:t.length=32)(hb:b.Ok)(hks:b.nw.ks.length<=1000)(w:World)(hw:Gt w)(hrw:RwsAt 48 w b.nw.ka b.nw.ks):CLS 14 [.agg c.cs.toArray,.agg (t.map U8).toArray,.agg b.cs.toArray].toArray w (λe w'=>e=.returned (I (bif c.rt then f7 t b else 210))/\Grow w w'):=by
 refine Hf func14 O hw<|λhGF=>Xp<|Bx 3 hGF O<|λb3=>Bx 4 hGF O<|λb4=>Bx 5 hGF O<|λb5=>Asg O<|aa<|Xp<|dV O O O O<|Asg O<|aa<|Xp<|dV O O O O<|Asg O<|aa<|Xp<|dV O O O O<|Asg O<|aa<|Xp<|Mv O<|Mv O<|Mv O<|iF 16 [.func (.func 36) #[] #[pnt b3],.func (.func 38) #[] #[pnt b5,pnt b4],.func (.func 41) #[] #[pnt b5]] hGF O O O aC aC underlying142 sizeOf92 zeroValue92 O O O<|λb16=>Cc O ent44 (λw' hw' hG=>E8 [.func (.func 36) #[] #[pnt b3],.func (.func 38) #[] #[pnt b5,pnt b4],.func (.func 41) #[] #[pnt b5]] (by show 3<=1000;decide) _ 3 (bif c.rt then f7 t b else 210) w' hG (CellsAt.range (av (n:=16) O w' hw')) (C7 hc_ ht hb hks (av (n:=3) O w' hw') (av (n:=4) O w' hw') (av (n:=5) O w' hw') (hrw.grow (ae hw'))))<|Asg O<|aa<|ao<|Rr<|?_
 exact ar O O (λw' hw'=>⟨rfl,ae hw'⟩)
end
section
open Go.RowKit
open Sh
theorem ent154:aL prog 154:=λ_ _=>kr
theorem ent129:aL prog 129:=λ_ _=>kr
def SlsAt(w:World)(a:Option Addr)(ls:List By):Prop:= ∀i x,ls[i]? =some x->∃ad p c,a=some ad/\w.cell? (ad.add i)=some (.slice p x.length c)/\BytesAt w p x/\x.length<=c
theorem SlsAt.grow{w w':World}{a:Option Addr}{ls:List By}(h:SlsAt w a ls)(hg:Grow w w'):SlsAt w' a ls:=λi x hx=>by
 obtain ⟨ad,p,c,e,h1,h2,h3⟩:=h i x hx;exact ⟨ad,p,c,e,(hg.cell (block_lt_of_cell h1)).trans h1,h2.grow hg,h3⟩
theorem xm{w:World}{b:Nat}{ls:List By}{vs:List Value}(h:w.rangeAt b 0 vs)(hv: ∀(i:Nat) (x:By),ls[i]? =some x->∃p c,vs[i]? =some (Value.slice p x.length c)/\BytesAt w p x/\x.length<=c):SlsAt w (spt b) ls:=λi x hx=>by
 obtain ⟨p,c,h1,h2,h3⟩:=hv i x hx;exact ⟨_,p,c,rfl,by rw[Addr.add_mid];exact h i _ h1,h2,h3⟩
theorem pck1(x:By)(h0:0<x.length)(h32:x.length<=32)(a:Option Addr)(cap:Nat)(hc:x.length<=cap)(w:World)(hw:Gt w)(hb:BytesAt w a x):CLS 151 [.slice a x.length cap].toArray w (λe w'=> ∃b c1,e=.returned (.slice (spt b) 1 c1)/\Grow w w'/\w.heap.size<=b/\w'.rangeAt b 0 ((ei x).map U8)):=
 (nh x a cap om hc w hw hb).mono λe w' ⟨v,h1,h2,a2,c2,h3,hs,hn⟩=>by
  have hk:cks x=1:=by unfold cks;omega
  rw[hk]at h3 hs;have hx:ck x 0=ei x:=by rw[ck,Nat.mul_zero,List.drop_zero,List.take_of_length_le h32]
  have e1:RW 32 (ck x) 1=ei x:=by rw[oq (ck x) 0 (jZ x 0),hx];rfl
  unfold SlR at hs;rw[e1]at hs;obtain ⟨b,hb2,hr⟩:=hs.at (λh=>by have:=congrArg List.length h;rw[List.length_map,eU h32]at this;cases this)
  subst hb2;exact ⟨b,c2,by rw[h1,h3],h2,hn _ O,hr⟩
theorem CV{w:World}{a:Option Addr}{cap:Nat}{l:List Rt}(hl:AllR l)(h:SlR w a cap l.length (λi=>l.getD i [])):RtsAt w a l:=by
 unfold SlR at h;rw[iG l hl]at h;rcases h with ⟨_,_,h3,_⟩|⟨b,c,rfl,ho,_,_,_,h4⟩
 ·obtain rfl:l=[]:=List.eq_nil_of_length_eq_zero h3
  exact rV _ _
 ·exact n8 hl ho.range (by rw[List.length_map,cR _ hl]at h4;exact h4)
theorem B0: ∀(ls:List By),(∀x∈ls,x.length<=1000)->ls.flatten.length<=1000*ls.length
 |[],_=>Nat.le_refl _
 |x::l,h=>by
  rw[List.flatten_cons,List.length_append,List.length_cons];have:=h x List.mem_cons_self;have:=B0 l (λy hy=>h y (List.mem_cons_of_mem _ hy));omega
theorem CW{ls:List By}{k:Nat}{x:By}(h:ls[k]? =some x):(ls.take (k+1)).flatten=(ls.take k).flatten++x:=by
 rw[List.take_add_one,h,List.flatten_append];simp
def pds(ls:List By):List Rt:=ls.map ei
theorem wC{ls:List By}(h: ∀x∈ls,0<x.length/\x.length<=32):AllR (pds ls):=λr hr=>by
 obtain ⟨x,hx,rfl⟩:=List.mem_map.1 hr;exact eU (h x hx).2
theorem rF(ls:List By):(pds ls).length=ls.length:=List.length_map ..
theorem AD{ls:List By}{k:Nat}{x:By}(h:ls[k]? =some x):(pds ls).getD k []=ei x:=by
 rw[List.getD_eq_getElem?_getD,pds,List.getElem?_map,h];rfl
theorem zvW(w:World):(zeroValue 210).run prog w=.ok (.agg ([.pointer none,I 0]:List Value).toArray) w:=zeroValue210 w
theorem rz(ls:List By)(hf: ∀x∈ls,0<x.length/\x.length<=32)(hn:ls.length<=1000)(a:Option Addr)(cap:Nat)(w:World)(hw:Gt w)(hs:SlsAt w a ls):CLS 154 [.slice a ls.length cap].toArray w (λe w'=>e=.returned (.agg ((Tor (pds ls)).map U8).toArray)/\Grow w w'):=by
 refine Hf func154 O hw<|λhGF=>am (E:=EE [151])<|Al 2 hGF zv28<|λb2=>aa<|am (E:=EE [151])<|Asg O<|aa<|ah<|?_;refine eR gt_low (λw3 hC g3=> ?_);have hO:=(hC.own 2 _ _ _ O).1;have h1w:w.heap.size<=b2:=(hC.own 2 _ _ _ O).2.elim id False.elim;have hg3:=ae hC;have hs3:=hs.grow hg3;clear hC;have hGF:=gt_low.plain g3;refine am (E:=EE [151])<|Mv O<|bB O (λ_=>aO underlying207 _ _ _ _) O O<|Mv O<|aa<|au<|j8 gt_low (ι:={x:Nat×World×Option Addr×Nat // x.1<=ls.length/\ApR w3 x.2.1 x.2.2.1 x.2.2.2 x.1 (λi=>(pds ls).getD i [])/\OwnB x.2.1 b2 (Z0.map U8) 28}) (λx=>[(0,.slice a ls.length cap),(2,pnt b2),(3,.slice x.1.2.2.1 x.1.1 x.1.2.2.2),(8,.slice a ls.length cap),(9,I (ls.length:Int)),(10,I (x.1.1:Int))]) (λx=>x.1.2.1) (λx=>ls.length-x.1.1) ⟨(0,w3,none,0),Nat.zero_le _,⟨g3,Grow.refl w3,.inl ⟨rfl,rfl,rfl,rfl⟩,λ_ h=>by cases h⟩,hO⟩ (λx=>x.2.2.1.g) O trv<|?_
 have hO3:=hO.lt;clear hO;rintro ⟨⟨k,wk,ak,ck'⟩,hk,hA,hO⟩;dsimp only at hk hA hO⊢;have hGF:BOk Gt (pl wk):=gt_low.plain hA.g;refine am (E:=EE [151]) ?_;rcases Nat.lt_or_ge k ls.length with hlt|hge
 ·obtain ⟨x,hx⟩: ∃x,ls[k]? =some x:=⟨_,List.getElem?_eq_getElem hlt⟩
  have hxm:=List.mem_of_getElem? hx;have hx0:=(hf x hxm).1;have hx32:=(hf x hxm).2;obtain ⟨ad,p,c,rfl,hcell,hxb,hxc⟩:=(hs3.grow hA.m) k x hx;refine Bnb true O O (λ_=>aI _ _ _) (by simp;omega)<|aa<|ah<|aQ O<|aw<|ah<|au<|am (E:=EE [151])<|io k O O underlying207 sizeOf123 O hlt O O<|aT (v:=.slice p x.length c) O isAgg123 (λw' h=>((ae h).cell (block_lt_of_cell hcell)).trans hcell) O O<|Asg O<|aa<|cv (E:=EE [151])<|Mv O<|Mv O<|?_
  refine ff gt_low (M:=λ_=>False) (λk h=>h.elim) O O ent151 O O hGF (Q:=λw1 w2 v=> ∃b c1,v=.slice (spt b) 1 c1/\w1.heap.size<=b/\w2.rangeAt b 0 ((ei x).map U8)) (λw1 h1 g1=>(pck1 x hx0 hx32 p c hxc w1 g1 (hxb.grow h1)).mono λe w2 ⟨b,c1,h1,h2,h3,h4⟩=>⟨_,h1,aZ h2,b,c1,rfl,h3,h4⟩) (λw5 w6 v hg5 hm6 g6 hq=> ?_);obtain ⟨b6,c6,rfl,hb6,hr6⟩:=hq;have hGF:BOk Gt (pl w6):=gt_low.plain g6;have hg6:=hm6.grow (λ_ _ h=>h);refine j2 (ys:=(ei x).map U8) gt_low (λw' h=>hGF.g _ _ _ h) O O underlying86 underlying86 tiR (by simp[Value.cells]) (λw' h=>hA.s.grow ((hg5.trans hg6).trans (ae h))) (hA.low g3) (by rw[List.length_map];exact eU hx32) (λw' h j v hv=>((ae h).cell (block_lt_of_cell (hr6 j v hv))).trans (hr6 j v hv)) (bg _) (λw' h hof=>absurd (hA.s.lt _ hof) (by have:=hg5.size;omega)) om om O O (λw7 w8 a1 cap1 hC g8 hm8 hs8 ho8=> ?_)
  rw[<-AD hx]at hs8;have hG7:=(hg5.trans hg6).trans (ae hC);have hA2:=hA.next (f:=(λi=>(pds ls).getD i [])) (by show ((pds ls).getD k []).length=32;rw[AD hx];exact eU hx32) hG7 g8 hm8 hs8 ho8
  have hO8:=hm8.own (hO.grow hG7) (λ⟨ad,e,h⟩=>by have:=hA.o ad e;omega)
  have hGF:BOk Gt (pl w8):=gt_low.plain g8;refine Asg O<|aa<|cv (E:=EE [151])<|Bnr (v:=I (((k+1:Nat):Int))) O O (λ_=>(ay _ _ _ aG).trans aE)<|Mv O<|aa<|?_
  repeat (refine bh ?_)
  exact aY<|⟨rfl,⟨(k+1,w8,a1,cap1),hlt,hA2,hO8⟩,by show ls.length-(k+1)<ls.length-k;omega,rfl,trv⟩
 ·obtain rfl:k=ls.length:=om
  have hR:RtsAt wk ak (pds ls):=CV (cap:=ck') (wC hf) (by rw[rF];exact hA.s)
  have hL:=wC hf;refine Bnb false O O (λ_=>aI _ _ _) (by rw[decide_eq_false_iff_not];omega)<|aa<|ah<|aH O<|bv<|am (E:=EE [151])<|Mv O<|Mv O<|bB O (λ_=>aO underlying86 _ _ _ _) O O<|Cc O ent114 (λw' hw' hG=>xu (ls.length:Int) om (pds ls) hL ls.length (rF ls) om ak ck' (by rw[Int.toNat_natCast];omega) w' hG (hR.grow (ae hw')))<|?_
  rw[Int.toNat_natCast,show tre P2 Z0 (dep ls.length) (pds ls)=Tor (pds ls)from by rw[Tor,rF]]
  refine Mv O<|Exq O O<|Exq O O<|Al 6 hGF zv27<|λb6=>ai 6 hGF O O O sizeOf27 (by rw[List.length_map];exact cF hL) (by rw[List.length_map];exact cL) (bg _) O<|Asg O<|aa<|am (E:=EE [151])<|aq 6 O O isAgg27 sizeOf27 (by rw[List.length_map];exact cF hL) O O<|?_
  refine fL (vs:=(Tor (pds ls)).map U8) gt_low (λw' h=>hGF.g _ _ _ h) (λw' h=>hO.grow (ae h)) (Nat.le_trans (gt_low.size w hw) h1w) O O sizeOf28 (by rw[List.length_map];exact cF hL) (bg _) (by rw[List.length_map,cF hL];decide) O (λw8a w8 hC8 g8 hm8 ho8=> ?_)
  rw[dp _ _ (by rw[List.length_map,cF hL];rfl)]at ho8
  have hW8:=hm8.grow0 (hg3.trans (hA.m.trans (ae hC8))) (λk hk=>hk▸h1w);have hGF:=gt_low.plain g8;clear hC8 hm8;refine aa<|ao<|Rr<|?_;exact d8 O O isAgg28 sizeOf28 (by rw[List.length_map];exact cF hL) (λw' h=>(ho8.grow (ae h)).range) (λw' hw'=>⟨rfl,hW8.trans (ae hw')⟩)
theorem qI(ls:List By)(hf: ∀x∈ls,x.length<=1000)(hn:ls.length<=1000)(a:Option Addr)(cap:Nat)(w:World)(hw:Gt w)(hs:SlsAt w a ls):CLS 129 [.slice a ls.length cap].toArray w (λe w'=> ∃v,e=.returned v/\Grow w w'/\Fr8 w w' v ls.flatten):=by
 refine Hf func129 O hw<|λhGF=>am (E:=EE [156,157])<|Asg O<|aa<|am (E:=EE [156,157])<|Al 3 hGF zvW<|λb3=>aa<|ah<|?_;refine eR gt_low (λw3 hC g3=> ?_);have hW:=(hC.own 3 _ _ _ O).1;have h1w:w.heap.size<=b3:=(hC.own 3 _ _ _ O).2.elim id False.elim;have hg3:=ae hC;clear hC;have hGF:=gt_low.plain g3;have hWr:WrAt (λ_=>False) w3 b3 []:=⟨[],none,hW,rfl,rfl,id⟩;refine am (E:=EE [156,157])<|Mv O<|bB O (λ_=>aO underlying207 _ _ _ _) O O<|Mv O<|aa<|au<|j8 gt_low (ι:={x:Nat×World // x.1<=ls.length/\Gt x.2/\Grow w x.2/\∃S,WrAt S x.2 b3 (ls.take x.1).flatten}) (λx=>[(0,.slice a ls.length cap),(3,pnt b3),(6,.slice a ls.length cap),(7,I (ls.length:Int)),(8,I (x.1.1:Int))]) (λx=>x.1.2) (λx=>ls.length-x.1.1) ⟨(0,w3),Nat.zero_le _,g3,hg3,_,hWr⟩ (λx=>x.2.2.1) O trv<|?_;clear hWr hW;rintro ⟨⟨k,wk⟩,hk,gk,hgk,S,hWr⟩;dsimp only at hk gk hgk hWr⊢;have hGF:BOk Gt (pl wk):=gt_low.plain gk;refine am (E:=EE [156,157]) ?_;rcases Nat.lt_or_ge k ls.length with hlt|hge
 ·obtain ⟨x,hx⟩: ∃x,ls[k]? =some x:=⟨_,List.getElem?_eq_getElem hlt⟩
  have hx10:=hf x (List.mem_of_getElem? hx);obtain ⟨ad,p,c,rfl,hcell,hxb,hxc⟩:=(hs.grow hgk) k x hx;have hkl:(ls.take k).flatten.length<=1000000:=by have:=B0 (ls.take k) (λy hy=>hf y (List.mem_of_mem_take hy));rw[List.length_take]at this;omega
  refine Bnb true O O (λ_=>aI _ _ _) (by simp;omega)<|aa<|ah<|aQ O<|aw<|ah<|au<|am (E:=EE [156,157])<|io k O O underlying207 sizeOf123 O hlt O O<|aT (v:=.slice p x.length c) O isAgg123 (λw' h=>((ae h).cell (block_lt_of_cell hcell)).trans hcell) O O<|Asg O<|aa<|cv (E:=EE [156,157])<|Mv O<|?_
  refine ff gt_low (M:=λk=>k=b3) (λk h=>h▸Nat.le_trans (gt_low.size w hw) h1w) O O ent156 O O hGF (Q:=λw1 w2 v=>v=.tuple #[]/\∃S,WrAt S w2 b3 ((ls.take k).flatten++x)) (λw1 h1 g1=>(AZ S b3 _ x p c hkl om w1 g1 (Nat.le_trans (gt_low.size w hw) h1w) (hWr.grow h1) (hxb.grow h1)).mono λe w4 ⟨h1,h2,h4⟩=>⟨_,h1,h2,rfl,_,h4⟩) (λw4 w5 v hg4 hm5 g5 hq=> ?_);obtain ⟨rfl,S2,hWr2⟩:=hq;rw[<-CW hx]at hWr2;have hG5:=hm5.grow0 (hgk.trans hg4) (λk hk=>hk▸h1w);have hGF:=gt_low.plain g5;refine aa<|cv (E:=EE [156,157])<|Bnr (v:=I (((k+1:Nat):Int))) O O (λ_=>(ay _ _ _ aG).trans aE)<|Mv O<|aa<|?_
  repeat (refine bh ?_)
  exact aY<|⟨rfl,⟨(k+1,w5),hlt,g5,hG5,S2,hWr2⟩,by show ls.length-(k+1)<ls.length-k;omega,rfl,trv⟩
 ·obtain rfl:k=ls.length:=om
  rw[List.take_length]at hWr;have hfl:=B0 ls hf;refine Bnb false O O (λ_=>aI _ _ _) (by rw[decide_eq_false_iff_not];omega)<|aa<|ah<|aH O<|bv<|am (E:=EE [156,157])<|?_
  refine ff gt_low (M:=λ_=>False) (λk h=>h.elim) O O ent157 O O hGF (Q:=λw1 w2 v=>Fr8 w1 w2 v ls.flatten) (λw1 h1 g1=>(yu S b3 ls.flatten om w1 g1 (hWr.grow h1)).mono λe w4 ⟨v,h1,h2,h3⟩=>⟨v,h1,aZ h2,h3⟩) (λw6 w7 v hg6 hm7 g7 hq=> ?_);obtain ⟨a9,c9,rfl,hs9,hn9⟩:=hq;have hg7:=hm7.grow (λ_ _ h=>h);have hG7:=(hgk.trans hg6).trans hg7;have hGF:=gt_low.plain g7;refine Asg O<|aa<|ao<|Rr<|?_;exact ar O O (λw' hw'=>⟨_,rfl,hG7.trans (ae hw'),a9,c9,rfl,hs9.grow (ae hw'),λad e=>by have:=hn9 ad e;have:=(hgk.trans hg6).size;omega⟩)
end
section
open Go.RowKit
open Sh
theorem ent155:aL prog 155:=λ_ _=>kr
theorem ent128:aL prog 128:=λ_ _=>kr
theorem ent127:aL prog 127:=λ_ _=>kr
theorem ent94:aL prog 94:=λ_ _=>kr
theorem zvS(w:World):(zeroValue 123).run prog w=.ok (.slice none 0 0) w:=(zeroValue123 w).trans aE
theorem rU{w:World}{b:Nat}{p1 p2:Option Addr}{n1 n2 c1 c2:Nat}{x y:By}(h:w.rangeAt b 0 [.slice p1 n1 c1,.slice p2 n2 c2])(e1:x.length=n1)(e2:y.length=n2)(l1:n1<=c1)(l2:n2<=c2)(h1:BytesAt w p1 x)(h2:BytesAt w p2 y):SlsAt w (spt b) [x,y]:=xm h λi z hz=>by
 obtain rfl|rfl:i=0\/i=1:=by have:=(List.getElem?_eq_some_iff.1 hz).1;simp at this;omega
 ·cases Option.some.inj (show some x=some z from hz);exact ⟨p1,c1,by rw[e1];rfl,h1,om⟩
 ·cases Option.some.inj (show some y=some z from hz);exact ⟨p2,c2,by rw[e2];rfl,h2,om⟩
theorem DV{w:World}{b:Nat}{p1:Option Addr}{n1 c1:Nat}{x:By}(h:w.rangeAt b 0 [.slice p1 n1 c1])(e1:x.length=n1)(l1:n1<=c1)(h1:BytesAt w p1 x):SlsAt w (spt b) [x]:=xm h λi z hz=>by
 obtain rfl:i=0:=by have:=(List.getElem?_eq_some_iff.1 hz).1;simp at this;omega
 cases Option.some.inj (show some x=some z from hz);exact ⟨p1,c1,by rw[e1];rfl,h1,om⟩
theorem Mt(x y:By)(hy:y.length=32):Tor (pds [x,y])=P2 (ei x) y:=by
 rw[show pds [x,y]=[ei x,ei y]from O,DK,show ei y=y from by rw[ei,hy];simp]
theorem vP{w w':World}{e:Ending}{xs:By}(n:Nat)(hn:xs.length=n)(h0:0<n)(h: ∃v,e=.returned v/\Grow w w'/\Fr8 w w' v xs):JJ w w' e xs n:=by
 subst hn;obtain ⟨_,rfl,hg,a,cap,rfl,hs,hn⟩:=h;rcases hs with ⟨_,h,_⟩|⟨b,c,rfl,ho,h1,h2,h3⟩
 ·have:=congrArg List.length h;rw[List.length_map]at this;simp at this;rw[this]at h0;cases h0
 ·rw[List.length_map]at h2 h3
  exact ⟨b,c,cap,rfl,hg,hn _ O,ho,h1,h2,h3⟩
theorem yR(v:By)(gn:Rt)(hv:v.length=4)(hg:gn.length=32)(w:World)(hw:Gt w):CLS 155 [.agg (v.map U8).toArray,.agg (gn.map U8).toArray].toArray w (λe w'=>e=.returned (.agg ((FRK v gn).map U8).toArray)/\Grow w w'):=by
 refine Hf func155 O hw<|λhGF=>Xp<|Bx 2 hGF O<|λb2=>Bx 3 hGF O<|λb3=>Al 4 hGF zv28<|λb4=>aa<|Xd []<|d9 (n:=4) O underlying48 sizeOf5 aC O O<|d9 (n:=32) O underlying28 sizeOf5 aC O O<|iF 7 [Value.slice (spt b2) 4 4,Value.slice (spt b3) 32 32] (z:=.slice none 0 0) hGF O O O aC aC underlying207 sizeOf123 zvS O O O<|λb7=>Cc O ent154 (λw' hw' hG=>rz [v,gn] (λz hz=>(List.mem_cons.1 hz).elim (λe=>by rw[e,hv];decide) (λhz=>by rw[List.mem_singleton.1 hz,hg];decide)) (by show 2<=1000;decide) (spt b7) 2 w' hG (rU (av (n:=7) O w' hw') hv hg (Nat.le_refl _) (Nat.le_refl _) (BytesAt.range (av (n:=2) O w' hw')) (BytesAt.range (av (n:=3) O w' hw'))))<|?_
 rw[Mt _ _ hg];refine ai 4 hGF O O O sizeOf28 (by rw[List.length_map];exact cZ _ _) (by rw[List.length_map];exact cL) (bg _) O<|aa<|ao<|Rr<|?_
 exact aF 4 O O O isAgg28 sizeOf28 (by rw[List.length_map];exact cZ _ _) (λw' hw'=>⟨rfl,ae hw'⟩)
theorem yY(x y:Rt)(hx:x.length=32)(hy:y.length=32)(w:World)(hw:Gt w):CLS 127 [.agg (x.map U8).toArray,.agg (y.map U8).toArray].toArray w (λe w'=>e=.returned (.agg ((P2 x y).map U8).toArray)/\Grow w w'):=by
 refine Hf func127 O hw<|λhGF=>Xp<|Bx 2 hGF O<|λb2=>Bx 3 hGF O<|λb3=>Al 4 hGF zv28<|λb4=>aa<|Xd []<|d9 (n:=32) O underlying28 sizeOf5 aC O O<|d9 (n:=32) O underlying27 sizeOf5 aC O O<|iF 7 [Value.slice (spt b2) 32 32,Value.slice (spt b3) 32 32] (z:=.slice none 0 0) hGF O O O aC aC underlying207 sizeOf123 zvS O O O<|λb7=>Cc O ent154 (λw' hw' hG=>rz [x,y] (λz hz=>(List.mem_cons.1 hz).elim (λe=>by rw[e,hx];decide) (λhz=>by rw[List.mem_singleton.1 hz,hy];decide)) (by show 2<=1000;decide) (spt b7) 2 w' hG (rU (av (n:=7) O w' hw') hx hy (Nat.le_refl _) (Nat.le_refl _) (BytesAt.range (av (n:=2) O w' hw')) (BytesAt.range (av (n:=3) O w' hw'))))<|?_
 rw[Mt _ _ hy];rw[show ei x=x from by rw[ei,hx];simp]
 refine ai 4 hGF O O O sizeOf28 (by rw[List.length_map];exact cZ _ _) (by rw[List.length_map];exact cL) (bg _) O<|aa<|ao<|Rr<|?_
 exact aF 4 O O O isAgg28 sizeOf28 (by rw[List.length_map];exact cZ _ _) (λw' hw'=>⟨rfl,ae hw'⟩)
theorem qF{w:World}{b n:Nat}{cs vs:List Value}(h:w.rangeAt b 0 cs)(ht:cs.take n=vs):w.rangeAt b 0 vs:=λj v hv=>h j v (by
 rw[<-ht,List.getElem?_take]at hv;split at hv
 ·exact hv
 ·cases hv)
theorem yb(c:Cf)(hc:c.Ok)(w:World)(hw:Gt w):CLS 128 [.agg c.cs.toArray].toArray w (λe w'=>e=.returned (.agg ((DOM c).map U8).toArray)/\Grow w w'):=by
 refine Hf func128 O hw<|λhGF=>am (E:=EE [129,1000123])<|Bx 1 hGF O<|λb1=>Al 2 hGF zv27<|λb2=>aa<|am (E:=EE [129,1000123])<|Fa 32 O underlying50 O sizeOf48<|az (cs:=c.v.map U8) O isAgg48 sizeOf48 (by rw[List.length_map];exact hc.v) (λw' hw' j v hv=>by have:=(av (n:=1) O w' hw') _ v (Cf.at_v hc j v hv);rwa [Nat.zero_add]at this) O O<|Fa 0 O underlying50 O sizeOf28<|az (cs:=c.g.map U8) O isAgg28 sizeOf28 (by rw[List.length_map];exact hc.g) (λw' hw' j v hv=>by have:=(av (n:=1) O w' hw') _ v (Cf.at_g j v hv);rwa [Nat.zero_add]at this) O O<|Cc O ent155 (λw' hw' hG=>yR c.v c.g hc.v hc.g w' hG)<|?_
 obtain ⟨fx,hfx⟩: ∃x,FRK c.v c.g=x:=⟨_,rfl⟩;have fxl:fx.length=32:=by rw[<-hfx];exact xc _ _
 rw[hfx];refine Al 3 hGF zv28<|λb3=>ai 3 hGF O O O sizeOf28 (by rw[List.length_map];exact fxl) O (bg _) O<|aa<|am (E:=EE [129,1000123])<|jz 9 [7#8,0#8,0#8,0#8] hGF O O O aC aC underlying123 sizeOf5 (λw=>zeroValue5 w) O O<|λb9=>AN 9 O hGF O O underlying123 underlying5 O O<|ct (l:=0) (h':=28) O underlying28 sizeOf5 O O om om O O<|iF 12 [Value.slice (spt b9) 4 4,Value.slice (spt b3) 28 32] (z:=.slice none 0 0) hGF O O O aC aC underlying207 sizeOf123 zvS O O O<|?_
 intro b12;refine cn O O ent129 O O (λw' hw'=>(qI [[7#8,0#8,0#8,0#8],fx.take 28] (λz hz=>(List.mem_cons.1 hz).elim (λe=>by rw[e];decide) (λhz=>by rw[List.mem_singleton.1 hz,List.length_take];omega)) (by show 2<=1000;decide) (spt b12) 2 w' (hGF.g _ _ _ hw') (rU (av (n:=12) O w' hw') O (by rw[List.length_take,fxl];rfl) (Nat.le_refl _) aC (BytesAt.range (av (n:=9) O w' hw')) (pt (n:=3) O (by rw[List.length_take,fxl,List.map_take];rfl) w' hw'))).mono λe1 w2 h=> ?_)
 obtain ⟨b9,cs9,cap9,rfl,hg,hn9,ho9,hl9,hc9,ht9⟩:=vP 32 (by simp[fxl]) aC h
 rw[show ([[7#8,0#8,0#8,0#8],fx.take 28]:List By).flatten=[7#8,0#8,0#8,0#8]++fx.take 28 from by simp]at ht9
 refine ⟨_,_,rfl,aU hGF,hw'.news aJ hg [(13,b9,cs9,5)] (DJ hn9 ho9) cE, ?_⟩;clear hw' hg hn9 ho9 h;refine IE O underlying27 (Nat.le_refl _) O O<|az (cs:=([7#8,0#8,0#8,0#8]++fx.take 28).map U8) O isAgg27 sizeOf27 (by rw[List.length_map,List.length_append,List.length_take,fxl];rfl) (λw' hw'=>qF (av (n:=13) O w' hw') ht9) O O<|ai 2 hGF O O O sizeOf27 (by rw[List.length_map,List.length_append,List.length_take,fxl];rfl) (by rw[List.length_map];exact cL) (bg _) O<|aa<|ao<|Rr<|?_
 exact aF 2 O O O isAgg27 sizeOf27 (by rw[List.length_map,List.length_append,List.length_take,fxl];rfl) (λw' hw'=>⟨by rw[DOM,hfx],ae hw'⟩)
theorem y0(c:Cf)(h:Hd)(hc:c.Ok)(hk:h.Ok)(w:World)(hw:Gt w):CLS 94 [.agg c.cs.toArray,.agg h.cs.toArray].toArray w (λe w'=>JJ w w' e (MSG c h) 32):=by
 refine Hf func94 O hw<|λhGF=>am (E:=EE [129,2999999])<|Bx 2 hGF O<|λb2=>Bx 3 hGF O<|λb3=>Asg O<|aa<|Xd [129,2999999]<|aq 3 O O isAgg30 sizeOf30 (Hd.len hk) O O<|Cc O ent40 (λw' hw' hG=>Fu h hk w' hG)<|?_;obtain ⟨hr,hhr⟩: ∃x,h.rt=x:=⟨_,rfl⟩;have hrl:hr.length=32:=by rw[<-hhr];exact Hd.rt_len hk
 rw[hhr];refine aq 2 O O isAgg50 sizeOf50 (Cf.len hc) O O<|Cc O ent128 (λw' hw' hG=>yb c hc w' hG)<|?_;obtain ⟨dx,hdx⟩: ∃x,DOM c=x:=⟨_,rfl⟩;have dxl:dx.length=32:=by rw[<-hdx];exact DX _
 rw[hdx];refine Cc O ent127 (λw' hw' hG=>yY hr dx hrl dxl w' hG) ?_;obtain ⟨sx,hsx⟩: ∃x,P2 hr dx=x:=⟨_,rfl⟩;have sxl:sx.length=32:=by rw[<-hsx];exact cZ _ _
 rw[hsx];refine nB 5 hGF zv28 O O O<|λb5=>ai 5 hGF O O O sizeOf28 (by rw[List.length_map];exact sxl) O (bg _) O<|aa<|am (E:=EE [129,2999999])<|d9 (n:=32) O underlying28 sizeOf5 aC O O<|iF 12 [Value.slice (spt b5) 32 32] (z:=.slice none 0 0) hGF O O O aC aC underlying207 sizeOf123 zvS O O O<|?_
 intro b12;refine cn O O ent129 O O (λw' hw'=>(qI [sx] (λz hz=>by rw[List.mem_singleton.1 hz,sxl];decide) (by show 1<=1000;decide) (spt b12) 1 w' (hGF.g _ _ _ hw') (DV (av (n:=12) O w' hw') sxl (Nat.le_refl _) (BytesAt.range (av (n:=5) O w' hw')))).mono λe1 w2 h=> ?_)
 obtain ⟨b9,cs9,cap9,rfl,hg,hn9,ho9,hl9,hc9,ht9⟩:=vP 32 (by simp[sxl]) aC h
 rw[show ([sx]:List By).flatten=sx from by simp]at ht9
 refine ⟨_,_,rfl,aU hGF,hw'.news aJ hg [(13,b9,cs9,5)] (DJ hn9 ho9) cE, ?_⟩;clear hw' hg hn9 ho9;refine Asg O<|aa<|ao<|Rr<|?_;exact ar O O (λw' hw'=>⟨b9,cs9,cap9,rfl,ae hw',(hw'.own 13 _ _ _ O).2.elim id False.elim,(hw'.own 13 _ _ _ O).1,hl9,hc9,by rw[MSG,hhr,hdx,hsx];exact ht9⟩)
end
end Go.Proofs.YtfakhlafilbjkaaGreatDoor
