/- L5 -/
import Derived.Test.YtfakhlafilbjkaaGreatDoorL4
set_option maxRecDepth 100000
set_option maxHeartbeats 1000000
namespace Go.Proofs.YtfakhlafilbjkaaGreatDoor
open Go.Proofs.Tryz
section
open Go.RowKit
open Sh
theorem ent181:aL prog 181:=λ_ _=>kr
theorem ent148:aL prog 148:=λ_ _=>kr
theorem ent180:aL prog 180:=λ_ _=>kr
theorem ent179:aL prog 179:=λ_ _=>kr
theorem ent147:aL prog 147:=λ_ _=>kr
theorem je{P:Program}{G:Cls}{ro:Option Nat}{ops:Array Oper}{N:Nat}{ds:List Deferred}{fs:List Nat}{Z:Fr->Cls->Prop}{F:Fr}{C:Cls}{rest:List Oper}{d:Nat}{ty:TypeId}{pos:String}{af:Array Edge}{gd:Option (Nat×Bool)}{t:TypeId}{x ix:Operand}{s:ByteArray}{y:BitVec 64}(hb:y.toNat<256)(hT:AQ s=true)(hx:evF F x=some (.string s))(hi:evF F ix=some (U8 (y.setWidth 8)))(hu:P.underlying t=some .string)
 (hw:bp ops F ⟨some d,.index t x ix,ty,pos,af,gd⟩=some true) (hd:Nat.blt d N=true) (h: ∀q:BitVec 8,IsL y.toNat q.toNat->Lx P G ro ops N ds (EE fs) Z rest ((d,U8 q)::F) C):Lx P G ro ops N ds (EE fs) Z (⟨some d,.index t x ix,ty,pos,af,gd⟩::rest) F C:=by
 obtain ⟨q,hq,hL⟩:=yH hT hb;have e:(y.setWidth 8).toNat=y.toNat:=by rw[BitVec.toNat_setWidth,Nat.mod_eq_of_lt hb]
 exact Dv hx hi hu om (by rw[Int.toNat_natCast,e];exact hq) hw hd (h q hL)
theorem tH(x:BitVec 64)(w:World)(hw:Gt w):CLS 181 [U64 x].toArray w (λe w'=>e=.returned (I (ln x.toNat:Int))/\Grow w w'):=by
 have hS: ∀k,IsL x.toNat k->IsL x.toNat (k+0):=λk hk=>hk;have hb:x.toNat<4294967296*4294967296:=x.isLt;refine Hf func181 O hw<|λhGF=>Xp<|Asg O<|aa<|ah<|Xp<|Mv O<|?_;rcases Nat.lt_or_ge x.toNat 4294967296 with h|h
 ·have hb:=h
  refine Bnb false O O (λ_=>bQ _ _ _) (by rw[decide_eq_false_iff_not,BitVec.le_def];exact Nat.not_le.2 h)<|aa<|aI O<|ay<|ah<|Xp<|Mv O<|?_
  rcases Nat.lt_or_ge x.toNat 65536 with h|h
  ·have hb:=h
   refine Bnb false O O (λ_=>bQ _ _ _) (by rw[decide_eq_false_iff_not,BitVec.le_def];exact Nat.not_le.2 h)<|aa<|aI O<|ay<|ah<|Xp<|Mv O<|?_
   rcases Nat.lt_or_ge x.toNat 256 with h|h
   ·have hb:=h
    refine Bnb false O O (λ_=>bQ _ _ _) (by rw[decide_eq_false_iff_not,BitVec.le_def];exact Nat.not_le.2 h)<|aa<|aI O<|ay<|Xp<|Mv O<|Mv O<|bB O O (λ_=>cg underlying22 underlying5 _) O O<|?_
    refine je hb kr O O underlying9 O O (λq hL=> ?_);refine bB O O (λ_=>fQ underlying5 underlying3 _) O O<|Bnr (v:=I (ln x.toNat:Int)) O O (λ_=>(av _ _ _ (by have:=q.isLt;unfold inI;omega)).trans (by rw[(hS _ hL).eq];congr 2;omega))<|Asg O<|aa<|ao<|Rr<|?_
    exact au O O (λw' hw'=>⟨rfl,ae hw'⟩)
   ·obtain ⟨y3,hy⟩: ∃y:BitVec 64,x>>>8=y:=⟨_,rfl⟩
    have hn:y3.toNat=x.toNat / 2^8:=by rw[<-hy,BitVec.toNat_ushiftRight,Nat.shiftRight_eq_div_pow]
    have hS: ∀k,IsL y3.toNat k->IsL x.toNat (k+8):=λk hk=>by have:=hS _ (IsL.shift 8 (hn▸hk) h);rw[Nat.add_assoc]at this;exact this
    have hb:y3.toNat<256:=by rw[hn];exact (Nat.div_lt_iff_lt_mul aC).2 hb
    clear hn;refine Bnb true O O (λ_=>bQ _ _ _) (by rw[decide_eq_true_eq,BitVec.le_def];exact h)<|aa<|aU O<|Xp<|Mv O<|Bnr (v:=U64 y3) O O (λ_=>(cH _ _ 8#64).trans (by rw[show (8#64).toNat=8 from O,hy]))<|Asg O<|aa<|Xq<|Mv O<|Bnr (v:=I 8) O O (λ_=>(av _ _ _ (by unfold inI;decide)).trans aE)<|Asg O<|aa<|Xp<|Mv O<|Mv O<|bB O O (λ_=>cg underlying22 underlying5 _) O O<|?_
    refine je hb kr O O underlying9 O O (λq hL=> ?_);refine bB O O (λ_=>fQ underlying5 underlying3 _) O O<|Bnr (v:=I (ln x.toNat:Int)) O O (λ_=>(av _ _ _ (by have:=q.isLt;unfold inI;omega)).trans (by rw[(hS _ hL).eq];congr 2;omega))<|Asg O<|aa<|ao<|Rr<|?_
    exact au O O (λw' hw'=>⟨rfl,ae hw'⟩)
  ·obtain ⟨y2,hy⟩: ∃y:BitVec 64,x>>>16=y:=⟨_,rfl⟩
   have hn:y2.toNat=x.toNat / 2^16:=by rw[<-hy,BitVec.toNat_ushiftRight,Nat.shiftRight_eq_div_pow]
   have hS: ∀k,IsL y2.toNat k->IsL x.toNat (k+16):=λk hk=>by have:=hS _ (IsL.shift 16 (hn▸hk) h);rw[Nat.add_assoc]at this;exact this
   have hb:y2.toNat<65536:=by rw[hn];exact (Nat.div_lt_iff_lt_mul aC).2 hb
   clear hn;refine Bnb true O O (λ_=>bQ _ _ _) (by rw[decide_eq_true_eq,BitVec.le_def];exact h)<|aa<|aU O<|Xp<|Mv O<|Bnr (v:=U64 y2) O O (λ_=>(cH _ _ 16#64).trans (by rw[show (16#64).toNat=16 from O,hy]))<|Asg O<|aa<|Xq<|Mv O<|Bnr (v:=I 16) O O (λ_=>(av _ _ _ (by unfold inI;decide)).trans aE)<|Asg O<|aa<|ah<|Xp<|Mv O<|?_
   rcases Nat.lt_or_ge y2.toNat 256 with h|h
   ·have hb:=h
    refine Bnb false O O (λ_=>bQ _ _ _) (by rw[decide_eq_false_iff_not,BitVec.le_def];exact Nat.not_le.2 h)<|aa<|aI O<|ay<|Xp<|Mv O<|Mv O<|bB O O (λ_=>cg underlying22 underlying5 _) O O<|?_
    refine je hb kr O O underlying9 O O (λq hL=> ?_);refine bB O O (λ_=>fQ underlying5 underlying3 _) O O<|Bnr (v:=I (ln x.toNat:Int)) O O (λ_=>(av _ _ _ (by have:=q.isLt;unfold inI;omega)).trans (by rw[(hS _ hL).eq];congr 2;omega))<|Asg O<|aa<|ao<|Rr<|?_
    exact au O O (λw' hw'=>⟨rfl,ae hw'⟩)
   ·obtain ⟨y3,hy⟩: ∃y:BitVec 64,y2>>>8=y:=⟨_,rfl⟩
    have hn:y3.toNat=y2.toNat / 2^8:=by rw[<-hy,BitVec.toNat_ushiftRight,Nat.shiftRight_eq_div_pow]
    have hS: ∀k,IsL y3.toNat k->IsL x.toNat (k+24):=λk hk=>by have:=hS _ (IsL.shift 8 (hn▸hk) h);rw[Nat.add_assoc]at this;exact this
    have hb:y3.toNat<256:=by rw[hn];exact (Nat.div_lt_iff_lt_mul aC).2 hb
    clear hn;refine Bnb true O O (λ_=>bQ _ _ _) (by rw[decide_eq_true_eq,BitVec.le_def];exact h)<|aa<|aU O<|Xp<|Mv O<|Bnr (v:=U64 y3) O O (λ_=>(cH _ _ 8#64).trans (by rw[show (8#64).toNat=8 from O,hy]))<|Asg O<|aa<|Xq<|Mv O<|Bnr (v:=I 24) O O (λ_=>(av _ _ _ (by unfold inI;decide)).trans aE)<|Asg O<|aa<|Xp<|Mv O<|Mv O<|bB O O (λ_=>cg underlying22 underlying5 _) O O<|?_
    refine je hb kr O O underlying9 O O (λq hL=> ?_);refine bB O O (λ_=>fQ underlying5 underlying3 _) O O<|Bnr (v:=I (ln x.toNat:Int)) O O (λ_=>(av _ _ _ (by have:=q.isLt;unfold inI;omega)).trans (by rw[(hS _ hL).eq];congr 2;omega))<|Asg O<|aa<|ao<|Rr<|?_
    exact au O O (λw' hw'=>⟨rfl,ae hw'⟩)
 ·obtain ⟨y1,hy⟩: ∃y:BitVec 64,x>>>32=y:=⟨_,rfl⟩
  have hn:y1.toNat=x.toNat / 2^32:=by rw[<-hy,BitVec.toNat_ushiftRight,Nat.shiftRight_eq_div_pow]
  have hS: ∀k,IsL y1.toNat k->IsL x.toNat (k+32):=λk hk=>by have:=hS _ (IsL.shift 32 (hn▸hk) h);rw[Nat.add_assoc]at this;exact this
  have hb:y1.toNat<4294967296:=by rw[hn];exact (Nat.div_lt_iff_lt_mul aC).2 hb
  clear hn;refine Bnb true O O (λ_=>bQ _ _ _) (by rw[decide_eq_true_eq,BitVec.le_def];exact h)<|aa<|aU O<|Xp<|Mv O<|Bnr (v:=U64 y1) O O (λ_=>(cH _ _ 32#64).trans (by rw[show (32#64).toNat=32 from O,hy]))<|Asg O<|aa<|Xq<|Asg O<|aa<|ah<|Xp<|Mv O<|?_
  rcases Nat.lt_or_ge y1.toNat 65536 with h|h
  ·have hb:=h
   refine Bnb false O O (λ_=>bQ _ _ _) (by rw[decide_eq_false_iff_not,BitVec.le_def];exact Nat.not_le.2 h)<|aa<|aI O<|ay<|ah<|Xp<|Mv O<|?_
   rcases Nat.lt_or_ge y1.toNat 256 with h|h
   ·have hb:=h
    refine Bnb false O O (λ_=>bQ _ _ _) (by rw[decide_eq_false_iff_not,BitVec.le_def];exact Nat.not_le.2 h)<|aa<|aI O<|ay<|Xp<|Mv O<|Mv O<|bB O O (λ_=>cg underlying22 underlying5 _) O O<|?_
    refine je hb kr O O underlying9 O O (λq hL=> ?_);refine bB O O (λ_=>fQ underlying5 underlying3 _) O O<|Bnr (v:=I (ln x.toNat:Int)) O O (λ_=>(av _ _ _ (by have:=q.isLt;unfold inI;omega)).trans (by rw[(hS _ hL).eq];congr 2;omega))<|Asg O<|aa<|ao<|Rr<|?_
    exact au O O (λw' hw'=>⟨rfl,ae hw'⟩)
   ·obtain ⟨y3,hy⟩: ∃y:BitVec 64,y1>>>8=y:=⟨_,rfl⟩
    have hn:y3.toNat=y1.toNat / 2^8:=by rw[<-hy,BitVec.toNat_ushiftRight,Nat.shiftRight_eq_div_pow]
    have hS: ∀k,IsL y3.toNat k->IsL x.toNat (k+40):=λk hk=>by have:=hS _ (IsL.shift 8 (hn▸hk) h);rw[Nat.add_assoc]at this;exact this
    have hb:y3.toNat<256:=by rw[hn];exact (Nat.div_lt_iff_lt_mul aC).2 hb
    clear hn;refine Bnb true O O (λ_=>bQ _ _ _) (by rw[decide_eq_true_eq,BitVec.le_def];exact h)<|aa<|aU O<|Xp<|Mv O<|Bnr (v:=U64 y3) O O (λ_=>(cH _ _ 8#64).trans (by rw[show (8#64).toNat=8 from O,hy]))<|Asg O<|aa<|Xq<|Mv O<|Bnr (v:=I 40) O O (λ_=>(av _ _ _ (by unfold inI;decide)).trans aE)<|Asg O<|aa<|Xp<|Mv O<|Mv O<|bB O O (λ_=>cg underlying22 underlying5 _) O O<|?_
    refine je hb kr O O underlying9 O O (λq hL=> ?_);refine bB O O (λ_=>fQ underlying5 underlying3 _) O O<|Bnr (v:=I (ln x.toNat:Int)) O O (λ_=>(av _ _ _ (by have:=q.isLt;unfold inI;omega)).trans (by rw[(hS _ hL).eq];congr 2;omega))<|Asg O<|aa<|ao<|Rr<|?_
    exact au O O (λw' hw'=>⟨rfl,ae hw'⟩)
  ·obtain ⟨y2,hy⟩: ∃y:BitVec 64,y1>>>16=y:=⟨_,rfl⟩
   have hn:y2.toNat=y1.toNat / 2^16:=by rw[<-hy,BitVec.toNat_ushiftRight,Nat.shiftRight_eq_div_pow]
   have hS: ∀k,IsL y2.toNat k->IsL x.toNat (k+48):=λk hk=>by have:=hS _ (IsL.shift 16 (hn▸hk) h);rw[Nat.add_assoc]at this;exact this
   have hb:y2.toNat<65536:=by rw[hn];exact (Nat.div_lt_iff_lt_mul aC).2 hb
   clear hn;refine Bnb true O O (λ_=>bQ _ _ _) (by rw[decide_eq_true_eq,BitVec.le_def];exact h)<|aa<|aU O<|Xp<|Mv O<|Bnr (v:=U64 y2) O O (λ_=>(cH _ _ 16#64).trans (by rw[show (16#64).toNat=16 from O,hy]))<|Asg O<|aa<|Xq<|Mv O<|Bnr (v:=I 48) O O (λ_=>(av _ _ _ (by unfold inI;decide)).trans aE)<|Asg O<|aa<|ah<|Xp<|Mv O<|?_
   rcases Nat.lt_or_ge y2.toNat 256 with h|h
   ·have hb:=h
    refine Bnb false O O (λ_=>bQ _ _ _) (by rw[decide_eq_false_iff_not,BitVec.le_def];exact Nat.not_le.2 h)<|aa<|aI O<|ay<|Xp<|Mv O<|Mv O<|bB O O (λ_=>cg underlying22 underlying5 _) O O<|?_
    refine je hb kr O O underlying9 O O (λq hL=> ?_);refine bB O O (λ_=>fQ underlying5 underlying3 _) O O<|Bnr (v:=I (ln x.toNat:Int)) O O (λ_=>(av _ _ _ (by have:=q.isLt;unfold inI;omega)).trans (by rw[(hS _ hL).eq];congr 2;omega))<|Asg O<|aa<|ao<|Rr<|?_
    exact au O O (λw' hw'=>⟨rfl,ae hw'⟩)
   ·obtain ⟨y3,hy⟩: ∃y:BitVec 64,y2>>>8=y:=⟨_,rfl⟩
    have hn:y3.toNat=y2.toNat / 2^8:=by rw[<-hy,BitVec.toNat_ushiftRight,Nat.shiftRight_eq_div_pow]
    have hS: ∀k,IsL y3.toNat k->IsL x.toNat (k+56):=λk hk=>by have:=hS _ (IsL.shift 8 (hn▸hk) h);rw[Nat.add_assoc]at this;exact this
    have hb:y3.toNat<256:=by rw[hn];exact (Nat.div_lt_iff_lt_mul aC).2 hb
    clear hn;refine Bnb true O O (λ_=>bQ _ _ _) (by rw[decide_eq_true_eq,BitVec.le_def];exact h)<|aa<|aU O<|Xp<|Mv O<|Bnr (v:=U64 y3) O O (λ_=>(cH _ _ 8#64).trans (by rw[show (8#64).toNat=8 from O,hy]))<|Asg O<|aa<|Xq<|Mv O<|Bnr (v:=I 56) O O (λ_=>(av _ _ _ (by unfold inI;decide)).trans aE)<|Asg O<|aa<|Xp<|Mv O<|Mv O<|bB O O (λ_=>cg underlying22 underlying5 _) O O<|?_
    refine je hb kr O O underlying9 O O (λq hL=> ?_);refine bB O O (λ_=>fQ underlying5 underlying3 _) O O<|Bnr (v:=I (ln x.toNat:Int)) O O (λ_=>(av _ _ _ (by have:=q.isLt;unfold inI;omega)).trans (by rw[(hS _ hL).eq];congr 2;omega))<|Asg O<|aa<|ao<|Rr<|?_
    exact au O O (λw' hw'=>⟨rfl,ae hw'⟩)
theorem Ix(n:Nat):IsL n (ln n):=by
 unfold ln;by_cases h0:n=0
 ·rw[if_pos h0];exact ⟨om,λe he=>om⟩
 ·rw[if_neg h0]
  exact ⟨(Nat.log2_lt h0).1 (Nat.lt_succ_self _),λe he=>(Nat.le_log2 h0).1 om⟩
theorem H6(n:Nat):dep n=min (ln (n-1)) 62:=by
 have h:=Ix (n-1);refine (uG om ?_ (λe he=>by have:=h.2 e om;have:=Nat.two_pow_pos e;omega)).symm
 rcases Nat.le_total (ln (n-1)) 62 with h6|h6
 ·rw[Nat.min_eq_left h6];exact .inr (by have:=h.1;omega)
 ·rw[Nat.min_eq_right h6];exact .inl O
theorem rl(n:Int)(hn:n<9223372036854775808)(w:World)(hw:Gt w):CLS 148 [I n].toArray w (λe w'=>e=.returned (I (dep n.toNat:Nat))/\Grow w w'):=by
 refine Hf func148 O hw<|λhGF=>Xp<|Asg O<|aa<|Xp<|Mv O<|uV (z:=(if n<1 then (1:Int)else n)) O O O O O<|Bnr (v:=I (((n.toNat-1:Nat):Int))) O O (λ_=>(bx _ _ _ (by unfold inI;split<;>omega)).trans (by congr 2;split<;>omega))<|bB O O (λ_=>da underlying3 underlying22 _) O O<|Cc O ent181 (λw' _ hG=>tH _ w' hG)<|?_
 rw[BitVec.toNat_ofInt,show ((((n.toNat-1:Nat):Int) % ((2^64:Nat):Int)).toNat)=n.toNat-1 from by omega]
 refine ko (z:=(dep n.toNat:Int)) O O (by rw[H6];split<;>omega) O O<|Asg O<|aa<|ao<|Rr<|?_
 exact au O O (λw' hw'=>⟨rfl,ae hw'⟩)
end
section
open Go.RowKit
open Sh
theorem ent114:aL prog 114:=λ_ _=>kr
abbrev LC(a:Option Addr)(len cap:Nat)(r:Rt):List Value:=.slice a len cap::r.map U8
abbrev LV(a:Option Addr)(len cap:Nat)(r:Rt):Value:=.agg (LC a len cap r).toArray
theorem fk{a:Option Addr}{len cap:Nat}{r:Rt}(hr:r.length=32):(LC a len cap r).length=33:=by rw[LC,List.length_cons,List.length_map,hr]
theorem pu(a:Option Addr)(len cap:Nat)(r:Rt):(LC a len cap r).all (·.oneCell')=true:=by
 rw[LC,List.all_cons,be];rfl
theorem zvL(w:World):(zeroValue 239).run prog w=.ok (LV none 0 0 Z0) w:=(zeroValue239 w).trans aE
theorem J6(a:Option Addr)(len cap:Nat)(w:World):(Instr.build 239 #[(0,.slice a len cap)]).run prog w=.ok (LV a len cap Z0) w:=
 db (c:=LC none 0 0 Z0) zvL underlying239 (mq O O sizeOf86 sizeOf27) [(0,.slice a len cap)] (by
  rw[mK (vs:=[.slice a len cap]) (off:=0) (size:=1) O O O (by show 1<=33;decide)]
  rfl) w
theorem Fp(a:Option Addr)(len cap:Nat)(r:Rt)(hr:r.length=32)(w:World):(Instr.build 239 #[(0,.slice a len cap),(1,.agg (r.map U8).toArray)]).run prog w=.ok (LV a len cap r) w:=
 db (c:=LC none 0 0 Z0) zvL underlying239 (mq O O sizeOf86 sizeOf27) [(0,.slice a len cap),(1,.agg (r.map U8).toArray)] (by
  rw[mK (vs:=[.slice a len cap]) (off:=0) (size:=1) O O O (by show 1<=33;decide),mK (vs:=r.map U8) (off:=1) (size:=32) O O (by rw[List.length_map,hr]) (by rw[List.length_map,hr];show 33<=33;decide),List.length_map,hr]
  simp[Instr.fill,Z0]) w
theorem lD{w:World}{b:Nat}{x:Value}{cs:List Value}(h:w.rangeAt b 0 (x::cs)):w.rangeAt b 1 cs:=λj v hv=>by
 have:=h (j+1) v (by simpa using hv)
 rw[show 0+(j+1)=1+j from by omega]at this
 exact this
theorem sr{n:Nat}(h:n<=1000000):(BitVec.ofInt 64 (n:Int)).toNat=n:=by rw[BitVec.toNat_ofInt];omega
theorem tS{l:List Rt}{r:Rt}(hl:AllR l)(hr:r.length=32)(i:Nat):(l.getD i r).length=32:=by
 rw[List.getD_eq_getElem?_getD]
 cases h:l[i]? with
 |none=>exact hr
 |some x=>exact hl x (List.mem_of_getElem? h)
theorem Bc{r:Rt}{l:List Rt}(k:Nat):AllR (UpK P2 r l k):=Da P2 (Q:=λx=>x.length=32) cV r l k
theorem su{l:List Rt}(hl:AllR l): ∀h,AllR (lev P2 Z0 h l)
 |0=>hl
 |_+1=>Bc _
theorem py(l:List Rt)(hl:AllR l)(hn:l.length<=65536)(r:Rt)(hr:r.length=32)(a:Option Addr)(cap:Nat)(x:BitVec 64)(w:World)(hw:Gt w)(ha:RtsAt w a l):CLS 180 [LV a l.length cap r,U64 x].toArray w (λe w'=>e=.returned (.agg ((l.getD x.toNat r).map U8).toArray)/\Grow w w'):=by
 refine Hf func180 O hw<|λhGF=>Xp<|Bx 2 hGF O<|λb2=>Al 4 hGF zv27<|λb4=>aa<|ah<|Xp<|Mv O<|Fa 0 O underlying239 O sizeOf86<|co 2 O O O isAgg86 O O<|bz O (λ_=>aO underlying86 _ _ _ _) O O<|bB O O (λ_=>da underlying3 underlying22 _) O O<|?_;rcases Nat.lt_or_ge x.toNat l.length with h|h
 ·obtain ⟨y,hxy⟩: ∃y,l[x.toNat]? =some y:=⟨_,List.getElem?_eq_getElem h⟩
  have hy:y.length=32:=hl y (List.mem_of_getElem? hxy);obtain ⟨ad,rfl,hc⟩:=ha x.toNat y hxy;have hR:l.getD x.toNat r=y:=by rw[List.getD_eq_getElem?_getD,hxy];rfl
  refine Bnb true O O (λ_=>ib _ _ _) (by rw[decide_eq_true_eq,BitVec.lt_def,sr om];exact h)<|aa<|aU O<|Xp<|Fa 0 O underlying239 O sizeOf86<|co 2 O O O isAgg86 O O<|Mv O<|yV 32 O O underlying86 sizeOf27 h O O<|aP (cs:=y.map U8) O isAgg27 sizeOf27 (by rw[List.length_map];exact hy) (λw' h j v hv=>((ae h).cell (block_lt_of_cell (hc j v hv))).trans (hc j v hv)) O O<|am 4 hGF O O O sizeOf27 (by rw[List.length_map];exact hy) (by rw[List.length_map];exact cI) (be _) O<|aa<|ao<|Rr<|?_
  exact az 4 O O O isAgg27 sizeOf27 (by rw[List.length_map];exact hy) (λw' hw'=>⟨by rw[hR],ae hw'⟩)
 ·have hR:l.getD x.toNat r=r:=nW r h
  refine Bnb false O O (λ_=>ib _ _ _) (by rw[decide_eq_false_iff_not,BitVec.lt_def,sr om];omega)<|aa<|aI O<|ay<|Xp<|Fa 1 O underlying239 O sizeOf27<|aJ (cs:=r.map U8) O isAgg27 sizeOf27 (by rw[List.length_map];exact hr) (λw' hw'=>lD (aw (n:=2) O w' hw')) O O<|am 4 hGF O O O sizeOf27 (by rw[List.length_map];exact hr) (by rw[List.length_map];exact cI) (be _) O<|aa<|ao<|Rr<|?_
  exact az 4 O O O isAgg27 sizeOf27 (by rw[List.length_map];exact hr) (λw' hw'=>⟨by rw[hR],ae hw'⟩)
theorem bv_n{n:Nat}(h:n<=1000000):BitVec.ofInt 64 (n:Int)=BitVec.ofNat 64 n:=by apply BitVec.eq_of_toNat_eq;rw[sr h,BitVec.toNat_ofNat];omega
theorem nt{n:Nat}(h:n<=1000000):(BitVec.ofNat 64 n).toNat=n:=by rw[BitVec.toNat_ofNat];omega
theorem wm{n:Nat}(h:n<=1000000):(BitVec.ofNat 64 n / 2#64+BitVec.ofNat 64 n % 2#64).toNat=(n+1) / 2:=by
 rw[BitVec.toNat_add,BitVec.toNat_udiv,BitVec.toNat_umod,nt h];show (n / 2+n % 2) % 18446744073709551616=_;omega
theorem AW{n:Nat}:BitVec.ofNat 64 n+1#64=BitVec.ofNat 64 (n+1):=by rw[BitVec.ofNat_add]
theorem BV{n:Nat}:BitVec.ofNat 64 n+2#64=BitVec.ofNat 64 (n+2):=by rw[BitVec.ofNat_add]
structure UpS(r:Rt)(l:List Rt) where
 (k b cap:Nat) (c:List Value)
 hk:k<=((l.length+1) / 2)
 hc:c.length=cap*32
 hn:k<=cap
 ht:c.take (32*k)=(UpK P2 r l k).flatten.map U8
theorem A9{r:Rt}{l:List Rt}(k:Nat):((UpK P2 r l k).flatten.map U8).length=k*32:=by rw[List.length_map,cR _ (Bc k),mF,Nat.mul_comm]
theorem xa{r:Rt}{l:List Rt}{k:Nat}:(UpK P2 r l (k+1)).flatten.map U8=(UpK P2 r l k).flatten.map U8++(P2 (l.getD (2*k) r) (l.getD (2*k+1) r)).map U8:=by
 rw[Ah,List.flatten_append,List.map_append];simp
theorem HK{s:Nat}{x:L8}(hx:x.length=s):RW s (λ_=>x) 1=x:=by
 rw[oG (λ_=>x) 0 hx,show RW s (λ_=>x) 0=[]from by simp[RW],List.nil_append]
def UpR(w w':World)(v:Value)(l:List Rt)(r:Rt):Prop:= ∃b c cap,v=LV (spt b) l.length cap r/\w.heap.size<=b/\OwnB w' b c 27/\c.take (32*l.length)=l.flatten.map U8
theorem zz(l:List Rt)(hl:AllR l)(hn:l.length<=65536)(r:Rt)(hr:r.length=32)(a:Option Addr)(cap:Nat)(w:World)(hw:Gt w)(ha:RtsAt w a l):CLS 179 [LV a l.length cap r].toArray w (λe w'=> ∃v,e=.returned v/\Grow w w'/\UpR w w' v (upL P2 r l) (P2 r r)):=by
 refine Hf func179 O hw<|λhGF=>Xp<|Bx 1 hGF O<|λb1=>Al 2 hGF zvL<|λb2=>aa<|Xp<|Fa 0 O underlying239 O sizeOf86<|co 1 O O O isAgg86 O O<|bz O (λ_=>aO underlying86 _ _ _ _) O O<|bB (v:=U64 (BitVec.ofNat 64 l.length)) O O (λ_=>(da underlying3 underlying22 _).trans (by rw[bv_n om])) O O<|Asg O<|aa<|?_
 refine Hg (ι:=Nat×Nat) (λz=>[(1,pnt b1),(2,pnt b2),(3,U64 (BitVec.ofNat 64 l.length)),(4,pnt z.2)]) (λz=>[(1,b1,LC a l.length cap r,239),(2,b2,LC none 0 0 Z0,239),(4,z.2,LC (spt z.1) 0 ((l.length+1) / 2) (P2 r r),239),(15,z.1,(List.replicate (32*((l.length+1) / 2)) 0#8).map U8,27)]) hGF ?_ ?_
 ·refine u3 (EE [2999995,2999999]) dg kr kr<|bK (m:=4) [0,1,2,3,4,6,7,8,9,10] kr<|Mv O<|Bnr O O (λ_=>g9 _ _ _ aC)<|Mv O<|Bnr O O (λ_=>eV _ _ _ aC)<|Bnr O O (λ_=>aM _ _ _)<|Fa 1 O underlying239 O sizeOf27<|aJ (cs:=r.map U8) O isAgg27 sizeOf27 (by rw[List.length_map];exact hr) (λw' hw'=>lD (aw (n:=1) O w' hw')) O O<|Fa 1 O underlying239 O sizeOf27<|aJ (cs:=r.map U8) O isAgg27 sizeOf27 (by rw[List.length_map];exact hr) (λw' hw'=>lD (aw (n:=1) O w' hw')) O O<|Cc O ent118 (λw' _ hG=>kT r r hr hr w' hG)<|?_
  rw[show SHA (r++r)=P2 r r from O];refine aa<|js (m:=3) [5,12] kr kr aC<|?_;intro i hi;simp only[List.mem_cons,List.not_mem_nil,or_false]at hi;rcases hi with rfl|rfl
  ·exact sX (l:=0) (m:=((l.length+1) / 2)) (c:=(List.replicate (32*((l.length+1) / 2)) 0#8).map U8) 15 hGF O O O (wm om) (Nat.zero_le _) underlying86 tiR ⟨om,om,om⟩ (pS _) O O<|λb15=>aa<|bK (m:=2) [11] kr<|cx (ps:=[(0,.tmp 15),(1,.tmp 20)]) (vs:=[.slice (spt b15) 0 ((l.length+1) / 2),.agg ((P2 r r).map U8).toArray]) O (λw=>Fp _ _ _ _ (cV _ _) w) O O<|aa<|bK (m:=1) [12] kr<|nd 4 hGF zvL O O O<|λb4=>aa<|bK (m:=0) [13] kr<|am 4 hGF O O O sizeOf239 (fk (cV _ _)) (fk cI) (pu _ _ _ _) O<|aa<|fG kr<|aW<|⟨rfl,(b15,b4),_,rfl,trv,trv⟩
  ·exact nd 4 hGF zvL O O O<|λb4=>aa<|bK (m:=2) [5] kr<|sX (l:=0) (m:=((l.length+1) / 2)) (c:=(List.replicate (32*((l.length+1) / 2)) 0#8).map U8) 15 hGF O O O (wm om) (Nat.zero_le _) underlying86 tiR ⟨om,om,om⟩ (pS _) O O<|λb15=>aa<|bK (m:=1) [11] kr<|cx (ps:=[(0,.tmp 15),(1,.tmp 20)]) (vs:=[.slice (spt b15) 0 ((l.length+1) / 2),.agg ((P2 r r).map U8).toArray]) O (λw=>Fp _ _ _ _ (cV _ _) w) O O<|aa<|bK (m:=0) [13] kr<|am 4 hGF O O O sizeOf239 (fk (cV _ _)) (fk cI) (pu _ _ _ _) O<|aa<|fG kr<|aW<|⟨rfl,(b15,b4),_,rfl,trv,trv⟩
 ·rintro ⟨b15,b4⟩
  dsimp only;refine ah<|Xp<|Asg O<|aa<|ar<|bV (ι:=UpS r l) (λx=>[(1,pnt b1),(2,pnt b2),(3,U64 (BitVec.ofNat 64 l.length)),(4,pnt b4),(5,U64 (BitVec.ofNat 64 (2*x.k)))]) (λx=>[(1,b1,LC a l.length cap r,239),(2,b2,LC none 0 0 Z0,239),(4,b4,LC (spt x.b) x.k x.cap (P2 r r),239),(15,x.b,x.c,27)]) (λx=>((l.length+1) / 2)-x.k) ⟨0,b15,((l.length+1) / 2),(List.replicate (32*((l.length+1) / 2)) 0#8).map U8,Nat.zero_le _,by rw[List.length_map,List.length_replicate,Nat.mul_comm],Nat.zero_le _,aE⟩ hGF trv trv<|?_
  rintro ⟨k,bb,cp,c,hk,hc,hkc,ht⟩;dsimp only;refine ah<|Xp<|Mv O<|Mv O<|?_;rcases Nat.lt_or_ge (2*k) l.length with hlt|hge
  ·refine Bnb true O O (λ_=>ib _ _ _) (by rw[decide_eq_true_eq,BitVec.lt_def,nt om,nt om];exact hlt)<|aa<|aU O<|ay<|ah<|ar<|Xe [2999998]<|Fa 0 O underlying239 O sizeOf86<|co 4 O O O isAgg86 O O<|aq 1 O O isAgg239 sizeOf239 (fk hr) O O<|Mv O<|Cc O ent180 (λw' hw' hG=>py l hl hn r hr a cap _ w' hG (ha.grow (ae hw')))<|?_
   rw[nt om];refine aq 1 O O isAgg239 sizeOf239 (fk hr) O O<|Mv O<|Bnr (v:=U64 (BitVec.ofNat 64 (2*k+1))) O O (λ_=>(aM _ _ _).trans (by rw[AW]))<|Cc O ent180 (λw' hw' hG=>py l hl hn r hr a cap _ w' hG (ha.grow (ae hw')))<|?_
   rw[nt om];refine Cc O ent118 (λw' _ hG=>kT _ _ (tS hl hr _) (tS hl hr _) w' hG) ?_;rw[show SHA (l.getD (2*k) r++l.getD (2*k+1) r)=(P2 (l.getD (2*k) r) (l.getD (2*k+1) r))from O];refine kf (uf:=U8) (s:=32) 37 (λ_=>(P2 (l.getD (2*k) r) (l.getD (2*k+1) r))) (List.replicate 32 0#8) hGF O O O (λi hi=>cV _ _) aC aC underlying86 sizeOf27 O zv27 O O ?_;intro b37;rw[HK (cV _ _)];refine lB (s:=32) (nx:=k) (ny:=1) (xs:=(UpK P2 r l k).flatten.map U8) (ys:=(P2 (l.getD (2*k) r) (l.getD (2*k+1) r)).map U8) 15 hGF O O underlying86 underlying86 tiR O (.inr ⟨bb,c,rfl,rfl,hc,hkc,A9 k,by rw[A9,Nat.mul_comm];exact ht⟩) (by rw[List.length_map,cV]) (λw' h=>aw (n:=37) O w' h) (be _) aC om om O O (λb9 c9 cap9 e9 l9 t9=> ?_)
   refine Fa 0 O underlying239 O sizeOf86<|cP 4 hGF O O O sizeOf86 O aB O<|aa<|Xq<|Mv O<|Bnr (v:=U64 (BitVec.ofNat 64 (2*(k+1)))) O O (λ_=>(aM _ _ _).trans (by rw[BV];rfl))<|Asg O<|aa<|?_
   repeat (refine bh ?_)
   exact aW<|⟨rfl,⟨k+1,b9,cap9,c9,om,e9,l9,by rw[xa,<-t9,<-xa,A9,Nat.mul_comm]⟩,_,by show ((l.length+1) / 2)-(k+1)<((l.length+1) / 2)-k;omega,rfl,trv,trv⟩
  ·obtain rfl:k=((l.length+1) / 2):=om
   refine Bnb false O O (λ_=>ib _ _ _) (by rw[decide_eq_false_iff_not,BitVec.lt_def,nt om,nt om];omega)<|aa<|aI O<|bu<|Xp<|aq 4 O O isAgg239 sizeOf239 (fk (cV _ _)) O O<|am 2 hGF O O O sizeOf239 (fk (cV _ _)) (fk cI) (pu _ _ _ _) O<|aa<|ao<|Rr<|?_
   exact az 2 O O O isAgg239 sizeOf239 (fk (cV _ _)) (λw' hw'=>⟨_,rfl,ae hw',bb,c,cp,by rw[upL,mF],(hw'.own 15 _ _ _ O).2.elim id False.elim,(hw'.own 15 _ _ _ O).1,by rw[upL,mF];exact ht⟩)
end
section
open Go.RowKit
open Sh
structure TopS(w:World)(l:List Rt)(D b4 b5:Nat) where
 (h:Nat) (a:Option Addr) (cap:Nat) (own:Hl)
 hD:h<=D
 hR: ∀w',Hp (pl w) ((4,b4,Z0.map U8,27)::(5,b5,LC a (lev P2 Z0 h l).length cap (zrT P2 Z0 h),239)::own) w'->RtsAt w' a (lev P2 Z0 h l)
theorem FX{n b:Nat}{c:List Value}{t:TypeId}{w w':World}(h1:w.heap.size<=b)(h2:OwnB w' b c t): ∀n' b' c' t',lkB [(n,b,c,t)] n'=some (b',c',t')->w.heap.size<=b'/\OwnB w' b' c' t':=λn' b' c' t' hl=>by
 rcases bq hl with ⟨_,e⟩|⟨_,hl⟩
 ·cases e;exact ⟨h1,h2⟩
 ·cases hl
theorem LU(h:Nat)(l:List Rt):lev P2 Z0 (h+1) l=upL P2 (zrT P2 Z0 h) (lev P2 Z0 h l):=rfl
theorem Mn(h:Nat):zrT P2 Z0 (h+1)=P2 (zrT P2 Z0 h) (zrT P2 Z0 h):=rfl
theorem ye(D:Nat)(hD64:D<=64)(l:List Rt)(hl:AllR l)(hn:l.length<=65536)(a:Option Addr)(cap:Nat)(w:World)(hw:Gt w)(ha:RtsAt w a l):CLS 147 [.slice a l.length cap,I (D:Int)].toArray w (λe w'=>e=.returned (.agg ((tre P2 Z0 D l).map U8).toArray)/\Grow w w'):=by
 refine Hf func147 O hw<|λhGF=>ai (E:=EE [179])<|Al 4 hGF zv27<|λb4=>aa<|ai (E:=EE [179])<|Mv O<|cx (ps:=[(0,.tmp 6)]) (vs:=[.slice a l.length cap]) O (λw=>J6 _ _ _ w) O O<|Al 5 hGF zvL<|λb5=>am 5 hGF O O O sizeOf239 (fk (cI)) (fk (cI)) (pu _ _ _ _) O<|aa<|ah<|ai (E:=EE [179])<|Mv O<|Mv O<|aa<|ar<|bV (ι:=TopS w l D b4 b5) (λx=>[(4,pnt b4),(5,pnt b5),(8,I (D:Int)),(9,I (x.h:Int))]) (λx=>(4,b4,Z0.map U8,27)::(5,b5,LC x.a (lev P2 Z0 x.h l).length x.cap (zrT P2 Z0 x.h),239)::x.own) (λx=>D-x.h) ⟨0,a,cap,[],Nat.zero_le _,λw' hw'=>ha.grow (ae hw')⟩ hGF trv trv<|?_;rintro ⟨h,a,cap,own,hD,hR⟩;dsimp only;refine ai (E:=EE [179]) ?_;rcases Nat.lt_or_ge h D with hlt|hge
 ·refine Bnb true O O (λ_=>aF _ _ _) (by simp;omega)<|aa<|ah<|aU O<|ay<|ah<|ar<|cq (E:=EE [179])<|aq 5 O O isAgg239 sizeOf239 (fk (fg _)) O O<|?_
  refine ce O O ent179 O O (λw' hw'=>(zz _ (su hl h) (Nat.le_trans (sB P2 Z0 h l) hn) _ (fg h) _ _ w' (hGF.g _ _ _ hw') (hR w' hw')).mono λe1 w2 h9=> ?_);obtain ⟨_,rfl,hg,b9,c9,cap9,rfl,hb9,ho9,ht9⟩:=h9;rw[<-LU]at ht9⊢;rw[<-Mn];refine ⟨_,_,rfl,aT hGF,hw'.news aH hg [(12,b9,c9,27)] (FX hb9 ho9) cF, ?_⟩;clear hw' hg hb9 ho9;refine am 5 hGF O O O sizeOf239 (fk (fg _)) (fk (fg _)) (pu _ _ _ _) O<|aa<|cq (E:=EE [179])<|Bnr (v:=I (((h+1:Nat):Int))) O O (λ_=>(av _ _ _ aG).trans aE)<|Mv O<|aa<|?_
  repeat (refine bh ?_)
  exact aW<|⟨rfl,⟨h+1,some ⟨b9,0,none⟩,cap9,[(12,b9,c9,27)],hlt,λw' hw'=>ot (su hl (h+1)) (aw (n:=12) O w' hw') ht9⟩,_,by show D-(h+1)<D-h;omega,rfl,trv,trv⟩
 ·obtain rfl:h=D:=om
  refine Bnb false O O (λ_=>aF _ _ _) (by rw[decide_eq_false_iff_not];omega)<|aa<|ah<|aI O<|bu<|ai (E:=EE [179])<|aq 5 O O isAgg239 sizeOf239 (fk (fg _)) O O<|Cc O ent180 (λw' hw' hG=>py _ (su hl h) (Nat.le_trans (sB P2 Z0 h l) hn) _ (fg h) _ _ 0#64 w' hG (hR w' hw'))<|?_
  rw[show (0#64).toNat=0 from O,C4];refine am 4 hGF O O O sizeOf27 (by rw[List.length_map];exact cz hl _) (by rw[List.length_map];exact cI) (be _) O<|aa<|ao<|Rr<|?_
  exact az 4 O O O isAgg27 sizeOf27 (by rw[List.length_map];exact cz hl _) (λw' hw'=>⟨rfl,ae hw'⟩)
theorem wl(n:Int)(h63:n<9223372036854775808)(l:List Rt)(hl:AllR l)(len:Nat)(hlen:l.length=len)(hln:len<=65536)(a:Option Addr)(cap:Nat)(hn: ¬n.toNat<len)(w:World)(hw:Gt w)(hr:RtsAt w a l):CLS 114 [.slice a len cap,I n].toArray w (λe w'=>e=.returned (.tuple #[.agg ((tre P2 Z0 (dep n.toNat) l).map U8).toArray,I 0])/\Grow w w'):=by
 refine Hf func114 O hw<|λhGF=>Xp<|Al 4 hGF zv27<|λb4=>Asg O<|aa<|Xp<|Mv O<|uV (z:=(if n<0 then (0:Int)else n)) O O O O O<|Asg O<|aa<|ah<|Xp<|Mv O<|bz O (λ_=>aO underlying86 _ _ _ _) O O<|Mv O<|Bnb false O O (λ_=>em _ _ _) (by rw[decide_eq_false_iff_not];split<;>omega)<|aa<|aI O<|ay<|Xp<|Mv O<|Mv O<|Cc O ent148 (λw' _ hG=>rl (if n<0 then (0:Int)else n) (by split<;>omega) w' hG)<|?_
 rw[show (if n<0 then (0:Int)else n).toNat=n.toNat from by split<;>omega]
 refine Cc O ent147 (λw' hw' hG=>by have:=ye (dep n.toNat) (by have:=(nj n.toNat).1;omega) l hl om a cap w' hG (hr.grow (ae hw'));rw[hlen]at this;exact this)<|am 4 hGF O O O sizeOf27 (by rw[List.length_map];exact cz hl _) (by rw[List.length_map];exact cI) (be _) O<|Asg O<|aa<|ao<|Rr<|?_
 exact cj 4 O O O O isAgg27 sizeOf27 (by rw[List.length_map];exact cz hl _) (λw' hw'=>⟨rfl,ae hw'⟩)
end
section
open Go.RowKit
open Sh
theorem ent117:aL prog 117:=λ_ _=>kr
theorem ent149:aL prog 149:=λ_ _=>kr
theorem ent81:aL prog 81:=λ_ _=>kr
structure StH(w:World)(bc bi n:Nat)(x:BitVec 64):Prop where
 c:OwnB w bc [I (n:Int)] 3
 i:OwnB w bi [U64 x] 22
def StV(x:BitVec 64)(n:Nat):List (List Value):=(List.range n).map λ(i:Nat)=>[I (i:Int),.bool (x.toNat.testBit i)]
theorem sn(x:BitVec 64)(n:Nat):(StV x n).length=n:=by rw[StV,List.length_map,List.length_range]
theorem wp(x:BitVec 64)(n i:Nat)(h:i<n):(StV x n)[i]? =some [I (i:Int),.bool (x.toNat.testBit i)]:=by rw[StV,List.getElem?_map,List.getElem?_range h];rfl
theorem HA{x:BitVec 64}{n i:Nat}{v:List Value}(h:(StV x n)[i]? =some v):i<n/\[I (i:Int),.bool (x.toNat.testBit i)]=v:=by
 have hi:i<n:=by
  rcases Nat.lt_or_ge i n with hk|hk
  ·exact hk
  ·rw[List.getElem?_eq_none (by rw[sn];exact hk)]at h;cases h
 exact ⟨hi,Option.some.inj ((wp x n i hi).symm.trans h)⟩
theorem row2{n m b1 b2:Nat}{c1 c2:List Value}{t1 t2:TypeId}{w w':World}(h1:w.heap.size<=b1)(h2:w.heap.size<=b2)(o1:OwnB w' b1 c1 t1)(o2:OwnB w' b2 c2 t2): ∀n' b' c' t',lkB [(n,b1,c1,t1),(m,b2,c2,t2)] n'=some (b',c',t')->w.heap.size<=b'/\OwnB w' b' c' t':=λn' b' c' t' hl=>by
 rcases bq hl with ⟨_,e⟩|⟨_,hl⟩
 ·cases e;exact ⟨h1,o1⟩
 ·rcases bq hl with ⟨_,e⟩|⟨_,hl⟩
  ·cases e;exact ⟨h2,o2⟩
  ·cases hl
theorem sR(x:BitVec 64)(n:Nat)(w:World)(hw:Gt w):CLS 117 [U64 x,I (n:Int)].toArray w (λe w'=> ∃bc bi,e=.returned (.func (.func 149) #[] #[pnt bc,pnt bi])/\Grow w w'/\w.heap.size<=bc/\w.heap.size<=bi/\bc≠bi/\StH w' bc bi (n) x):=by
 refine Hf func117 O hw<|λhGF=>Xp<|gA 2 hGF O O O<|λb2=>gA 3 hGF O O O<|λb3=>Asg O<|aa<|Xp<|dR O O O O<|Asg O<|aa<|ao<|Rr<|?_;exact au O O (λw' hw'=>⟨b3,b2,rfl,ae hw',(hw'.own 3 _ _ _ O).2.elim id False.elim,(hw'.own 2 _ _ _ O).2.elim id False.elim,λe=>by subst e;exact absurd (hw'.inj 3 2 _ _ _ _ _ O O) aC,(hw'.own 3 _ _ _ O).1,(hw'.own 2 _ _ _ O).1⟩)
theorem xE(bc bi n:Nat)(hn:n<=65536)(x:BitVec 64):jB prog Gt 149 [pnt bc,pnt bi] (StV x n) (λw=>StH w bc bi n x):=by
 intro l J Jx hJ hJx hRd hGx hY w hj;have okJ: ∀k,BOk Gt (Bi w (λY=>J Y k)):=λk=>⟨λ_ _ _ h=>(hRd _ _ _ h.rid).1,hJ k⟩;have okX: ∀k,BOk Gt (Bi w (λY=>Jx Y k)):=λk=>⟨λ_ _ _ h=>hGx _ _ _ h.rid,hJx k⟩;have c1: ∀k L w',Hp (Bi w (λY=>J Y k)) L w'->StH w' bc bi n x:=λk L w' h=>(hRd _ _ _ h.rid).2;refine eH (G:=Gt) func149 O O (Hp (Bi w (λY=>J Y 0)) []) (cL (Bi w _) hj (hJ 0)) (aT (okJ 0))<|Xp<|aR O isAgg3 (λw h=>(c1 _ _ w h).c.cell 0) O O<|Mv O<|aa<|ar<|j2 (ι:={i:Nat // i<=n}) (λy=>[(0,.func (.yield l) #[] #[]),(1,pnt bc),(2,pnt bi),(5,I (n:Int)),(6,I (y.1:Int))]) (λy=>Bi w (λY=>J Y y.1)) (λy=>[]) (λy=>n-y.1) ⟨0,Nat.zero_le _⟩ (λ_=>okJ _) O trv trivial<|?_;rintro ⟨i,hi⟩;dsimp only;refine Xp ?_;rcases Nat.lt_or_ge i n with hlt|hge
 ·refine Bnb true O O (λ_=>aF _ _ _) (by simp;omega)<|aa<|ah<|aU O<|ay<|ah<|ar<|Xp<|Mv O<|Asg O<|aa<|Xp<|Mv O<|Mv O<|aR O isAgg22 (λw h=>(c1 _ _ w h).i.cell 0) O O<|Mv O<|Bnr O O (λ_=>cB _ _ _ om)<|Bnr O O (λ_=>d9 _ _ _)<|Bnr (v:=.bool (x.toNat.testBit i)) O O (λ_=>(bC _ _ 1#64).trans (by rw[Int.toNat_natCast,vd]))<|?_
  refine e6 (hY.b (k:=i) (wp x n i hlt) w) (okJ _) (okX _) O O O O O ?_ ?_
  ·refine cv O (λ_=>bS _) O O<|aa<|aI O<|ay<|Xq<|Bnr (v:=I (((i+1:Nat):Int))) O O (λ_=>(av _ _ _ aG).trans aE)<|Mv O<|aa<|?_
   repeat (refine bh ?_)
   exact aW<|⟨rfl,⟨i+1,hlt⟩,_,by show n-(i+1)<n-i;omega,rfl,trv,trivial⟩
  ·refine cv O (λ_=>bS _) O O<|aa<|aU O<|ao<|Rr<|?_
   repeat (first|refine iX ?_|refine iq ?_|refine ij O ?_|refine dn ?_|refine dk ?_)
   exact eo O (λw hw=>⟨⟨_,rfl⟩,.inr ⟨_,dd (hJx _) hw.rid⟩⟩)
 ·obtain rfl:i=n:=om
  refine Bnb false O O (λ_=>aF _ _ _) (by rw[decide_eq_false_iff_not];omega)<|aa<|ah<|aI O<|bu<|?_
  repeat (first|refine iX ?_|refine iq ?_|refine ij O ?_|refine dn ?_|refine dk ?_)
  refine dX O (λw hw=>⟨⟨_,rfl⟩,.inl ?_⟩);have:=dd (hJ _) hw.rid;rw[sn];exact this
theorem HE{v0:Rt}{b:List Rt}{x:BitVec 64}{root:Rt}(h: ¬x>>>b.length=0#64):vfy v0 b x root=false:=by
 have h6:b.length<64:=by
  rcases Nat.lt_or_ge b.length 64 with h1|h1
  ·exact h1
  ·exact absurd (by apply BitVec.eq_of_toNat_eq;rw[BitVec.toNat_ushiftRight,Nat.shiftRight_eq_div_pow,Nat.div_eq_of_lt (Nat.lt_of_lt_of_le x.isLt (Nat.pow_le_pow_right aC h1))];rfl) h
 unfold vfy;rw[show decide (64<=b.length)=false from decide_eq_false om,Bool.false_or,beq_eq_false_iff_ne.2 h,Bool.and_false]
theorem DC{v0:Rt}{b:List Rt}{x:BitVec 64}{root:Rt}(h:x>>>b.length=0#64):vfy v0 b x root=decide (fld P2 x.toNat 0 v0 b=root):=by
 unfold vfy;rw[h];simp
theorem u1(v0:Rt)(hv0:v0.length=32)(b:List Rt)(hl:AllR b)(hln:b.length<=65536)(a:Option Addr)(cap:Nat)(x:BitVec 64)(root:Rt)(hroot:root.length=32)(w:World)(hw:Gt w)(hr:RtsAt w a b):
 CLS 81 [.agg (v0.map U8).toArray,.slice a b.length cap,U64 x,.agg (root.map U8).toArray].toArray w (λe w'=>e=.returned (.bool (vfy v0 b x root))/\Grow w w'):=by
 have hGF:BOk Gt (pl w):=gt_low.plain hw;refine eY (G:=Gt) func81 O O (Hp (pl w) []) (cL (pl w) trivial aH) (aT hGF)<|ai (E:=EE [117])<|Bx 4 hGF O<|λb4=>gA 5 hGF O O O<|λb5=>Bx 7 hGF O<|λb7=>Asg O<|aa<|ah<|ai (E:=EE [117])<|Mv O<|co 5 O O O isAgg86 O O<|bz O (λ_=>aO underlying86 _ _ _ _) O O<|Bnr (v:=U64 (x>>>b.length)) O O (λ_=>(cB _ _ _ om).trans (by rw[Int.toNat_natCast]))<|?_
 by_cases hz:x>>>b.length=0#64
 ·refine Bnb false O O (λ_=>nI _ _ _) (by rw[hz];rfl)<|aa<|aI O<|ay<|ai (E:=EE [117])<|aq 4 O O isAgg27 sizeOf27 (by rw[List.length_map];exact hv0) O O<|Al 9 hGF zv27<|λb9=>am 9 hGF O O O sizeOf27 (by rw[List.length_map];exact hv0) (by rw[List.length_map];exact cI) (be _) O<|aa<|ah<|ai (E:=EE [117])<|Mv O<|co 5 O O O isAgg86 O O<|bz O (λ_=>aO underlying86 _ _ _ _) O O<|?_
  refine ce O O ent117 O O (λw1 hC=>(sR x b.length w1 (hGF.g _ _ _ hC)).mono λe1 w2 h=> ?_);obtain ⟨bc,bi,rfl,hg,h1,h2,hne,hs⟩:=h;refine ⟨_,_,rfl,aT hGF,hC.news aH hg [(101,bc,_,3),(102,bi,_,22)] (row2 h1 h2 hs.c hs.i) (ox hne), ?_⟩;clear hC hg h1 h2 hs hne;refine aa<|ar<|?_;refine jJ (λ_=>pl w) (λ_ _=>pl w) (λ_=>hGF) (λ_ _=>hGF) (λ_=>rfl) (λ_ _=>rfl) O O ent149 (xE bc bi b.length om x) (λv hv=>by obtain ⟨k,hk,rfl⟩:=List.mem_map.1 hv;rfl) O (λk=>[(4,b4,v0.map U8,27),(5,b5,[.slice a b.length cap],86),(7,b7,root.map U8,27),(9,b9,(fld P2 x.toNat 0 v0 (b.take k)).map U8,27),(101,bc,[I (b.length:Int)],3),(102,bi,[U64 x],22)]) (λ_ _ _=>False) trv (λk _ w' h=>⟨(h.own 101 _ _ _ O).1,(h.own 102 _ _ _ O).1⟩) ?_ ?_ (λ_ _ _ _ _ h=>h.elim)
  ·intro k v hv R hR
   have hgw: ∀L w',Hp (R.b (pl w)) L w'->Grow w w':=λL w' h=>((hR (pl w) O hGF).2.2 _ _ _ h).elim λ_ h2=>h2.below (λ_ h=>h);obtain ⟨hk,rfl⟩:=HA hv;obtain ⟨y,hby⟩: ∃y,b[k]? =some y:=⟨_,List.getElem?_eq_getElem hk⟩;have hy:y.length=32:=hl y (List.mem_of_getElem? hby);obtain ⟨ad,rfl,hyc⟩:=hr k y hby;have hstep:=mH P2 (i:=x.toNat) v0 hby;have hbk:x.toNat.testBit k=true->k<64:=λh=>by rcases Nat.lt_or_ge k 64 with h1|h1;exact h1;rw[Nat.testBit_lt_two_pow (Nat.lt_of_lt_of_le x.isLt (Nat.pow_le_pow_right aC h1))]at h;cases h
   cases hbit:x.toNat.testBit k
   ·have hst:fld P2 x.toNat 0 v0 (b.take (k+1))=P2 (fld P2 x.toNat 0 v0 (b.take k)) y:=by rw[hstep,Fh P2 _ _ hbit]
    refine ai (E:=EE [117])<|Asg O<|aa<|cq (E:=EE [117])<|Asg O<|aa<|?_;refine ⟨rfl,_,rfl, ?_⟩;refine ar<|ai (E:=EE [117])<|Mv O<|aa<|aI O<|Xe [117]<|aq 9 O O isAgg27 sizeOf27 (by rw[List.length_map];exact i1 _ _ _ hv0) O O<|co 5 O O O isAgg86 O O<|Mv O<|dP k 32 O O underlying86 sizeOf27 O om O O<|aP (cs:=y.map U8) O isAgg27 sizeOf27 (by rw[List.length_map];exact hy) (λw' h j v hv=>((hgw _ w' h).cell (block_lt_of_cell (hyc j v hv))).trans (hyc j v hv)) O O<|Cc O ent118 (λw' _ hG=>kT (fld P2 x.toNat 0 v0 (b.take k)) y (i1 _ _ _ hv0) hy w' hG)<|?_
    rw[show SHA ((fld P2 x.toNat 0 v0 (b.take k))++y)=P2 (fld P2 x.toNat 0 v0 (b.take k)) y from O,<-hst];refine am 9 (hR (pl w) O hGF).2.1 O O O sizeOf27 (by rw[List.length_map];exact i1 _ _ _ hv0) (by rw[List.length_map];exact i1 _ _ _ hv0) (be _) O<|aa<|?_
    repeat (refine bh ?_)
    exact ⟨_,rfl,trv⟩
   ·have hst:fld P2 x.toNat 0 v0 (b.take (k+1))=P2 y (fld P2 x.toNat 0 v0 (b.take k)):=by rw[hstep,E7 P2 _ _ (hbk hbit) hbit]
    refine ai (E:=EE [117])<|Asg O<|aa<|cq (E:=EE [117])<|Asg O<|aa<|?_;refine ⟨rfl,_,rfl, ?_⟩;refine ar<|ai (E:=EE [117])<|Mv O<|aa<|aU O<|Xe [117]<|co 5 O O O isAgg86 O O<|Mv O<|dP k 32 O O underlying86 sizeOf27 O om O O<|aP (cs:=y.map U8) O isAgg27 sizeOf27 (by rw[List.length_map];exact hy) (λw' h j v hv=>((hgw _ w' h).cell (block_lt_of_cell (hyc j v hv))).trans (hyc j v hv)) O O<|aq 9 O O isAgg27 sizeOf27 (by rw[List.length_map];exact i1 _ _ _ hv0) O O<|Cc O ent118 (λw' _ hG=>kT y (fld P2 x.toNat 0 v0 (b.take k)) hy (i1 _ _ _ hv0) w' hG)<|?_
    rw[show SHA (y++(fld P2 x.toNat 0 v0 (b.take k)))=P2 y (fld P2 x.toNat 0 v0 (b.take k))from O,<-hst];refine am 9 (hR (pl w) O hGF).2.1 O O O sizeOf27 (by rw[List.length_map];exact i1 _ _ _ hv0) (by rw[List.length_map];exact i1 _ _ _ hv0) (be _) O<|aa<|?_
    repeat (refine bh ?_)
    exact ⟨_,rfl,trv⟩
  ·intro D hD
   rw[sn,List.take_length];refine ai (E:=EE [117])<|aq 9 O O isAgg27 sizeOf27 (by rw[List.length_map];exact i1 _ _ _ hv0) O O<|aq 7 O O isAgg27 sizeOf27 (by rw[List.length_map];exact hroot) O O<|dy (v:=.bool (decide (fld P2 x.toNat 0 v0 b=root))) O O (λw'=>un _ _ _ _ _ w') (λw'=>vk _ _ (i1 _ _ _ hv0) hroot w') O O<|Asg O<|aa<|ao<|Rr<|?_
   exact iH (.inl O) aH (au O O (λw' hw'=>⟨by rw[DC hz],ae hw'⟩))
 ·refine Bnb true O O (λ_=>nI _ _ _) (bne_iff_ne.2 hz)<|aa<|aU O<|ai (E:=EE [117])<|Asg O<|aa<|ao<|Rr<|?_
  exact rT (.inl O) (au O O (λw' hw'=>⟨by rw[HE hz];rfl,ae hw'⟩))
end
section
open Go.RowKit
open Sh
theorem ent53:aL prog 53:=λ_ _=>kr
theorem ent89:aL prog 89:=λ_ _=>kr
theorem mV{cs:List Value}: ∀j v,cs[j]? =some v->cs[0+j]? =some v:=λj v hv=>by rw[Nat.zero_add];exact hv
theorem Hd.a_s{h:Hd}: ∀j v,[U64 h.s][j]? =some v->h.cs[0+j]? =some v:=eE (pre:=[]) O
theorem St.at_f{s:St}: ∀j v,s.f.cs[j]? =some v->s.cs[0+j]? =some v:=eE (pre:=[]) O
theorem BS(u:Up)(hk:u.Ok)(w:World)(hw:Gt w):CLS 19 [.agg u.cs.toArray].toArray w (λe w'=>e=.returned (.bool u.isn)/\Grow w w'):=by
 refine Hf func19 O hw<|λhGF=>Xp<|Bx 1 hGF O<|λb1=>Asg O<|aa<|Xp<|Fa 147 O underlying71 O sizeOf36<|aJ (cs:=u.br.map U8) O isAgg36 sizeOf36 (by rw[List.length_map];exact hk.br) (λw' hw' j v hv=>by have:=(aw (n:=1) O w' hw') _ v ((Up.l3 hk) j v hv);rwa [Nat.zero_add]at this) O O<|er FU underlying36 sizeOf28 O O<|dy (v:=.bool (!decide (u.br=Zs 160))) O O (λw'=>IL _ _ _ _ _ w') (λw'=>n9 Kd aC u.br (Zs 160) hk.br O w') O O<|Asg O<|aa<|ao<|Rr<|?_
 exact au O O (λw' hw'=>⟨rfl,ae hw'⟩)
theorem yY(u:Up)(hk:u.Ok)(w:World)(hw:Gt w):CLS 21 [.agg u.cs.toArray].toArray w (λe w'=>e=.returned (.bool u.isf)/\Grow w w'):=by
 refine Hf func21 O hw<|λhGF=>Xp<|Bx 1 hGF O<|λb1=>Asg O<|aa<|Xp<|Fa 405 O underlying71 O sizeOf64<|aJ (cs:=u.fy.map U8) O isAgg64 sizeOf64 (by rw[List.length_map];exact hk.fy) (λw' hw' j v hv=>by have:=(aw (n:=1) O w' hw') _ v ((Up.l5 hk) j v hv);rwa [Nat.zero_add]at this) O O<|er zvT6 underlying64 sizeOf28 O O<|dy (v:=.bool (!decide (u.fy=Zs 192))) O O (λw'=>Jd _ _ _ _ _ w') (λw'=>n9 KV aC u.fy (Zs 192) hk.fy O w') O O<|Asg O<|aa<|ao<|Rr<|?_
 exact au O O (λw' hw'=>⟨rfl,ae hw'⟩)
theorem B5(c:Co)(hk:c.Ok)(hln:c.ks.length<=1000000)(w:World)(hw:Gt w)(hrw:RwsAt 48 w c.ka c.ks):CLS 53 [.agg c.cs.toArray].toArray w (λe w'=>e=.returned (.bool (pG c))/\Grow w w'):=by
 refine Hf func53 O hw<|λhGF=>Xp<|Bx 1 hGF O<|λb1=>Asg O<|aa<|ah<|Xp<|Fa 0 O underlying35 O sizeOf31<|co 1 O O ((Co.a0) 0 (.slice c.ka c.ks.length c.kc) O) isAgg31 O O<|bz O (λ_=>aO underlying31 _ _ _ _) O O<|Mv O<|aa<|ar<|bV (ι:={i:Nat // i<=c.ks.length/\∀j r,j<i->c.ks[j]? =some r->r=(Zs 48)}) (λx=>[(1,pnt b1),(6,.slice c.ka c.ks.length c.kc),(7,I (c.ks.length:Int)),(8,I (x.1:Int))]) (λ_=>[(1,b1,c.cs,35)]) (λx=>c.ks.length-x.1) ⟨0,Nat.zero_le _,λj r hj=>absurd hj (Nat.not_lt_zero j)⟩ hGF trv trv<|?_;rintro ⟨i,hi,hno⟩;dsimp only;refine Xp<|Bnr O O (λ_=>aF _ _ _)<|aa<|ah<|?_;refine cw O (λhc=> ?_) (λhc=> ?_)
 ·have hlt:i<c.ks.length:=(by simp at hc;omega)
  clear hc;obtain ⟨x,hx⟩: ∃x,c.ks[i]? =some x:=⟨_,List.getElem?_eq_getElem hlt⟩;have hxl:=hk.ks x (List.mem_of_getElem? hx);refine ay<|ah<|ar<|Xp<|?_;obtain ⟨ad,hae,hcell⟩:=hrw i x hx;refine dP (ad:=ad) i 48 (by rw[<-hae];rfl) O underlying31 sizeOf33 O hlt O O<|aP (cs:=x.map U8) O isAgg33 sizeOf33 (by rw[List.length_map];exact hxl) (λw' h j v hv=>((ae h).cell (block_lt_of_cell (hcell j v hv))).trans (hcell j v hv)) O O<|Al 4 hGF Ce<|λb4=>am 4 hGF O O O sizeOf33 (by rw[List.length_map];exact hxl) (by rw[List.length_map];rfl) (be _) O<|aa<|Xp<|aq 4 O O isAgg33 sizeOf33 (by rw[List.length_map];exact hxl) O O<|er Ce underlying33 sizeOf5 O O<|?_
  rcases Bool.eq_false_or_eq_true (decide (x=(Zs 48)))with hq|hq
  ·refine gP false O O (λw'=>AN _ _ _ _ _ w') (λ_=>n9 AY aC x (Zs 48) hxl O _) (by rw[hq];rfl) O O<|aa<|aI O<|ay<|Xq<|Bnr (v:=I (((i+1:Nat):Int))) O O (λ_=>(av _ _ _ aG).trans aE)<|Mv O<|aa<|?_
   repeat (refine bh ?_)
   exact aW<|⟨rfl,⟨i+1,hlt,λj r hj hr=>(Nat.lt_or_ge j i).elim (λh=>hno j r h hr) (λh=>by have e:j=i:=om;subst e;rw[hx]at hr;cases hr;exact of_decide_eq_true hq)⟩,_,by show c.ks.length-(i+1)<c.ks.length-i;omega,rfl,trv,trv⟩
  ·refine gP true O O (λw'=>AN _ _ _ _ _ w') (λ_=>n9 AY aC x (Zs 48) hxl O _) (by rw[hq];rfl) O O<|aa<|aU O<|Xp<|Asg O<|aa<|ao<|Rr<|?_
   exact au O O (λw' hw'=>⟨by rw[HG hx hq];rfl,ae hw'⟩)
 ·have hie:i=c.ks.length:=(by simp at hc;omega)
  clear hc;refine bu<|Xp<|Fa 1 O underlying35 O sizeOf33<|aJ (cs:=c.sum.map U8) O isAgg33 sizeOf33 (by rw[List.length_map];exact hk.sum) (λw' hw' j v hv=>by have:=(aw (n:=1) O w' hw') _ v ((Co.a_sum) j v hv);rwa [Nat.zero_add]at this) O O<|er Ce underlying33 sizeOf5 O O<|dy (v:=.bool (decide (c.sum=(Zs 48)))) O O (λw'=>AN _ _ _ _ _ w') (λw'=>vA AY aC c.sum (Zs 48) hk.sum O w') O O<|Asg O<|aa<|ao<|Rr<|?_
  exact au O O (λw' hw'=>⟨by rw[CQ (λj r hj=>hno j r om)],ae hw'⟩)
theorem Iv(s:St)(hk:s.Ok)(hln:s.nx.ks.length<=1000000)(w:World)(hw:Gt w)(hrw:RwsAt 48 w s.nx.ka s.nx.ks):CLS 23 [.agg s.cs.toArray].toArray w (λe w'=>e=.returned (.bool (!pG s.nx))/\Grow w w'):=by
 refine Hf func23 O hw<|λhGF=>Xp<|Bx 1 hGF O<|λb1=>Asg O<|aa<|Xp<|Fa 245 O underlying53 O sizeOf35<|aJ (cs:=s.nx.cs) O isAgg35 sizeOf35 (Co.len hk.nx) (λw' hw' j v hv=>by have:=(aw (n:=1) O w' hw') _ v ((St.at_nx hk) j v hv);rwa [Nat.zero_add]at this) O O<|Cc O ent53 (λw' hw' hG=>B5 s.nx hk.nx hln w' hG (hrw.grow (ae hw')))<|cv O (λ_=>bS _) O O<|Asg O<|aa<|ao<|Rr<|?_
 exact au O O (λw' hw'=>⟨rfl,ae hw'⟩)
theorem Gx(l:List Bool)(hl:l.length<=1000000)(a:Option Addr)(cap:Nat)(w:World)(hw:Gt w)(hcl:CellsAt w a (l.map .bool)):CLS 89 [.slice a l.length cap].toArray w (λe w'=>e=.returned (I (onN l:Int))/\Grow w w'):=by
 refine Hf func89 O hw<|λhGF=>Xp<|Asg O<|aa<|Xp<|Asg O<|aa<|ah<|Xp<|Mv O<|bz O (λ_=>aO underlying65 _ _ _ _) O O<|Mv O<|aa<|ar<|bV (ι:={i:Nat // i<=l.length}) (λx=>[(6,.slice a l.length cap),(7,I (l.length:Int)),(3,I (onN (l.take x.1):Int)),(8,I (x.1:Int))]) (λ_=>[]) (λx=>l.length-x.1) ⟨0,Nat.zero_le _⟩ hGF trv trivial<|?_;rintro ⟨i,hi⟩;dsimp only;refine Xp<|Bnr O O (λ_=>aF _ _ _)<|aa<|ah<|?_;refine cw O (λhc=> ?_) (λhc=> ?_)
 ·have hlt:i<l.length:=(by simp at hc;omega)
  clear hc;obtain ⟨x,hx⟩: ∃x,l[i]? =some x:=⟨_,List.getElem?_eq_getElem hlt⟩;refine ay<|ah<|ar<|Xp<|?_;obtain ⟨ad,hae,hcell⟩:=hcl i (.bool x) (by rw[List.getElem?_map,hx];rfl)
  refine dP (ad:=ad) i 1 (by rw[<-hae];rfl) O underlying65 sizeOf4 O hlt O O ?_
  rcases Bool.eq_false_or_eq_true x with hq|hq
  ·refine aR (v:=.bool true) O isAgg4 (λw' h=>by rw[Nat.mul_one];have h9:=((ae h).cell (block_lt_of_cell hcell)).trans hcell;rw[hq]at h9;exact h9) O O<|Asg O<|aa<|Xp<|Mv O<|aa<|aU O<|Xq<|Mv O<|Bnr (v:=I ((onN (l.take i)+1:Nat):Int)) O O (λ_=>(av _ _ _ (by have:=G4 (l.take i);rw[List.length_take]at this;unfold inI;omega)).trans aE)<|Asg O<|aa<|Xq<|Bnr (v:=I (((i+1:Nat):Int))) O O (λ_=>(av _ _ _ aG).trans aE)<|Mv O<|aa<|?_
   repeat (refine bh ?_)
   refine aW ?_;rw[hq]at hx;exact ⟨rfl,⟨i+1,hlt⟩,_,by show l.length-(i+1)<l.length-i;omega,rfl,⟨rfl,rfl,by rw[sO l i _ hx];rfl,rfl,trivial⟩,trivial⟩
  ·refine aR (v:=.bool false) O isAgg4 (λw' h=>by rw[Nat.mul_one];have h9:=((ae h).cell (block_lt_of_cell hcell)).trans hcell;rw[hq]at h9;exact h9) O O<|Asg O<|aa<|Xp<|Mv O<|aa<|aI O<|ay<|Xq<|Bnr (v:=I (((i+1:Nat):Int))) O O (λ_=>(av _ _ _ aG).trans aE)<|Mv O<|aa<|?_
   repeat (refine bh ?_)
   refine aW ?_;rw[hq]at hx;exact ⟨rfl,⟨i+1,hlt⟩,_,by show l.length-(i+1)<l.length-i;omega,rfl,⟨rfl,rfl,by rw[sO l i _ hx];rfl,rfl,trivial⟩,trivial⟩
 ·have hie:i=l.length:=(by simp at hc;omega)
  clear hc;refine bu<|Xp<|Mv O<|Asg O<|aa<|ao<|Rr<|?_;exact au O O (λw' hw'=>⟨by rw[List.take_of_length_le om],ae hw'⟩)
end
section
open Go.RowKit
theorem ent37:aL prog 37:=λ_ _=>kr
theorem ent122:aL prog 122:=λ_ _=>kr
theorem ent77:aL prog 77:=λ_ _=>kr
theorem ent78:aL prog 78:=λ_ _=>kr
theorem xk(n:BitVec 64)(w:World)(hw:Gt w):CLS 77 [U64 n].toArray w (λe w'=>e=.returned (.bool (gr n))/\Grow w w'):=by
 refine Hf func77 O hw<|λhGF=>Xp<|Asg O<|aa<|Xp<|Mv O<|?_;rcases Bool.eq_false_or_eq_true (decide (1#64<=n))with h1|h1
 ·refine Bnb true O O (λ_=>bQ _ n 1#64) (h1)<|Mv O<|Mv O<|?_
  rcases Bool.eq_false_or_eq_true (decide (n<=65536#64))with h2|h2
  ·refine Bnb true O O (λ_=>fP _ n 65536#64) (h2)<|Pk O O O<|Asg O<|aa<|ao<|Rr<|?_
   exact au O O (λw' hw'=>⟨by unfold gr;rw[h1,h2];rfl,ae hw'⟩)
  ·refine Bnb false O O (λ_=>fP _ n 65536#64) (h2)<|Pk O O O<|Asg O<|aa<|ao<|Rr<|?_
   exact au O O (λw' hw'=>⟨by unfold gr;rw[h1,h2];rfl,ae hw'⟩)
 ·refine Bnb false O O (λ_=>bQ _ n 1#64) (h1)<|Mv O<|Sk<|Sk<|Pk O O O<|Asg O<|aa<|ao<|Rr<|?_
  exact au O O (λw' hw'=>⟨by unfold gr;rw[h1];rfl,ae hw'⟩)
theorem Fs(z:Int)(w:World)(hw:Gt w):CLS 78 [I z].toArray w (λe w'=>e=.returned (.bool (gG z))/\Grow w w'):=by
 refine Hf func78 O hw<|λhGF=>Xp<|Asg O<|aa<|Xp<|Mv O<|?_;rcases Bool.eq_false_or_eq_true (decide (z>=1))with h1|h1
 ·refine Bnb true O O (λ_=>cW _ z 1) (h1)<|Mv O<|Mv O<|?_
  rcases Bool.eq_false_or_eq_true (decide (z<=512))with h2|h2
  ·refine Bnb true O O (λ_=>mN _ z 512) (h2)<|Pk O O O<|Mv O<|Mv O<|Mv O<|Bnr (v:=I (z-1)) O O (λ_=>bx _ _ _ (by unfold inI;simp at h1 h2;omega))<|Bnr (v:=I (CW z (z-1))) O O (λ_=>yJ _ _ _ _)<|Bnr (v:=.bool (gG z)) O O (λ_=>(bN _ _ _).trans (by rw[BF z (by simpa using h1) (by simpa using h2)]))<|Pk O O O<|Asg O<|aa<|ao<|Rr<|?_
   exact au O O (λw' hw'=>⟨rfl,ae hw'⟩)
  ·refine Bnb false O O (λ_=>mN _ z 512) (h2)<|Pk O O O<|Mv O<|Sk<|Sk<|Sk<|Sk<|Sk<|Pk O O O<|Asg O<|aa<|ao<|Rr<|?_
   exact au O O (λw' hw'=>⟨by rw[Ct (of_decide_eq_false h2)];rfl,ae hw'⟩)
 ·refine Bnb false O O (λ_=>cW _ z 1) (h1)<|Mv O<|Sk<|Sk<|Pk O O O<|Mv O<|Sk<|Sk<|Sk<|Sk<|Sk<|Pk O O O<|Asg O<|aa<|ao<|Rr<|?_
  exact au O O (λw' hw'=>⟨by rw[Dc (of_decide_eq_false h1)];rfl,ae hw'⟩)
theorem wi(c:Cf)(hc_:c.Ok)(w:World)(hw:Gt w):CLS 37 [.agg c.cs.toArray].toArray w (λe w'=>e=.returned (I c.chk)/\Grow w w'):=by
 refine Hf func37 O hw<|λhGF=>Xp<|Bx 1 hGF O<|λb1=>Asg O<|aa<|ah<|Xp<|Fa 36 O underlying50 O sizeOf22<|aR (v:=U64 c.s) O isAgg22 (λw' hw'=>by have:=(aw (n:=1) O w' hw') 36 _ (Cf.at_s hc_);rwa [Nat.zero_add]at this) O O<|?_
 rcases Bool.eq_false_or_eq_true (gr c.s)with h1|h1
 ·refine Cbl true O ent77 (xk c.s) (h1)<|cv O (λ_=>bS _) O O<|Mv O<|Fa 37 O underlying50 O sizeOf22<|aR (v:=U64 c.e) O isAgg22 (λw' hw'=>by have:=(aw (n:=1) O w' hw') 37 _ (Cf.at_e hc_);rwa [Nat.zero_add]at this) O O<|?_
  rcases Bool.eq_false_or_eq_true (gr c.e)with h2|h2
  ·refine Cbl true O ent77 (xk c.e) (h2)<|cv O (λ_=>bS _) O O<|Pk O O O<|Mv O<|Fa 38 O underlying50 O sizeOf3<|aR (v:=I c.z) O isAgg3 (λw' hw'=>by have:=(aw (n:=1) O w' hw') 38 _ (Cf.at_z hc_);rwa [Nat.zero_add]at this) O O<|?_
   rcases Bool.eq_false_or_eq_true (gG c.z)with h3|h3
   ·refine Cbl true O ent78 (Fs c.z) (h3)<|cv O (λ_=>bS _) O O<|Pk O O O<|aa<|aI O<|ay<|Xp<|Asg O<|aa<|ao<|Rr<|?_
    exact au O O (λw' hw'=>⟨by unfold Cf.chk Cf.rt;rw[h1,h2,h3];rfl,ae hw'⟩)
   ·refine Cbl false O ent78 (Fs c.z) (h3)<|cv O (λ_=>bS _) O O<|Pk O O O<|aa<|aU O<|Xp<|Asg O<|aa<|ao<|Rr<|?_
    exact au O O (λw' hw'=>⟨by unfold Cf.chk Cf.rt;rw[h1,h2,h3];rfl,ae hw'⟩)
  ·refine Cbl false O ent77 (xk c.e) (h2)<|cv O (λ_=>bS _) O O<|Pk O O O<|Mv O<|Sk<|Sk<|Sk<|Sk<|Pk O O O<|aa<|aU O<|Xp<|Asg O<|aa<|ao<|Rr<|?_
   exact au O O (λw' hw'=>⟨by unfold Cf.chk Cf.rt;rw[h1,h2];rfl,ae hw'⟩)
 ·refine Cbl false O ent77 (xk c.s) (h1)<|cv O (λ_=>bS _) O O<|Mv O<|Sk<|Sk<|Sk<|Sk<|Pk O O O<|Mv O<|Sk<|Sk<|Sk<|Sk<|Pk O O O<|aa<|aU O<|Xp<|Asg O<|aa<|ao<|Rr<|?_
  exact au O O (λw' hw'=>⟨by unfold Cf.chk Cf.rt;rw[h1];rfl,ae hw'⟩)
theorem Lq(c:Cf)(hc_:c.Ok)(n:BitVec 64)(w:World)(hw:Gt w):CLS 153 [.agg c.cs.toArray,U64 n].toArray w (λe w'=>e=.returned (U64 (c.ep n))/\Grow w w'):=by
 refine Hf func153 O hw<|λhGF=>Xp<|Bx 2 hGF O<|λb2=>Asg O<|aa<|ah<|Xp<|aJ (cs:=c.cs) O isAgg50 sizeOf50 (Cf.len hc_) (λw' hw' j v hv=>by have:=(aw (n:=2) O w' hw') _ v (Cf.all j v hv);rwa [Nat.zero_add]at this) O O<|Ca O (wi c hc_)<|?_
 rcases Bool.eq_false_or_eq_true (c.rt)with hr|hr
 ·refine Bnb false O O (λ_=>cM _ c.chk 0) (by rw[EH hr];rfl)<|aa<|aI O<|ay<|Xp<|Mv O<|Fa 36 O underlying50 O sizeOf22<|aR (v:=U64 c.s) O isAgg22 (λw' hw'=>by have:=(aw (n:=2) O w' hw') 36 _ (Cf.at_s hc_);rwa [Nat.zero_add]at this) O O<|Bnr (v:=U64 (n / c.s)) O O (λ_=>g9 _ _ _ (nU (LM hr)))<|Asg O<|aa<|ao<|Rr<|?_
  exact au O O (λw' hw'=>⟨by rw[I4 hr],ae hw'⟩)
 ·refine Bnb true O O (λ_=>cM _ c.chk 0) (by rw[ET hr];rfl)<|aa<|aU O<|Xp<|Asg O<|aa<|ao<|Rr<|?_
  exact au O O (λw' hw'=>⟨by rw[ep_f hr];rfl,ae hw'⟩)
theorem JQ(c:Cf)(hc_:c.Ok)(n:BitVec 64)(w:World)(hw:Gt w):CLS 122 [.agg c.cs.toArray,U64 n].toArray w (λe w'=>e=.returned (U64 (c.pe n))/\Grow w w'):=by
 refine Hf func122 O hw<|λhGF=>Xp<|Bx 2 hGF O<|λb2=>Asg O<|aa<|ah<|Xp<|aJ (cs:=c.cs) O isAgg50 sizeOf50 (Cf.len hc_) (λw' hw' j v hv=>by have:=(aw (n:=2) O w' hw') _ v (Cf.all j v hv);rwa [Nat.zero_add]at this) O O<|Ca O (wi c hc_)<|?_
 rcases Bool.eq_false_or_eq_true (c.rt)with hr|hr
 ·refine Bnb false O O (λ_=>cM _ c.chk 0) (by rw[EH hr];rfl)<|aa<|aI O<|ay<|Xd []<|aJ (cs:=c.cs) O isAgg50 sizeOf50 (Cf.len hc_) (λw' hw' j v hv=>by have:=(aw (n:=2) O w' hw') _ v (Cf.all j v hv);rwa [Nat.zero_add]at this) O O<|Mv O<|Ca O (Lq c hc_ n)<|Fa 37 O underlying50 O sizeOf22<|aR (v:=U64 c.e) O isAgg22 (λw' hw'=>by have:=(aw (n:=2) O w' hw') 37 _ (Cf.at_e hc_);rwa [Nat.zero_add]at this) O O<|Bnr (v:=U64 (c.ep n / c.e)) O O (λ_=>g9 _ _ _ (nU (Lj hr)))<|Asg O<|aa<|ao<|Rr<|?_
  exact au O O (λw' hw'=>⟨by rw[J7 hr,I4 hr],ae hw'⟩)
 ·refine Bnb true O O (λ_=>cM _ c.chk 0) (by rw[ET hr];rfl)<|aa<|aU O<|Xp<|Asg O<|aa<|ao<|Rr<|?_
  exact au O O (λw' hw'=>⟨by rw[LI hr];rfl,ae hw'⟩)
end
section
open Go.RowKit
open Sh
end
section
open Go.RowKit
open Sh
end
section
open Go.RowKit
open Sh
theorem DQ{α:Type}{l:List α}{i:Nat}{x:α}(h:l[i]? =some x):l.drop i=x::l.drop (i+1):=by
 obtain ⟨h1,h2⟩:=List.getElem?_eq_some_iff.1 h;rw[List.drop_eq_getElem_cons h1,h2]
end
section
open Go.RowKit
open Sh
theorem ent187:aL prog 187:=λ_ _=>kr
theorem ent156:aL prog 156:=λ_ _=>kr
theorem ent157:aL prog 157:=λ_ _=>kr
def Chain(w:World)(S:Nat->Prop):List L8->Option Addr->Prop
 |[],p=>p=none
 |x::r,p=> ∃q a c pa,p=some ⟨q,0,none⟩/\w.rangeAt q 0 [.slice a x.length c,.pointer pa]/\BytesAt w a x/\S q/\(∀k,Of a k->S k)/\Chain w S r pa
theorem Chain.mm{M S S':Nat->Prop}{w w':World}(hm:MM M w w')(hS: ∀k,S k->¬M k/\S' k): ∀(ps:List L8) (p:Option Addr),Chain w S ps p->Chain w' S' ps p
 |[],_,h=>h
 |x::r,p,h=>by
  obtain ⟨q,a,c,pa,e,h1,h2,h3,h4,h5⟩:=h;exact ⟨q,a,c,pa,e,hm.range h1 (hS q h3).1,hm.bytes h2 (λad e=>(hS _ (h4 _ ⟨ad,e,rfl⟩)).1),(hS q h3).2,λk hk=>(hS k (h4 k hk)).2,Chain.mm hm hS r pa h5⟩
def WrAt(S:Nat->Prop)(w:World)(b:Nat)(xs:L8):Prop:= ∃ps p,OwnB w b [.pointer p,I (xs.length:Int)] 210/\Chain w S ps p/\ps.reverse.flatten=xs/\¬S b
theorem WrAt.mm{M S S':Nat->Prop}{w w':World}{b:Nat}{xs:L8}(h:WrAt S w b xs)(hm:MM M w w')(hb: ¬M b)(hS: ∀k,S k->¬M k/\S' k)(hb': ¬S' b):WrAt S' w' b xs:=by
 obtain ⟨ps,p,h1,h2,h3,_⟩:=h;exact ⟨ps,p,hm.own h1 hb,h2.mm hm hS,h3,hb'⟩
theorem WrAt.grow{S:Nat->Prop}{w w':World}{b:Nat}{xs:L8}(h:WrAt S w b xs)(hg:Grow w w'):WrAt S w' b xs:=by
 have hb:=h;obtain ⟨_,_,_,_,_,hb⟩:=hb;exact h.mm (M:=λ_=>False) (aY hg) id (λk hk=>⟨id,hk⟩) hb
theorem WrAt.lt{S:Nat->Prop}{w:World}{b:Nat}{xs:L8}(h:WrAt S w b xs):b<w.heap.size:=by
 obtain ⟨_,_,h1,_⟩:=h;exact h1.lt
theorem WrAt.out{S:Nat->Prop}{w:World}{b:Nat}{xs:L8}(h:WrAt S w b xs): ¬S b:=by
 obtain ⟨_,_,_,_,_,h1⟩:=h;exact h1
theorem bldP(a:Option Addr)(n c:Nat)(p:Option Addr)(w:World):(Instr.build 250 #[(0,.slice a n c),(1,.pointer p)]).run prog w=.ok (.agg [.slice a n c,.pointer p].toArray) w:=by
 simp[Instr.build,zeroValue250,run_underlying underlying250,sizeOf123,sizeOf208,Value.cells,Instr.fill]
theorem Km(b:Nat)(p:Option Addr)(xs ys:L8)(a:Option Addr)(cap:Nat)(w:World)(hw:Gt w)(hbl:6<=b)(ho:OwnB w b [.pointer p,I (xs.length:Int)] 210)(hl:xs.length<=1000000)(hl2:ys.length<=1000000):CLS 187 [pnt b,.slice a ys.length cap].toArray w (λr w'=> ∃q,r=.returned (.tuple #[])/\MM (λk=>k=b) w w'/\OwnB w' b [pnt q,I ((xs++ys).length:Int)] 210/\(w.heap.size<=q/\q<w'.heap.size)/\w'.rangeAt q 0 [.slice a ys.length cap,.pointer p]):=by
 have hGF:BOk Gt (plM w (λk=>k=b)):=mO gt_low hw (λm e=>e▸hbl);exact eH (G:=Gt) func187 O O (Hp (plM w (λk=>k=b)) [(0,b,[.pointer p,I (xs.length:Int)],210)]) (jn ho O) (aT hGF)<|Xp<|Mv O<|Mv O<|Mv O<|aQ O O O<|Fa 0 O underlying210 O sizeOf208<|co 0 O O O isAgg208 O O<|cx (ps:=[(0,.tmp 5),(1,.tmp 9)]) (vs:=[.slice a ys.length cap,.pointer p]) O (λw=>bldP a ys.length cap p w) O O<|Bx 11 hGF O<|λb11=>aQ O O O<|Fa 0 O underlying210 O sizeOf208<|cP 0 hGF O O O sizeOf208 O (by simp[*]) O<|aa<|Xq<|Mv O<|aQ O O O<|Fa 1 O underlying210 O sizeOf3<|co 0 O O O isAgg3 O O<|Mv O<|bz O (λ_=>aO underlying123 _ _ _ _) O O<|Bnr (v:=I (((xs++ys).length:Int))) O O (λ_=>(av _ _ _ aG).trans (by rw[List.length_append];rfl))<|aQ O O O<|Fa 1 O underlying210 O sizeOf3<|cP 0 hGF O O O sizeOf3 O (by simp[*]) O<|aa<|(by first|exact eo O (λw' hw'=>⟨b11,rfl,j4 hw',(hw'.own 0 _ _ _ O).1,⟨(hw'.own 11 _ _ _ O).2.elim id (λh=>by obtain rfl:b11=b:=h;exact absurd (hw'.inj 11 0 _ _ _ _ _ O O) aC),(hw'.own 11 _ _ _ O).1.lt⟩,(hw'.own 11 _ _ _ O).1.range⟩)|exact dX O (λw' hw'=>⟨b11,rfl,j4 hw',(hw'.own 0 _ _ _ O).1,⟨(hw'.own 11 _ _ _ O).2.elim id (λh=>by obtain rfl:b11=b:=h;exact absurd (hw'.inj 11 0 _ _ _ _ _ O O) aC),(hw'.own 11 _ _ _ O).1.lt⟩,(hw'.own 11 _ _ _ O).1.range⟩))
theorem ym(S:Nat->Prop)(b:Nat)(xs ys:L8)(a:Option Addr)(len cap:Nat)(hlen:ys.length=len)(hl:xs.length<=1000000)(hl2:len<=1000000)(w:World)(hw:Gt w)(hbl:6<=b)(hr:WrAt S w b xs)(hy:BytesAt w a ys)(ha: ¬Of a b):CLS 187 [pnt b,.slice a len cap].toArray w (λr w'=>r=.returned (.tuple #[])/\MM (λk=>k=b) w w'/\WrAt (λk=>S k\/Of a k\/(w.heap.size<=k/\k<w'.heap.size)) w' b (xs++ys)):=by
 subst hlen;obtain ⟨ps,p,ho,hc,he,hb⟩:=hr;refine (Km b p xs ys a cap w hw hbl ho hl hl2).mono λr w' ⟨q,h1,h2,h3,h4,h5⟩=>⟨h1,h2,ys::ps,_,h3,⟨q,a,cap,p,rfl,h5,h2.bytes hy (λad e h=>ha ⟨ad,e,h.symm⟩),.inr (.inr h4),λk hk=>.inr (.inl hk),hc.mm h2 (λk hk=>⟨λh=>hb (h▸hk),.inl hk⟩)⟩,by rw[List.reverse_cons,List.flatten_append,he];simp, ?_⟩
 rintro (h|h|h)
 ·exact hb h
 ·exact ha h
 ·have:=ho.lt;omega
theorem BG(S:Nat->Prop)(b:Nat)(xs ys:L8)(a:Option Addr)(cap:Nat)(hl:xs.length<=1000000)(hl2:ys.length<=1000000)(w:World)(hw:Gt w)(hbl:6<=b)(hr:WrAt S w b xs)(hy:BytesAt w a ys):CLS 156 [pnt b,.slice a ys.length cap].toArray w (λr w'=>r=.returned (.tuple #[])/\MM (λk=>k=b) w w'/\WrAt (λk=>S k\/(w.heap.size<=k/\k<w'.heap.size)) w' b (xs++ys)):=by
 refine Hf func156 O hw<|λhGF=>ai (E:=EE [187])<|Mv O<|bz O (λ_=>aO underlying123 _ _ _ _) O O<|gX (l:=ys.length) (m:=ys.length) (c:=(List.replicate (ys.length) 0#8).map U8) 7 hGF O O (Nat.le_refl _) underlying123 ti5 ⟨om,om,om⟩ (by rw[Nat.mul_one];exact A6 _) O O<|λb7=>Asg O<|aa<|ai (E:=EE [187])<|Mv O<|Mv O<|ei (cs:=ys) 7 hGF O O O underlying123 kr (Nat.min_self _).symm (λw' h=>hy.grow (ae h)) aB O O<|?_
 rw[dp _ _ aB];refine aa<|cq (E:=EE [187])<|Mv O<|Mv O<|?_;refine ce O O ent187 O O (λw3 hC=>(ym S b xs ys (spt b7) _ ys.length O hl hl2 w3 (hGF.g _ _ _ hC) hbl (hr.grow (ae hC)) (BytesAt.range (aw (n:=7) O w3 hC)) (λ⟨ad,e,hb⟩=>by cases e;dsimp only at hb;have h1:w.heap.size<=b7:=(hC.own 7 _ _ _ O).2.elim id False.elim;have:=hr.lt;omega)).mono λe1 w4 h=> ?_)
 obtain ⟨rfl,hm,hW⟩:=h;have hg3:=ae hC;have hnb:w.heap.size<=b7:=(hC.own 7 _ _ _ O).2.elim id False.elim;have hnl:b7<w3.heap.size:=(hC.own 7 _ _ _ O).1.lt;have hg4:Gt w4:=gt_low.same w3 w4 (λk hk=>hm.keep k (Nat.lt_of_lt_of_le hk (gt_low.size w3 (hGF.g _ _ _ hC))) λh=>om) (hGF.g _ _ _ hC);refine ⟨_,Hp (pl w4) [],rfl,aT (gt_low.plain hg4),cL (pl w4) trivial aH, ?_⟩;refine aa ?_
 first|exact eo O (λw' hw'=>⟨rfl,((aY hg3).trans hm).trans (aY (ae hw')),(hW.grow (ae hw')).mm (M:=λ_=>False) (aY (Grow.refl w')) id (λk hk=>⟨id,by rcases hk with h|⟨ad,e,h⟩|h;exact .inl h;exact .inr (by cases e;dsimp only at h;have:=hm.size;have:=(ae hw').size;omega);exact .inr (by have:=hg3.size;have:=(ae hw').size;omega)⟩) (λh=>h.elim hr.out (by have:=hr.lt;omega))⟩)|exact dX O (λw' hw'=>⟨rfl,((aY hg3).trans hm).trans (aY (ae hw')),(hW.grow (ae hw')).mm (M:=λ_=>False) (aY (Grow.refl w')) id (λk hk=>⟨id,by rcases hk with h|⟨ad,e,h⟩|h;exact .inl h;exact .inr (by cases e;dsimp only at h;have:=hm.size;have:=(ae hw').size;omega);exact .inr (by have:=hg3.size;have:=(ae hw').size;omega)⟩) (λh=>h.elim hr.out (by have:=hr.lt;omega))⟩)
theorem cutW(b s e:Nat):(if e=s then some (⟨b,0,none⟩:Addr)else (some (⟨b,0,none⟩:Addr)).map (·.add (s*1)))=some ⟨b,if e=s then 0 else s,none⟩:=by
 split
 ·rfl
 ·simp[Addr.add]
  intro h;exact h.symm
theorem D4{z x t:L8}{s e o:Nat}(ho:o=if e=s then 0 else s)(he:e=s+x.length)(hz:z=List.replicate e 0#8):lay o (x.map U8) ((z++t).map U8)=((List.replicate s 0#8++x)++t).map U8:=by
 subst hz;by_cases h:e=s
 ·have hx:x=[]:=List.eq_nil_of_length_eq_zero om
  subst hx;rw[h];simp[lay]
 ·rw[if_neg h]at ho
  subst ho;rw[im _ _ _ (by simp;omega)]
  simp only[<-List.map_take,<-List.map_drop,<-List.map_append,List.length_map];congr 1;rw[List.take_append_of_le_length (by simp;omega),List.take_replicate,Nat.min_eq_left om,<-he,List.drop_append_of_le_length aB,List.drop_replicate,Nat.sub_self]
  simp
structure LaV(w:World)(S:Nat->Prop)(ps:List L8) where
 (d r:List L8) (p:Option Addr)
 h:d++r=ps
 c:Chain w S r p
theorem xN(S:Nat->Prop)(b:Nat)(xs:L8)(hl:xs.length<=1000000)(w:World)(hw:Gt w)(hr:WrAt S w b xs):CLS 157 [pnt b].toArray w (λe w'=> ∃v,e=.returned v/\Grow w w'/\Fr8 w w' v xs):=by
 obtain ⟨ps,p0,ho,hch,he,_⟩:=hr;refine Hf func157 O hw<|λhGF=>Xp<|Asg O<|aa<|Xp<|Mv O<|aQ O O O<|Fa 1 O underlying210 O sizeOf3<|aR O isAgg3 (λw' h=>((ho.grow (ae h)).cell 1).trans O) O O<|gX (l:=xs.length) (m:=xs.length) (c:=(List.replicate (xs.length) 0#8).map U8) 11 hGF O O (Nat.le_refl _) underlying123 ti5 ⟨om,om,om⟩ (by rw[Nat.mul_one];exact A6 _) O O<|λb11=>Asg O<|aa<|Xp<|Mv O<|bz O (λ_=>aO underlying123 _ _ _ _) O O<|Asg O<|aa<|ah<|Xp<|Mv O<|aQ O O O<|Fa 0 O underlying210 O sizeOf208<|aR O isAgg208 (λw' h=>((ho.grow (ae h)).cell 0).trans O) O O<|Asg O<|aa<|ar<|bV (ι:=LaV w S ps) (λy=>[(0,pnt b),(3,.slice (spt b11) xs.length xs.length),(4,I ((y.r.reverse.flatten).length:Int)),(5,.pointer y.p)]) (λy=>[(11,b11,((List.replicate (y.r.reverse.flatten).length 0#8++y.d.reverse.flatten).map U8),5)]) (λy=>y.r.length) ⟨[],ps,p0,rfl,hch⟩ hGF ⟨rfl,rfl,by rw[he];rfl,rfl,trivial⟩ ⟨by rw[he];simp;rfl,trivial⟩<|?_
 rintro ⟨d,r,p,hdr,hc⟩;dsimp only;have hc2:=hc;clear hc;refine ah<|Xp<|Mv O<|Bnr O O (λw'=>xC underlying208 _ w')<|aa<|?_;refine cw O (λhc=> ?_) (λhc=> ?_)
 ·obtain ⟨x,r,rfl⟩: ∃x r',r=x::r':=by
   cases r with
   |nil=>rw[show p=none from hc2]at hc;cases hc
   |cons x r=>exact ⟨x,r,rfl⟩
  clear hc;obtain ⟨q,a,c,pa,rfl,hrg,hby,hSq,hSa,hc6⟩:=hc2;have hr0:=hrg 0 _ O;have hr1:=hrg 1 _ O;have hlen:((x::r).reverse.flatten).length=(r.reverse.flatten).length+x.length:=by rw[List.reverse_cons,List.flatten_append,List.length_append];simp
  have htot:((x::r).reverse.flatten).length+(d.reverse.flatten).length=xs.length:=by rw[<-he,<-hdr,List.reverse_append,List.flatten_append,List.length_append]
  have hcl:(List.replicate ((x::r).reverse.flatten).length 0#8++d.reverse.flatten).length=xs.length:=by rw[List.length_append,List.length_replicate,htot]
  refine ay<|ah<|ar<|Xp<|Mv O<|Mv O<|aQ O O O<|Fa 0 O underlying250 O sizeOf123<|aR O isAgg123 (λw' h=>((ae h).cell (block_lt_of_cell hr0)).trans hr0) O O<|bz O (λ_=>aO underlying123 _ _ _ _) O O<|Bnr (v:=I (((r.reverse.flatten).length:Int))) O O (λ_=>(bx _ _ _ aG).trans (by congr 2;omega))<|Asg O<|aa<|Xd []<|Mv O<|Mv O<|Mv O<|Mv O<|pQ (l:=(r.reverse.flatten).length) (h':=((x::r).reverse.flatten).length) (m:=((x::r).reverse.flatten).length) O underlying123 sizeOf5 O O O ⟨om,Nat.le_refl _,om⟩ O O<|?_
  rw[cutW];refine Mv O<|aQ O O O<|Fa 0 O underlying250 O sizeOf123<|aR O isAgg123 (λw' h=>((ae h).cell (block_lt_of_cell hr0)).trans hr0) O O<|ei (cs:=x) 11 hGF O O O underlying123 kr (by rw[hlen,Nat.add_sub_cancel_left];exact (Nat.min_self _).symm) (λw' h=>hby.grow (ae h)) (by split<;>simp<;>omega) O O<|?_
  rw[D4 (t:=d.reverse.flatten) O hlen O];refine aa<|Xq<|Mv O<|Asg O<|aa<|Xq<|Mv O<|aQ O O O<|Fa 1 O underlying250 O sizeOf208<|aR O isAgg208 (λw' h=>((ae h).cell (block_lt_of_cell hr1)).trans hr1) O O<|Asg O<|aa<|?_
  repeat (refine bh ?_)
  exact aW<|⟨rfl,⟨d++[x],r,pa,by rw[List.append_assoc];exact hdr,hc6⟩,_,by show r.length<r.length+1;omega,rfl,trv,⟨by rw[List.reverse_append];simp[List.append_assoc];rfl,trivial⟩⟩
 ·have hrn:r=[]:=by
   cases r with
   |nil=>rfl
   |cons x r=>obtain ⟨_,_,_,_,rfl,_⟩:=hc2;cases hc
  subst hrn;rw[List.append_nil]at hdr;subst hdr;refine bu<|Xp<|Mv O<|Asg O<|aa<|ao<|Rr<|?_;exact au O O (λw' hw'=>⟨_,rfl,ae hw',wY (n:=11) hw' (by rw[<-he];rfl)⟩)
end
section
open Go.RowKit
open Sh
def FRK(v:L8)(g:Rt):Rt:=P2 (ee v) g
def DOM(c:Cf):Rt:=[7#8,0#8,0#8,0#8]++(FRK c.v c.g).take 28
def MSG(c:Cf)(h:Hd):Rt:=P2 h.rt (DOM c)
theorem xn(v:L8)(g:Rt):(FRK v g).length=32:=cV _ _
theorem Dg(c:Cf):(DOM c).length=32:=by rw[DOM,List.length_append,List.length_take,xn];rfl
theorem Cf.at_g{c:Cf}(j:Nat)(v:Value)(h:(c.g.map U8)[j]? =some v):c.cs[0+j]? =some v:=by
 rw[Nat.zero_add,Cf.cs,List.getElem?_append_left (List.getElem?_eq_some_iff.1 h).1];exact h
theorem Cf.at_v{c:Cf}(k:c.Ok)(j:Nat)(v:Value)(h:(c.v.map U8)[j]? =some v):c.cs[32+j]? =some v:=by
 rw[Cf.cs,List.getElem?_append_right (by rw[List.length_map,k.g];omega),List.length_map,k.g,Nat.add_sub_cancel_left,List.getElem?_append_left (List.getElem?_eq_some_iff.1 h).1];exact h
def Ls(w w':World)(e:Ending)(xs:L8)(n:Nat):Prop:= ∃b cs cap,e=.returned (.slice (spt b) n cap)/\Grow w w'/\w.heap.size<=b/\OwnB w' b cs 5/\cs.length=cap/\n<=cap/\cs.take n=xs.map U8
end
section
open Go.RowKit
open Sh
theorem ent79:aL prog 79:=λ_ _=>kr
theorem ent119:aL prog 119:=λ_ _=>kr
theorem ent83:aL prog 83:=λ_ _=>kr
theorem ent82:aL prog 82:=λ_ _=>kr
theorem ent40:aL prog 40:=λ_ _=>kr
theorem ent43:aL prog 43:=λ_ _=>kr
theorem iY(l:List Rt)(hl:AllR l)(hln:l.length<=65536)(a:Option Addr)(cap:Nat)(w:World)(hw:Gt w)(hr:RtsAt w a l):CLS 79 [.slice a l.length cap].toArray w (λe w'=>e=.returned (.agg ((Tor l).map U8).toArray)/\Grow w w'):=by
 refine Hf func79 O hw<|λhGF=>Xp<|Al 2 hGF zv28<|λb2=>aa<|Xp<|Mv O<|Mv O<|bz O (λ_=>aO underlying86 _ _ _ _) O O<|Cc O ent114 (λw' hw' hG=>wl (l.length:Int) om l hl l.length O hln a cap (by rw[Int.toNat_natCast];omega) w' hG (hr.grow (ae hw')))<|?_
 rw[Int.toNat_natCast,show tre P2 Z0 (dep l.length) l=Tor l from O];refine Mv O<|Exq O O<|Exq O O<|Al 3 hGF zv27<|λb3=>am 3 hGF O O O sizeOf27 (by rw[List.length_map];exact cC hl) (by rw[List.length_map];exact cI) (be _) O<|Asg O<|aa<|Xp<|aq 3 O O isAgg27 sizeOf27 (by rw[List.length_map];exact cC hl) O O<|am 2 hGF O O O sizeOf28 (by rw[List.length_map];exact cC hl) (by rw[List.length_map];exact cI) (be _) O<|aa<|ao<|Rr<|?_
 exact az 2 O O O isAgg28 sizeOf28 (by rw[List.length_map];exact cC hl) (λw' hw'=>⟨rfl,ae hw'⟩)
theorem DB:BR8 []=Tor []:=by rw[BR8,show chs []=[]from O]
theorem LH(a:Option Addr)(cap:Nat)(w:World)(hw:Gt w):CLS 119 [.slice a 0 cap].toArray w (λe w'=>e=.returned (.agg ((BR8 []).map U8).toArray)/\Grow w w'):=by
 refine Hf func119 O hw<|λhGF=>ai (E:=EE [151])<|Al 2 hGF zv28<|λb2=>aa<|ai (E:=EE [151])<|Mv O<|?_;refine ce O O ent151 O O (λw' hw'=>(mW [] a cap aC (Nat.zero_le _) w' (hGF.g _ _ _ hw') (jD _ _)).mono λe1 w2 h=> ?_);obtain ⟨_,rfl,hg,a9,c9,rfl,hs9,hn9⟩:=h;refine ⟨_,_,rfl,aT hGF,hw'.news aH hg [] (λ_ _ _ _ h=>by cases h) (λ_ _ _ _ _ _ _ h=>by cases h), ?_⟩
 clear hw' hg hs9 hn9;refine Cc O ent79 (λw' hw' hG=>iY [] (λ_ h=>by simp at h) aC a9 c9 w' hG (si _ _)) ?_
 rw[<-DB];refine am 2 hGF O O O sizeOf28 (by rw[List.length_map];exact dC []) (by rw[List.length_map];exact cI) (be _) O<|aa<|ao<|Rr<|?_
 exact az 2 O O O isAgg28 sizeOf28 (by rw[List.length_map];exact dC []) (λw' hw'=>⟨rfl,ae hw'⟩)
theorem Ll(bs:By)(h0:0<bs.length)(hl:bs.length<=1000000)(a:Option Addr)(cap:Nat)(hc:bs.length<=cap)(w:World)(hw:Gt w)(hb:BytesAt w a bs):CLS 119 [.slice a bs.length cap].toArray w (λe w'=>e=.returned (.agg ((BR8 bs).map U8).toArray)/\Grow w w'):=by
 refine Hf func119 O hw<|λhGF=>ai (E:=EE [151])<|Al 2 hGF zv28<|λb2=>aa<|ai (E:=EE [151])<|Mv O<|?_;refine ce O O ent151 O O (λw' hw'=>(mW bs a cap hl hc w' (hGF.g _ _ _ hw') (hb.grow (ae hw'))).mono λe1 w2 h=> ?_);obtain ⟨_,rfl,hg,a9,c9,rfl,hs9,hn9⟩:=h;unfold SlR at hs9;rw[tt,<-gQ]at hs9;obtain ⟨b9,cs9,rfl,ho9,hl9,hc9,_,ht9⟩:=hs9.resolve_left (λh=>by have h3:=h.2.2.1;rw[gQ]at h3;unfold cks at h3;omega)
 refine ⟨_,_,rfl,aT hGF,hw'.news aH hg [(4,b9,cs9,27)] ?_ cF, ?_⟩
 ·intro n' b' c' t' hl
  rcases bq hl with ⟨_,e⟩|⟨_,hl⟩
  ·cases e;exact ⟨hn9 _ O,ho9⟩
  ·cases hl
 rw[<-gQ];rw[List.length_map,cR _ (gR bs)]at ht9;clear hw' hg hn9 ho9;refine Cc O ent79 (λw' hw' hG=>iY (chs bs) (gR bs) (by rw[gQ];unfold cks;omega) _ c9 w' hG (f8 (n:=4) (gR bs) O ht9 w' hw')) ?_
 rw[show Tor (chs bs)=BR8 bs from O];refine am 2 hGF O O O sizeOf28 (by rw[List.length_map];exact dC bs) (by rw[List.length_map];exact cI) (be _) O<|aa<|ao<|Rr<|?_
 exact az 2 O O O isAgg28 sizeOf28 (by rw[List.length_map];exact dC bs) (λw' hw'=>⟨rfl,ae hw'⟩)
theorem xP(bs:By)(hl:bs.length<=1000000)(a:Option Addr)(cap:Nat)(hc:bs.length<=cap)(w:World)(hw:Gt w)(hb:BytesAt w a bs):CLS 119 [.slice a bs.length cap].toArray w (λe w'=>e=.returned (.agg ((BR8 bs).map U8).toArray)/\Grow w w'):=by
 rcases Nat.eq_zero_or_pos bs.length with h0|h0
 ·obtain rfl:bs=[]:=List.eq_nil_of_length_eq_zero h0
  exact LH a cap w hw
 ·exact Ll bs h0 hl a cap hc w hw hb
theorem E3(k:By)(hk:k.length=48)(w:World)(hw:Gt w):CLS 83 [.agg (k.map U8).toArray].toArray w (λe w'=>e=.returned (.agg ((BR8 k).map U8).toArray)/\Grow w w'):=by
 refine Hf func83 O hw<|λhGF=>Xp<|Bx 1 hGF O<|λb1=>Al 2 hGF zv28<|λb2=>aa<|Xp<|dY (n:=48) O underlying33 sizeOf5 aC O O<|Cc O ent119 (λw' hw' hG=>by rw[<-hk];exact xP k (by rw[hk];decide) _ k.length (Nat.le_refl _) w' hG (BytesAt.range (aw (n:=1) O w' hw')))<|am 2 hGF O O O sizeOf28 (by rw[List.length_map];exact dC _) (by rw[List.length_map];exact cI) (be _) O<|aa<|ao<|Rr<|?_
 exact az 2 O O O isAgg28 sizeOf28 (by rw[List.length_map];exact dC _) (λw' hw'=>⟨rfl,ae hw'⟩)
structure RwS(n:Nat)(f:Nat->By) where
 (k:Nat) (c:List Value)
 hk:k<=n
 hc:c.length=32*n
 ht:c.take (32*k)=(RW 32 f k).map U8
theorem tO{n k:Nat}{f:Nat->By}{c:List Value}(hk:k<n)(hc:c.length=32*n)(ht:c.take (32*k)=(RW 32 f k).map U8)(hf:(f k).length=32):(lay (0+32*k) ((f k).map U8) c).take (32*(k+1))=(RW 32 f (k+1)).map U8:=by
 rw[Nat.zero_add,im _ _ _ (by rw[List.length_map,hf,hc];omega),oG f k hf,List.map_append,<-ht,List.take_append_of_le_length (by simp[hc,hf];omega)]
 exact List.take_of_length_le (by simp[hf];omega)
def uc(n:Nat)(f:Nat->By):RwS n f:=⟨0,(List.replicate (32*n) 0#8).map U8,Nat.zero_le _,aB,by simp[RW]⟩
theorem uK(ks:List By)(hl: ∀r∈ks,r.length=48)(hln:ks.length<=1000)(a:Option Addr)(cap:Nat)(w:World)(hw:Gt w)(hr:RwsAt 48 w a ks):CLS 82 [.slice a ks.length cap].toArray w (λe w'=>e=.returned (.agg ((Tor (krs ks ks.length)).map U8).toArray)/\Grow w w'):=by
 refine Hf func82 O hw<|λhGF=>Xp<|Al 2 hGF zv28<|λb2=>aa<|Xp<|Mv O<|bz O (λ_=>aO underlying31 _ _ _ _) O O<|gX (l:=ks.length) (m:=ks.length) (c:=(List.replicate (32*ks.length) 0#8).map U8) 8 hGF O O (Nat.le_refl _) underlying86 tiR ⟨om,om,om⟩ (pS _) O O<|λb8=>Asg O<|aa<|ah<|Xp<|Mv O<|bz O (λ_=>aO underlying31 _ _ _ _) O O<|Mv O<|aa<|ar<|bV (ι:=RwS ks.length (λi=>BR8 (ks.getD i Z48))) (λx=>[(0,.slice a ks.length cap),(2,pnt b2),(3,.slice (spt b8) ks.length ks.length),(9,.slice a ks.length cap),(10,I (ks.length:Int)),(11,I (x.k:Int))]) (λx=>[(2,b2,Z0.map U8,28),(8,b8,x.c,27)]) (λx=>ks.length-x.k) (uc _ _) hGF trv trv<|?_;rintro ⟨k,c2,hk,hc2,ht2⟩;dsimp only;refine Xp ?_;rcases Nat.lt_or_ge k ks.length with hlt|hge
 ·obtain ⟨y,hiy⟩: ∃y,ks[k]? =some y:=⟨_,List.getElem?_eq_getElem hlt⟩
  have hy:y.length=48:=hl y (List.mem_of_getElem? hiy);obtain ⟨ad,hka,hyc⟩:=hr k y hiy;have hfy:(λi=>BR8 (ks.getD i Z48)) k=(BR8 y):=by show BR8 (ks.getD k Z48)=_;rw[List.getD_eq_getElem?_getD,hiy];rfl
  have hfk:(BR8 y).length=32:=dC y;refine Bnb true O O (λ_=>aF _ _ _) (by simp;omega)<|aa<|ah<|aU O<|ay<|ah<|ar<|Xp<|Mv O<|dP (ad:=ad) k 48 (by rw[<-hka];rfl) O underlying31 sizeOf33 O hlt O O<|aP (cs:=y.map U8) O isAgg33 sizeOf33 (by rw[List.length_map];exact hy) (λw' h j v hv=>((ae h).cell (block_lt_of_cell (hyc j v hv))).trans (hyc j v hv)) O O<|Al 5 hGF zvK<|λb5=>Asg O<|am 5 hGF O O O sizeOf33 (by rw[List.length_map];exact hy) (by rw[List.length_map];rfl) (be _) O<|aa<|Xq<|Mv O<|Mv O<|aq 5 O O isAgg33 sizeOf33 (by rw[List.length_map];exact hy) O O<|Cc O ent83 (λw' hw' hG=>E3 y hy w' hG)<|gt (s:=32) k O O underlying86 sizeOf27 O hlt O O<|fR (vs:=((BR8 y)).map U8) (o:=0+32*k) 8 hGF O O O sizeOf27 (by rw[List.length_map];exact hfk) (be _) (by rw[List.length_map,hfk,hc2];omega) O<|aa<|Xq<|Bnr (v:=I (((k+1:Nat):Int))) O O (λ_=>(av _ _ _ aG).trans aE)<|Mv O<|aa<|?_
  repeat (refine bh ?_)
  exact aW<|⟨rfl,⟨k+1,lay (0+32*k) (((BR8 y)).map U8) c2,hlt,by rw[fM];exact hc2,by rw[<-hfy]at hfk⊢;exact tO hlt hc2 ht2 hfk⟩,_,by show ks.length-(k+1)<ks.length-k;omega,rfl,trv,trv⟩
 ·obtain rfl:k=ks.length:=om
  rw[sV]at ht2;have hAl:=ff ks ks.length;have hLn:(krs ks ks.length).length=ks.length:=jb _ _;have ht2:c2.take (32*(krs ks ks.length).length)=(krs ks ks.length).flatten.map U8:=by rw[jb];exact ht2
  refine Bnb false O O (λ_=>aF _ _ _) (by rw[decide_eq_false_iff_not];omega)<|aa<|ah<|aI O<|bu<|Xp<|Mv O<|Cc O ent79 (λw' hw' hG=>by have:=iY (krs ks ks.length) (ff _ _) (by rw[jb];omega) _ ks.length w' hG (f8 (n:=8) hAl O ht2 w' hw');rw[hLn]at this;exact this)<|am 2 hGF O O O sizeOf28 (by rw[List.length_map];exact cC (ff _ _)) (by rw[List.length_map];exact cI) (be _) O<|aa<|ao<|Rr<|?_
  exact az 2 O O O isAgg28 sizeOf28 (by rw[List.length_map];exact cC (ff _ _)) (λw' hw'=>⟨rfl,ae hw'⟩)
theorem Hd.c0{h:Hd}: ∀j v,[U64 h.s][j]? =some v->h.cs[0+j]? =some v:=eE (pre:=[]) (post:=U64 h.p::(h.a.map U8++(h.b.map U8++h.c.map U8))) O
theorem Hd.c1{h:Hd}: ∀j v,[U64 h.p][j]? =some v->h.cs[1+j]? =some v:=eE (pre:=[U64 h.s]) (post:=h.a.map U8++(h.b.map U8++h.c.map U8)) O
theorem Ev(h:Hd)(hk:h.Ok)(w:World)(hw:Gt w):CLS 40 [.agg h.cs.toArray].toArray w (λe w'=>e=.returned (.agg ((h.rt).map U8).toArray)/\Grow w w'):=by
 refine Hf func40 O hw<|λhGF=>ai (E:=EE [2999998])<|Bx 1 hGF O<|λb1=>Al 2 hGF zv28<|λb2=>aa<|Xd [2999998]<|Fa 0 O underlying30 O sizeOf22<|aR (v:=U64 h.s) O isAgg22 (λw' hw'=>by have:=(aw (n:=1) O w' hw') _ _ (Hd.c0 0 _ O);exact this) O O<|Cc O ent80 (λw' hw' hG=>rh h.s w' hG)<|?_
 rw[show ee (le8 h.s 8)=nR h.s from O];obtain ⟨r5,hr5⟩: ∃x,x=nR h.s:=⟨_,rfl⟩;rw[<-hr5];have hl5:r5.length=32:=by rw[hr5];exact m3 _
 refine Fa 1 O underlying30 O sizeOf22<|aR (v:=U64 h.p) O isAgg22 (λw' hw'=>by have:=(aw (n:=1) O w' hw') _ _ (Hd.c1 0 _ O);exact this) O O<|Cc O ent80 (λw' hw' hG=>rh h.p w' hG)<|?_
 rw[show ee (le8 h.p 8)=nR h.p from O];obtain ⟨r8,hr8⟩: ∃x,x=nR h.p:=⟨_,rfl⟩;rw[<-hr8];have hl8:r8.length=32:=by rw[hr8];exact m3 _
 refine Fa 2 O underlying30 O sizeOf28<|aJ (cs:=h.a.map U8) O isAgg28 sizeOf28 (by rw[List.length_map];exact hk.a) (λw' hw' j v hv=>by have:=(aw (n:=1) O w' hw') _ v (Hd.at_a j v hv);rwa [Nat.zero_add]at this) O O<|Fa 34 O underlying30 O sizeOf28<|aJ (cs:=h.b.map U8) O isAgg28 sizeOf28 (by rw[List.length_map];exact hk.b) (λw' hw' j v hv=>by have:=(aw (n:=1) O w' hw') _ v ((Hd.at_b hk) j v hv);rwa [Nat.zero_add]at this) O O<|Fa 66 O underlying30 O sizeOf28<|aJ (cs:=h.c.map U8) O isAgg28 sizeOf28 (by rw[List.length_map];exact hk.c) (λw' hw' j v hv=>by have:=(aw (n:=1) O w' hw') _ v ((Hd.at_c hk) j v hv);rwa [Nat.zero_add]at this) O O<|kf (uf:=U8) (s:=32) 15 (λi=>([r5,r8,h.a,h.b,h.c]).getD i []) (List.replicate 32 0#8) hGF O O O (λi hi=>(cQ hl5 (cQ hl8 (cQ hk.a (cQ hk.b (cQ hk.c jZ))))) _ (kX hi)) aC aC underlying86 sizeOf27 O zv27 O O<|?_
 intro b15;rw[show RW 32 (λi=>([r5,r8,h.a,h.b,h.c]).getD i []) 5=([r5,r8,h.a,h.b,h.c]).flatten from iA ([r5,r8,h.a,h.b,h.c]) (cQ hl5 (cQ hl8 (cQ hk.a (cQ hk.b (cQ hk.c jZ)))))];refine mE O O ent79 (λw' hw' hG=>iY [r5,r8,h.a,h.b,h.c] (cQ hl5 (cQ hl8 (cQ hk.a (cQ hk.b (cQ hk.c jZ))))) (by show 5<=65536;decide) _ 5 w' hG (f8 (n:=15) (cQ hl5 (cQ hl8 (cQ hk.a (cQ hk.b (cQ hk.c jZ))))) O (List.take_of_length_le (by rw[List.length_map,cR _ (cQ hl5 (cQ hl8 (cQ hk.a (cQ hk.b (cQ hk.c jZ)))))];exact Nat.le_refl _)) w' hw')) O O<|am 2 hGF O O O sizeOf28 (by rw[List.length_map];exact cC (cQ hl5 (cQ hl8 (cQ hk.a (cQ hk.b (cQ hk.c jZ)))))) (by rw[List.length_map];exact cI) (be _) O<|aa<|ao<|Rr<|?_
 exact az 2 O O O isAgg28 sizeOf28 (by rw[List.length_map];exact cC (cQ hl5 (cQ hl8 (cQ hk.a (cQ hk.b (cQ hk.c jZ)))))) (λw' hw'=>⟨by rw[hr5,hr8];rfl,ae hw'⟩)
theorem J0(c:Co)(hk:c.Ok)(hn:c.ks.length<=1000)(w:World)(hw:Gt w)(hks:RwsAt 48 w c.ka c.ks):CLS 43 [.agg c.cs.toArray].toArray w (λe w'=>e=.returned (.agg ((c.rt c.ks.length).map U8).toArray)/\Grow w w'):=by
 refine Hf func43 O hw<|λhGF=>ai (E:=EE [2999998])<|Bx 1 hGF O<|λb1=>Al 2 hGF zv28<|λb2=>aa<|Xd [2999998]<|Fa 0 O underlying35 O sizeOf31<|aR (v:=.slice c.ka c.ks.length c.kc) O isAgg31 (λw' hw'=>by have:=(aw (n:=1) O w' hw') _ _ (Co.a0 0 _ O);exact this) O O<|Cc O ent82 (λw' hw' hG=>uK c.ks hk.ks hn c.ka c.kc w' hG (hks.grow (ae hw')))<|?_
 obtain ⟨r5,hr5⟩: ∃x,x=Tor (krs c.ks c.ks.length):=⟨_,rfl⟩;rw[<-hr5];have hl5:r5.length=32:=by rw[hr5];exact cC (ff _ _)
 refine Fa 1 O underlying35 O sizeOf33<|aJ (cs:=c.sum.map U8) O isAgg33 sizeOf33 (by rw[List.length_map];exact hk.sum) (λw' hw' j v hv=>by have:=(aw (n:=1) O w' hw') _ v (Co.a_sum j v hv);rwa [Nat.zero_add]at this) O O<|Cc O ent83 (λw' hw' hG=>E3 c.sum hk.sum w' hG)<|?_
 obtain ⟨r8,hr8⟩: ∃x,x=BR8 c.sum:=⟨_,rfl⟩;rw[<-hr8];have hl8:r8.length=32:=by rw[hr8];exact dC _
 refine kf (uf:=U8) (s:=32) 9 (λi=>([r5,r8]).getD i []) (List.replicate 32 0#8) hGF O O O (λi hi=>(cQ hl5 (cQ hl8 jZ)) _ (kX hi)) aC aC underlying86 sizeOf27 O zv27 O O ?_;intro b9;rw[show RW 32 (λi=>([r5,r8]).getD i []) 2=([r5,r8]).flatten from iA ([r5,r8]) (cQ hl5 (cQ hl8 jZ))];refine mE O O ent79 (λw' hw' hG=>iY [r5,r8] (cQ hl5 (cQ hl8 jZ)) (by show 2<=65536;decide) _ 2 w' hG (f8 (n:=9) (cQ hl5 (cQ hl8 jZ)) O (List.take_of_length_le (by rw[List.length_map,cR _ (cQ hl5 (cQ hl8 jZ))];exact Nat.le_refl _)) w' hw')) O O<|am 2 hGF O O O sizeOf28 (by rw[List.length_map];exact cC (cQ hl5 (cQ hl8 jZ))) (by rw[List.length_map];exact cI) (be _) O<|aa<|ao<|Rr<|?_
 exact az 2 O O O isAgg28 sizeOf28 (by rw[List.length_map];exact cC (cQ hl5 (cQ hl8 jZ))) (λw' hw'=>⟨by rw[hr5,hr8];rfl,ae hw'⟩)
end
section
open Go.RowKit
open Sh
theorem ent39:aL prog 39:=λ_ _=>kr
theorem ent44:aL prog 44:=λ_ _=>kr
theorem ent42:aL prog 42:=λ_ _=>kr
theorem ent36:aL prog 36:=λ_ _=>kr
theorem ent38:aL prog 38:=λ_ _=>kr
theorem ent41:aL prog 41:=λ_ _=>kr
def FnA(w:World)(v:Value)(a:Int):Prop:= ∃f ft cl,v=.func (.func f) (ft:List Value).toArray (cl:List Value).toArray/\aL prog f/\∀w1,Grow w w1->Gt w1->CLS f (ft++[]++cl).toArray w1 (λe w2=>e=.returned (I a)/\Grow w1 w2)
def Fst(w:World):List Value->Int->Prop
 |[],r=>r=0
 |v::l,r=> ∃a,FnA w v a/\((a=0/\Fst w l r)\/(a≠0/\r=a))
theorem FnA.ok{w:World}{v:Value}{l:List Value}{r:Int}(h:FnA w v 0)(hl:Fst w l r):Fst w (v::l) r:=⟨0,h,.inl ⟨rfl,hl⟩⟩
theorem FnA.no{w:World}{v:Value}{l:List Value}{r:Int}(h:FnA w v r)(hr:r≠0):Fst w (v::l) r:=⟨r,h,.inr ⟨hr,rfl⟩⟩
theorem lL(b:Bool)(k:Int)(w:World)(hw:Gt w):CLS 39 [.bool b,I k].toArray w (λe w'=>e=.returned (I (bif b then 0 else k))/\Grow w w'):=by
 cases b
 ·refine Hf func39 O hw<|λhGF=>Xp<|Asg O<|aa<|ah<|Xp<|Mv O<|aa<|aI O<|ay<|Xp<|Mv O<|Asg O<|aa<|ao<|Rr<|?_
  exact au O O (λw' hw'=>⟨rfl,ae hw'⟩)
 ·refine Hf func39 O hw<|λhGF=>Xp<|Asg O<|aa<|ah<|Xp<|Mv O<|aa<|aU O<|Xp<|Asg O<|aa<|ao<|Rr<|?_
  exact au O O (λw' hw'=>⟨rfl,ae hw'⟩)
theorem EX(l:List Value)(hl:l.length<=1000)(a:Option Addr)(cap:Nat)(r:Int)(w:World)(hw:Gt w)(hcl:CellsAt w a l)(hF:Fst w l r):CLS 44 [.slice a l.length cap].toArray w (λe w'=>e=.returned (I r)/\Grow w w'):=by
 refine Hf func44 O hw<|λhGF=>Xp<|Asg O<|aa<|kI<|Xp<|Asg O<|aa<|ah<|nY<|ah<|Xp<|Mv O<|bz O (λ_=>aO underlying142 _ _ _ _) O O<|Mv O<|aa<|ar<|bV (ι:={i:Nat // i<=l.length/\Fst w (l.drop i) r}) (λx=>[(3,I 0),(6,.slice a l.length cap),(7,I (l.length:Int)),(8,I (x.1:Int))]) (λ_=>[]) (λx=>l.length-x.1) ⟨0,Nat.zero_le _,hF⟩ hGF trv trivial<|?_;rintro ⟨i,hi,hFi⟩;dsimp only;refine Xp<|Bnr O O (λ_=>aF _ _ _)<|aa<|ah<|?_;refine cw O (λhc=> ?_) (λhc=> ?_)
 ·have hlt:i<l.length:=(by simp at hc;omega)
  clear hc;obtain ⟨y,hx⟩: ∃y,l[i]? =some y:=⟨_,List.getElem?_eq_getElem hlt⟩;rw[DQ hx]at hFi;obtain ⟨x,⟨f,ft,cl,rfl,hen,hfp⟩,hca⟩:=hFi;refine ay<|ah<|ar<|Xp<|?_;obtain ⟨ad,hae,hcell⟩:=hcl i _ hx;refine dP (ad:=ad) i 1 (by rw[<-hae];rfl) O underlying142 sizeOf92 O hlt O O<|aR (v:=.func (.func f) ft.toArray cl.toArray) O isAgg92 (λw' h=>by rw[Nat.mul_one];exact ((ae h).cell (block_lt_of_cell hcell)).trans hcell) O O<|Asg O<|aa<|Xp<|Mv O<|Ak (v:=I x) O O hen (λw' hw' hG=>hfp w' (ae hw') hG) hGF O O O<|Asg O<|aa<|Xp<|Mv O<|aa<|ar<|Xp<|?_
  rcases hca with ⟨hx0,hrest⟩|⟨hx0,hrx⟩
  ·refine Bnb true O O (λ_=>bN _ x 0) (decide_eq_true hx0)<|Asg O<|aa<|aU O<|ay<|Xq<|Bnr (v:=I (((i+1:Nat):Int))) O O (λ_=>(av _ _ _ aG).trans aE)<|Mv O<|aa<|?_
   repeat (refine bh ?_)
   exact aW<|⟨rfl,⟨i+1,hlt,hrest⟩,_,by show l.length-(i+1)<l.length-i;omega,rfl,⟨by rw[hx0];rfl,rfl,rfl,rfl,trivial⟩,trivial⟩
  ·refine Bnb false O O (λ_=>bN _ x 0) (decide_eq_false hx0)<|Asg O<|aa<|aI O<|bu<|Xp<|Mv O<|Asg O<|aa<|ao<|?_
   repeat (first|refine dn ?_|refine dk ?_|refine iB ?_)
   exact au O O (λw' hw'=>⟨by rw[hrx],ae hw'⟩)
 ·have hie:i=l.length:=(by simp at hc;omega)
  clear hc;rw[hie,List.drop_length]at hFi;refine bu<|Xp<|Mv O<|Asg O<|aa<|ao<|?_
  repeat (first|refine dn ?_|refine dk ?_|refine iB ?_)
  exact au O O (λw' hw'=>⟨by rw[show r=0 from hFi],ae hw'⟩)
theorem Jj(lf:Rt)(hlf:lf.length=32)(l:List Rt)(hl:AllR l)(hln:l.length<=1000)(a:Option Addr)(cap:Nat)(ix:BitVec 64)(st:Rt)(hst_:st.length=32)(w:World)(hw:Gt w)(hr:RtsAt w a l):CLS 42 [.agg (lf.map U8).toArray,.slice a l.length cap,U64 ix,.agg (st.map U8).toArray].toArray w (λe w'=>e=.returned (.bool (vfy lf l ix st))/\Grow w w'):=by
 refine Hf func42 O hw<|λhGF=>Xp<|Bx 4 hGF O<|λb4=>Bx 7 hGF O<|λb7=>Asg O<|aa<|Xp<|Mv O<|bz O (λ_=>aO underlying96 _ _ _ _) O O<|gX (l:=l.length) (m:=l.length) (c:=(List.replicate (32*l.length) 0#8).map U8) 14 hGF O O (Nat.le_refl _) underlying86 tiR ⟨om,om,om⟩ (pS _) O O<|λb14=>Asg O<|aa<|ah<|Xp<|Mv O<|bz O (λ_=>aO underlying96 _ _ _ _) O O<|Mv O<|aa<|ar<|bV (ι:=RwS l.length (λi=>l.getD i [])) (λx=>[(1,.slice a l.length cap),(2,U64 ix),(4,pnt b4),(7,pnt b7),(9,.slice (spt b14) l.length l.length),(15,.slice a l.length cap),(16,I (l.length:Int)),(17,I (x.k:Int))]) (λx=>[(4,b4,lf.map U8,28),(7,b7,st.map U8,28),(14,b14,x.c,27)]) (λx=>l.length-x.k) (uc _ _) hGF trv trv<|?_;rintro ⟨k,c2,hk,hc2,ht2⟩;dsimp only;refine Xp ?_;rcases Nat.lt_or_ge k l.length with hlt|hge
 ·obtain ⟨y,hiy⟩: ∃y,l[k]? =some y:=⟨_,List.getElem?_eq_getElem hlt⟩
  have hy:y.length=32:=hl y (List.mem_of_getElem? hiy);obtain ⟨ad,hka,hyc⟩:=hr k y hiy;have hfy:(λi=>l.getD i []) k=y:=by show l.getD k []=_;rw[List.getD_eq_getElem?_getD,hiy];rfl
  refine Bnb true O O (λ_=>aF _ _ _) (by simp;omega)<|aa<|ah<|aU O<|ay<|ah<|ar<|Xp<|Mv O<|dP (ad:=ad) k 32 (by rw[<-hka];rfl) O underlying96 sizeOf28 O hlt O O<|aP (cs:=y.map U8) O isAgg28 sizeOf28 (by rw[List.length_map];exact hy) (λw' h j v hv=>((ae h).cell (block_lt_of_cell (hyc j v hv))).trans (hyc j v hv)) O O<|Al 11 hGF zv28<|λb11=>Asg O<|am 11 hGF O O O sizeOf28 (by rw[List.length_map];exact hy) (by rw[List.length_map];rfl) (be _) O<|aa<|Xq<|Mv O<|Mv O<|aq 11 O O isAgg28 sizeOf28 (by rw[List.length_map];exact hy) O O<|gt (s:=32) k O O underlying86 sizeOf27 O hlt O O<|fR (vs:=y.map U8) (o:=0+32*k) 14 hGF O O O sizeOf27 (by rw[List.length_map];exact hy) (be _) (by rw[List.length_map,hy,hc2];omega) O<|aa<|Xq<|Bnr (v:=I (((k+1:Nat):Int))) O O (λ_=>(av _ _ _ aG).trans aE)<|Mv O<|aa<|?_
  repeat (refine bh ?_)
  exact aW<|⟨rfl,⟨k+1,lay (0+32*k) (y.map U8) c2,hlt,by rw[fM];exact hc2,by have hy2:=hy;rw[<-hfy]at hy2⊢;exact tO hlt hc2 ht2 hy2⟩,_,by show l.length-(k+1)<l.length-k;omega,rfl,trv,trv⟩
 ·obtain rfl:k=l.length:=om
  rw[iA l hl]at ht2;refine Bnb false O O (λ_=>aF _ _ _) (by rw[decide_eq_false_iff_not];omega)<|aa<|ah<|aI O<|bu<|Xp<|aJ (cs:=lf.map U8) O isAgg28 sizeOf28 (by rw[List.length_map];exact hlf) (λw' hw' j v hv=>by have:=(aw (n:=4) O w' hw') _ v (mV j v hv);rwa [Nat.zero_add]at this) O O<|Mv O<|Mv O<|aJ (cs:=st.map U8) O isAgg28 sizeOf28 (by rw[List.length_map];exact hst_) (λw' hw' j v hv=>by have:=(aw (n:=7) O w' hw') _ v (mV j v hv);rwa [Nat.zero_add]at this) O O<|Cc O ent81 (λw' hw' hG=>u1 lf hlf l hl om _ l.length ix st hst_ w' hG (f8 (n:=14) hl O ht2 w' hw'))<|Asg O<|aa<|ao<|Rr<|?_
  exact au O O (λw' hw'=>⟨rfl,ae hw'⟩)
theorem Io{lf st:Rt}{br:By}{n:Nat}(hn:n<=1000)(hb:br.length=32*n)(hlf:lf.length=32)(hst:st.length=32){x:BitVec 64}{V:Bool}(hV:vfy lf (cT br n) x st=V)(a:Option Addr)(cap:Nat)(w:World)(hw:Gt w)(h:BytesAt w a br):CLS 42 [.agg (lf.map U8).toArray,.slice a n cap,U64 x,.agg (st.map U8).toArray].toArray w (λe w'=>e=.returned (.bool V)/\Grow w w'):=by
 have e:(cT br n).length=n:=dJ _ _;have h1:=Jj lf hlf (cT br n) (de hb) (by rw[e];exact hn) a cap x st hst w hw (n5 hb h)
 rw[e,hV]at h1;exact h1
theorem eX{w w':World}{b:Nat}{cs vs:List Value}{o:Nat}(h:w.rangeAt b 0 cs)(hg:Grow w w')(hat: ∀j v,vs[j]? =some v->cs[o+j]? =some v): ∀j v,vs[j]? =some v->w'.cell? ((⟨b,o,none⟩:Addr).add j)=some v:=λj v hv=>by
 have h1:=h _ v (hat j v hv);rw[Nat.zero_add]at h1;rw[Addr.add_mid];exact (hg.cell (block_lt_of_cell h1)).trans h1
theorem iu{w w':World}{b:Nat}{cs:List Value}{o:Nat}{v:Value}(h:w.rangeAt b 0 cs)(hg:Grow w w')(hat:cs[o]? =some v):w'.cell? ⟨b,o,none⟩=some v:=by
 have h1:=h _ v hat;rw[Nat.zero_add]at h1;exact (hg.cell (block_lt_of_cell h1)).trans h1
theorem cJ{w w':World}{b:Nat}{cs:List Value}(h:w.rangeAt b 0 cs)(hg:Grow w w'):w'.rangeAt b 0 cs:=λj v hv=>(hg.cell (block_lt_of_cell (h j v hv))).trans (h j v hv)
theorem Mq(c:Cf)(hc_:c.Ok)(p:Nat)(w:World)(hw:Gt w)(hr:w.rangeAt p 0 c.cs):CLS 36 [pnt p].toArray w (λe w'=>e=.returned (I c.chk)/\Grow w w'):=by
 refine Hf func36 O hw<|λhGF=>Xp<|Asg O<|aa<|Xp<|aP (cs:=c.cs) O isAgg50 sizeOf50 (Cf.len hc_) (λw' h=>eX hr (ae h) (mV)) O O<|Cc O ent37 (λw' hw' hG=>wi c hc_ w' hG)<|Asg O<|aa<|ao<|Rr<|?_;exact au O O (λw' hw'=>⟨rfl,ae hw'⟩)
theorem LX(b:Bo)(hb:b.Ok)(t:Rt)(ht:t.length=32)(p q:Nat)(w:World)(hw:Gt w)(hr:w.rangeAt p 0 b.cs)(hs:w.rangeAt q 0 (t.map U8)):CLS 38 [pnt p,pnt q].toArray w (λe w'=>e=.returned (I (bif decide (b.hd.rt=t)then 0 else 230))/\Grow w w'):=by
 refine Hf func38 O hw<|λhGF=>Xp<|Asg O<|aa<|Xd []<|Fa 0 O underlying38 O sizeOf30<|aP (cs:=b.hd.cs) O isAgg30 sizeOf30 (Hd.len hb.hd) (λw' h=>eX hr (ae h) ((Bo.l1))) O O<|Cc O ent40 (λw' hw' hG=>Ev b.hd hb.hd w' hG)<|aP (cs:=t.map U8) O isAgg28 sizeOf28 (by rw[List.length_map];exact ht) (λw' h=>eX hs (ae h) (mV)) O O<|dy (v:=.bool (decide (b.hd.rt=t))) O O (λw'=>B7 _ _ _ _ _ w') (λw'=>vA BT aC b.hd.rt t (Hd.rt_len hb.hd) ht w') O O<|Cc O ent39 (λw' hw' hG=>lL (decide (b.hd.rt=t)) 230 w' hG)<|Asg O<|aa<|ao<|Rr<|?_
 exact au O O (λw' hw'=>⟨rfl,ae hw'⟩)
theorem Ml(b:Bo)(hb:b.Ok)(hks:b.nw.ks.length<=1000)(p:Nat)(w:World)(hw:Gt w)(hr:w.rangeAt p 0 b.cs)(hrw:RwsAt 48 w b.nw.ka b.nw.ks):CLS 41 [pnt p].toArray w (λe w'=>e=.returned (I (bif vfy (b.nw.rt b.nw.ks.length) (cT b.br 5) 22#64 b.hd.b then 0 else 231))/\Grow w w'):=by
 refine Hf func41 O hw<|λhGF=>Xp<|Asg O<|aa<|Xd []<|Fa 98 O underlying38 O sizeOf35<|aP (cs:=b.nw.cs) O isAgg35 sizeOf35 (Co.len hb.nw) (λw' h=>eX hr (ae h) ((Bo.l2 hb))) O O<|Cc O ent43 (λw' hw' hG=>J0 b.nw hb.nw hks w' hG (hrw.grow (ae hw')))<|Fa 147 O underlying38 O sizeOf36<|dY (n:=5) O underlying36 sizeOf28 aC O O<|Fa 0 O underlying38 O sizeOf30<|Fa 34 O underlying30 O sizeOf28<|aP (cs:=b.hd.b.map U8) O isAgg28 sizeOf28 (by rw[List.length_map];exact hb.hd.b) (λw' h=>eX hr (ae h) ((bF (o:=0) (p:=34) (Bo.l1) (Hd.at_b hb.hd)))) O O<|Cc O ent42 (λw' hw' hG=>Io (n:=5) aC hb.br (Co.rt_len _ _) hb.hd.b O _ 5 w' hG (λj v hv=>⟨_,rfl,eX hr (ae hw') (Bo.l3 hb) j v hv⟩))<|Cc O ent39 (λw' hw' hG=>lL (vfy (b.nw.rt b.nw.ks.length) (cT b.br 5) 22#64 b.hd.b) 231 w' hG)<|Asg O<|aa<|ao<|Rr<|?_
 exact au O O (λw' hw'=>⟨rfl,ae hw'⟩)
theorem Dm{c:Cf}{t:Rt}{b:Bo}{p q r:Nat}{w:World}(hc_:c.Ok)(ht:t.length=32)(hb:b.Ok)(hks:b.nw.ks.length<=1000)(hp:w.rangeAt p 0 c.cs)(hq:w.rangeAt q 0 (t.map U8))(hr:w.rangeAt r 0 b.cs)(hrw:RwsAt 48 w b.nw.ka b.nw.ks):
 Fst w [.func (.func 36) #[] #[pnt p],.func (.func 38) #[] #[pnt r,pnt q],.func (.func 41) #[] #[pnt r]] (bif c.rt then fX t b else 210):=by
 have h1:FnA w (.func (.func 36) #[] #[pnt p]) c.chk:=⟨_,[],[pnt p],rfl,ent36,λw1 hg hG=>Mq c hc_ p w1 hG (cJ hp hg)⟩;have h2:FnA w (.func (.func 38) #[] #[pnt r,pnt q]) (bif decide (b.hd.rt=t)then 0 else 230):=⟨_,[],[pnt r,pnt q],rfl,ent38,λw1 hg hG=>LX b hb t ht r q w1 hG (cJ hr hg) (cJ hq hg)⟩
 have h3:FnA w (.func (.func 41) #[] #[pnt r]) (bif vfy (b.nw.rt b.nw.ks.length) (cT b.br 5) 22#64 b.hd.b then 0 else 231):=⟨_,[],[pnt r],rfl,ent41,λw1 hg hG=>Ml b hb hks r w1 hG (cJ hr hg) (hrw.grow hg)⟩
 rcases Bool.eq_false_or_eq_true c.rt with hrt|hrt
 ·rw[show c.chk=0 from by rw[Cf.chk,hrt];rfl]at h1
  rw[hrt,cond_true];refine h1.ok ?_;by_cases e:b.hd.rt=t
  ·rw[decide_eq_true e]at h2
   refine h2.ok ?_;rcases Bool.eq_false_or_eq_true (vfy (b.nw.rt b.nw.ks.length) (cT b.br 5) 22#64 b.hd.b)with hv|hv
   ·rw[hv]at h3;rw[sJ (decide_eq_true e) hv];exact h3.ok O
   ·rw[hv]at h3;rw[wJ (decide_eq_true e) hv];exact h3.no aC
  ·rw[decide_eq_false e]at h2
   rw[vv (decide_eq_false e)];exact h2.no aC
 ·rw[show c.chk=210 from by rw[Cf.chk,hrt];rfl]at h1
  rw[hrt];exact h1.no aC
theorem Iq(c:Cf)(t:Rt)(b:Bo)(hc_:c.Ok)(ht:t.length=32)(hb:b.Ok)(hks:b.nw.ks.length<=1000)(w:World)(hw:Gt w)(hrw:RwsAt 48 w b.nw.ka b.nw.ks):CLS 14 [.agg c.cs.toArray,.agg (t.map U8).toArray,.agg b.cs.toArray].toArray w (λe w'=>e=.returned (I (bif c.rt then fX t b else 210))/\Grow w w'):=by
 refine Hf func14 O hw<|λhGF=>Xp<|Bx 3 hGF O<|λb3=>Bx 4 hGF O<|λb4=>Bx 5 hGF O<|λb5=>Asg O<|aa<|Xp<|dR O O O O<|Asg O<|aa<|Xp<|dR O O O O<|Asg O<|aa<|Xp<|dR O O O O<|Asg O<|aa<|Xp<|Mv O<|Mv O<|Mv O<|i3 16 [.func (.func 36) #[] #[pnt b3],.func (.func 38) #[] #[pnt b5,pnt b4],.func (.func 41) #[] #[pnt b5]] hGF O O O aC aC underlying142 sizeOf92 zeroValue92 O O O<|λb16=>Cc O ent44 (λw' hw' hG=>EX [.func (.func 36) #[] #[pnt b3],.func (.func 38) #[] #[pnt b5,pnt b4],.func (.func 41) #[] #[pnt b5]] (by show 3<=1000;decide) _ 3 (bif c.rt then fX t b else 210) w' hG (CellsAt.range (aw (n:=16) O w' hw')) (Dm hc_ ht hb hks (aw (n:=3) O w' hw') (aw (n:=4) O w' hw') (aw (n:=5) O w' hw') (hrw.grow (ae hw'))))<|Asg O<|aa<|ao<|Rr<|?_
 exact au O O (λw' hw'=>⟨rfl,ae hw'⟩)
end
section
open Go.RowKit
open Sh
theorem ent154:aL prog 154:=λ_ _=>kr
theorem ent129:aL prog 129:=λ_ _=>kr
def SlsAt(w:World)(a:Option Addr)(ls:List By):Prop:= ∀i x,ls[i]? =some x->∃ad p c,a=some ad/\w.cell? (ad.add i)=some (.slice p x.length c)/\BytesAt w p x/\x.length<=c
theorem SlsAt.grow{w w':World}{a:Option Addr}{ls:List By}(h:SlsAt w a ls)(hg:Grow w w'):SlsAt w' a ls:=λi x hx=>by
 obtain ⟨ad,p,c,e,h1,h2,h3⟩:=h i x hx;exact ⟨ad,p,c,e,(hg.cell (block_lt_of_cell h1)).trans h1,h2.grow hg,h3⟩
theorem vM{w:World}{b:Nat}{ls:List By}{vs:List Value}(h:w.rangeAt b 0 vs)(hv: ∀(i:Nat) (x:By),ls[i]? =some x->∃p c,vs[i]? =some (Value.slice p x.length c)/\BytesAt w p x/\x.length<=c):SlsAt w (spt b) ls:=λi x hx=>by
 obtain ⟨p,c,h1,h2,h3⟩:=hv i x hx;exact ⟨_,p,c,rfl,by rw[Addr.add_mid];exact h i _ h1,h2,h3⟩
theorem pck1(x:By)(h0:0<x.length)(h32:x.length<=32)(a:Option Addr)(cap:Nat)(hc:x.length<=cap)(w:World)(hw:Gt w)(hb:BytesAt w a x):CLS 151 [.slice a x.length cap].toArray w (λe w'=> ∃b c1,e=.returned (.slice (spt b) 1 c1)/\Grow w w'/\w.heap.size<=b/\w'.rangeAt b 0 ((ee x).map U8)):=
 (mW x a cap om hc w hw hb).mono λe w' ⟨v,h1,h2,a2,c2,h3,hs,hn⟩=>by
  have hk:cks x=1:=by unfold cks;omega
  rw[hk]at h3 hs;have hx:ck x 0=ee x:=by rw[ck,Nat.mul_zero,List.drop_zero,List.take_of_length_le h32]
  have e1:RW 32 (ck x) 1=ee x:=by rw[oG (ck x) 0 (jO x 0),hx];rfl
  unfold SlR at hs;rw[e1]at hs;obtain ⟨b,hb2,hr⟩:=hs.at (λh=>by have:=congrArg List.length h;rw[List.length_map,eT h32]at this;cases this)
  subst hb2;exact ⟨b,c2,by rw[h1,h3],h2,hn _ O,hr⟩
theorem Dy{w:World}{a:Option Addr}{cap:Nat}{l:List Rt}(hl:AllR l)(h:SlR w a cap l.length (λi=>l.getD i [])):RtsAt w a l:=by
 unfold SlR at h;rw[iA l hl]at h;rcases h with ⟨_,_,h3,_⟩|⟨b,c,rfl,ho,_,_,_,h4⟩
 ·obtain rfl:l=[]:=List.eq_nil_of_length_eq_zero h3
  exact si _ _
 ·exact ot hl ho.range (by rw[List.length_map,cR _ hl]at h4;exact h4)
theorem Ay: ∀(ls:List By),(∀x∈ls,x.length<=1000)->ls.flatten.length<=1000*ls.length
 |[],_=>Nat.le_refl _
 |x::l,h=>by
  rw[List.flatten_cons,List.length_append,List.length_cons];have:=h x List.mem_cons_self;have:=Ay l (λy hy=>h y (List.mem_cons_of_mem _ hy));omega
theorem Cy{ls:List By}{k:Nat}{x:By}(h:ls[k]? =some x):(ls.take (k+1)).flatten=(ls.take k).flatten++x:=by
 rw[List.take_add_one,h,List.flatten_append];simp
def pds(ls:List By):List Rt:=ls.map ee
theorem wy{ls:List By}(h: ∀x∈ls,0<x.length/\x.length<=32):AllR (pds ls):=λr hr=>by
 obtain ⟨x,hx,rfl⟩:=List.mem_map.1 hr;exact eT (h x hx).2
theorem sg(ls:List By):(pds ls).length=ls.length:=List.length_map ..
theorem yS{ls:List By}{k:Nat}{x:By}(h:ls[k]? =some x):(pds ls).getD k []=ee x:=by
 rw[List.getD_eq_getElem?_getD,pds,List.getElem?_map,h];rfl
theorem zvW(w:World):(zeroValue 210).run prog w=.ok (.agg ([.pointer none,I 0]:List Value).toArray) w:=zeroValue210 w
theorem q7(ls:List By)(hf: ∀x∈ls,0<x.length/\x.length<=32)(hn:ls.length<=1000)(a:Option Addr)(cap:Nat)(w:World)(hw:Gt w)(hs:SlsAt w a ls):CLS 154 [.slice a ls.length cap].toArray w (λe w'=>e=.returned (.agg ((Tor (pds ls)).map U8).toArray)/\Grow w w'):=by
 refine Hf func154 O hw<|λhGF=>ai (E:=EE [151])<|Al 2 hGF zv28<|λb2=>aa<|ai (E:=EE [151])<|Asg O<|aa<|ah<|?_;refine eP gt_low (λw3 hC g3=> ?_);have hO:=(hC.own 2 _ _ _ O).1;have h1w:w.heap.size<=b2:=(hC.own 2 _ _ _ O).2.elim id False.elim;have hg3:=ae hC;have hs3:=hs.grow hg3;clear hC;have hGF:=gt_low.plain g3;refine ai (E:=EE [151])<|Mv O<|bz O (λ_=>aO underlying207 _ _ _ _) O O<|Mv O<|aa<|ar<|jV gt_low (ι:={x:Nat×World×Option Addr×Nat // x.1<=ls.length/\ApR w3 x.2.1 x.2.2.1 x.2.2.2 x.1 (λi=>(pds ls).getD i [])/\OwnB x.2.1 b2 (Z0.map U8) 28}) (λx=>[(0,.slice a ls.length cap),(2,pnt b2),(3,.slice x.1.2.2.1 x.1.1 x.1.2.2.2),(8,.slice a ls.length cap),(9,I (ls.length:Int)),(10,I (x.1.1:Int))]) (λx=>x.1.2.1) (λx=>ls.length-x.1.1) ⟨(0,w3,none,0),Nat.zero_le _,⟨g3,Grow.refl w3,.inl ⟨rfl,rfl,rfl,rfl⟩,λ_ h=>by cases h⟩,hO⟩ (λx=>x.2.2.1.g) O trv<|?_
 have hO3:=hO.lt;clear hO;rintro ⟨⟨k,wk,ak,ck'⟩,hk,hA,hO⟩;dsimp only at hk hA hO⊢;have hGF:BOk Gt (pl wk):=gt_low.plain hA.g;refine ai (E:=EE [151]) ?_;rcases Nat.lt_or_ge k ls.length with hlt|hge
 ·obtain ⟨x,hx⟩: ∃x,ls[k]? =some x:=⟨_,List.getElem?_eq_getElem hlt⟩
  have hxm:=List.mem_of_getElem? hx;have hx0:=(hf x hxm).1;have hx32:=(hf x hxm).2;obtain ⟨ad,p,c,rfl,hcell,hxb,hxc⟩:=(hs3.grow hA.m) k x hx;refine Bnb true O O (λ_=>aF _ _ _) (by simp;omega)<|aa<|ah<|aU O<|ay<|ah<|ar<|ai (E:=EE [151])<|ip k O O underlying207 sizeOf123 O hlt O O<|aR (v:=.slice p x.length c) O isAgg123 (λw' h=>((ae h).cell (block_lt_of_cell hcell)).trans hcell) O O<|Asg O<|aa<|cq (E:=EE [151])<|Mv O<|Mv O<|?_
  refine e8 gt_low (M:=λ_=>False) (λk h=>h.elim) O O ent151 O O hGF (Q:=λw1 w2 v=> ∃b c1,v=.slice (spt b) 1 c1/\w1.heap.size<=b/\w2.rangeAt b 0 ((ee x).map U8)) (λw1 h1 g1=>(pck1 x hx0 hx32 p c hxc w1 g1 (hxb.grow h1)).mono λe w2 ⟨b,c1,h1,h2,h3,h4⟩=>⟨_,h1,aY h2,b,c1,rfl,h3,h4⟩) (λw5 w6 v hg5 hm6 g6 hq=> ?_);obtain ⟨b6,c6,rfl,hb6,hr6⟩:=hq;have hGF:BOk Gt (pl w6):=gt_low.plain g6;have hg6:=hm6.grow (λ_ _ h=>h);refine jK (ys:=(ee x).map U8) gt_low (λw' h=>hGF.g _ _ _ h) O O underlying86 underlying86 tiR (by simp[Value.cells]) (λw' h=>hA.s.grow ((hg5.trans hg6).trans (ae h))) (hA.low g3) (by rw[List.length_map];exact eT hx32) (λw' h j v hv=>((ae h).cell (block_lt_of_cell (hr6 j v hv))).trans (hr6 j v hv)) (be _) (λw' h hof=>absurd (hA.s.lt _ hof) (by have:=hg5.size;omega)) om om O O (λw7 w8 a1 cap1 hC g8 hm8 hs8 ho8=> ?_)
  rw[<-yS hx]at hs8;have hG7:=(hg5.trans hg6).trans (ae hC);have hA2:=hA.next (f:=(λi=>(pds ls).getD i [])) (by show ((pds ls).getD k []).length=32;rw[yS hx];exact eT hx32) hG7 g8 hm8 hs8 ho8
  have hO8:=hm8.own (hO.grow hG7) (λ⟨ad,e,h⟩=>by have:=hA.o ad e;omega)
  have hGF:BOk Gt (pl w8):=gt_low.plain g8;refine Asg O<|aa<|cq (E:=EE [151])<|Bnr (v:=I (((k+1:Nat):Int))) O O (λ_=>(av _ _ _ aG).trans aE)<|Mv O<|aa<|?_
  repeat (refine bh ?_)
  exact aW<|⟨rfl,⟨(k+1,w8,a1,cap1),hlt,hA2,hO8⟩,by show ls.length-(k+1)<ls.length-k;omega,rfl,trv⟩
 ·obtain rfl:k=ls.length:=om
  have hR:RtsAt wk ak (pds ls):=Dy (cap:=ck') (wy hf) (by rw[sg];exact hA.s)
  have hL:=wy hf;refine Bnb false O O (λ_=>aF _ _ _) (by rw[decide_eq_false_iff_not];omega)<|aa<|ah<|aI O<|bu<|ai (E:=EE [151])<|Mv O<|Mv O<|bz O (λ_=>aO underlying86 _ _ _ _) O O<|Cc O ent114 (λw' hw' hG=>wl (ls.length:Int) om (pds ls) hL ls.length (sg ls) om ak ck' (by rw[Int.toNat_natCast];omega) w' hG (hR.grow (ae hw')))<|?_
  rw[Int.toNat_natCast,show tre P2 Z0 (dep ls.length) (pds ls)=Tor (pds ls)from by rw[Tor,sg]]
  refine Mv O<|Exq O O<|Exq O O<|Al 6 hGF zv27<|λb6=>am 6 hGF O O O sizeOf27 (by rw[List.length_map];exact cC hL) (by rw[List.length_map];exact cI) (be _) O<|Asg O<|aa<|ai (E:=EE [151])<|aq 6 O O isAgg27 sizeOf27 (by rw[List.length_map];exact cC hL) O O<|?_
  refine fJ (vs:=(Tor (pds ls)).map U8) gt_low (λw' h=>hGF.g _ _ _ h) (λw' h=>hO.grow (ae h)) (Nat.le_trans (gt_low.size w hw) h1w) O O sizeOf28 (by rw[List.length_map];exact cC hL) (be _) (by rw[List.length_map,cC hL];decide) O (λw8a w8 hC8 g8 hm8 ho8=> ?_)
  rw[dp _ _ (by rw[List.length_map,cC hL];rfl)]at ho8
  have hW8:=hm8.grow0 (hg3.trans (hA.m.trans (ae hC8))) (λk hk=>hk▸h1w);have hGF:=gt_low.plain g8;clear hC8 hm8;refine aa<|ao<|Rr<|?_;exact d6 O O isAgg28 sizeOf28 (by rw[List.length_map];exact cC hL) (λw' h=>(ho8.grow (ae h)).range) (λw' hw'=>⟨rfl,hW8.trans (ae hw')⟩)
theorem qL(ls:List By)(hf: ∀x∈ls,x.length<=1000)(hn:ls.length<=1000)(a:Option Addr)(cap:Nat)(w:World)(hw:Gt w)(hs:SlsAt w a ls):CLS 129 [.slice a ls.length cap].toArray w (λe w'=> ∃v,e=.returned v/\Grow w w'/\Fr8 w w' v ls.flatten):=by
 refine Hf func129 O hw<|λhGF=>ai (E:=EE [156,157])<|Asg O<|aa<|ai (E:=EE [156,157])<|Al 3 hGF zvW<|λb3=>aa<|ah<|?_;refine eP gt_low (λw3 hC g3=> ?_);have hW:=(hC.own 3 _ _ _ O).1;have h1w:w.heap.size<=b3:=(hC.own 3 _ _ _ O).2.elim id False.elim;have hg3:=ae hC;clear hC;have hGF:=gt_low.plain g3;have hWr:WrAt (λ_=>False) w3 b3 []:=⟨[],none,hW,rfl,rfl,id⟩;refine ai (E:=EE [156,157])<|Mv O<|bz O (λ_=>aO underlying207 _ _ _ _) O O<|Mv O<|aa<|ar<|jV gt_low (ι:={x:Nat×World // x.1<=ls.length/\Gt x.2/\Grow w x.2/\∃S,WrAt S x.2 b3 (ls.take x.1).flatten}) (λx=>[(0,.slice a ls.length cap),(3,pnt b3),(6,.slice a ls.length cap),(7,I (ls.length:Int)),(8,I (x.1.1:Int))]) (λx=>x.1.2) (λx=>ls.length-x.1.1) ⟨(0,w3),Nat.zero_le _,g3,hg3,_,hWr⟩ (λx=>x.2.2.1) O trv<|?_;clear hWr hW;rintro ⟨⟨k,wk⟩,hk,gk,hgk,S,hWr⟩;dsimp only at hk gk hgk hWr⊢;have hGF:BOk Gt (pl wk):=gt_low.plain gk;refine ai (E:=EE [156,157]) ?_;rcases Nat.lt_or_ge k ls.length with hlt|hge
 ·obtain ⟨x,hx⟩: ∃x,ls[k]? =some x:=⟨_,List.getElem?_eq_getElem hlt⟩
  have hx10:=hf x (List.mem_of_getElem? hx);obtain ⟨ad,p,c,rfl,hcell,hxb,hxc⟩:=(hs.grow hgk) k x hx;have hkl:(ls.take k).flatten.length<=1000000:=by have:=Ay (ls.take k) (λy hy=>hf y (List.mem_of_mem_take hy));rw[List.length_take]at this;omega
  refine Bnb true O O (λ_=>aF _ _ _) (by simp;omega)<|aa<|ah<|aU O<|ay<|ah<|ar<|ai (E:=EE [156,157])<|ip k O O underlying207 sizeOf123 O hlt O O<|aR (v:=.slice p x.length c) O isAgg123 (λw' h=>((ae h).cell (block_lt_of_cell hcell)).trans hcell) O O<|Asg O<|aa<|cq (E:=EE [156,157])<|Mv O<|?_
  refine e8 gt_low (M:=λk=>k=b3) (λk h=>h▸Nat.le_trans (gt_low.size w hw) h1w) O O ent156 O O hGF (Q:=λw1 w2 v=>v=.tuple #[]/\∃S,WrAt S w2 b3 ((ls.take k).flatten++x)) (λw1 h1 g1=>(BG S b3 _ x p c hkl om w1 g1 (Nat.le_trans (gt_low.size w hw) h1w) (hWr.grow h1) (hxb.grow h1)).mono λe w4 ⟨h1,h2,h4⟩=>⟨_,h1,h2,rfl,_,h4⟩) (λw4 w5 v hg4 hm5 g5 hq=> ?_);obtain ⟨rfl,S2,hWr2⟩:=hq;rw[<-Cy hx]at hWr2;have hG5:=hm5.grow0 (hgk.trans hg4) (λk hk=>hk▸h1w);have hGF:=gt_low.plain g5;refine aa<|cq (E:=EE [156,157])<|Bnr (v:=I (((k+1:Nat):Int))) O O (λ_=>(av _ _ _ aG).trans aE)<|Mv O<|aa<|?_
  repeat (refine bh ?_)
  exact aW<|⟨rfl,⟨(k+1,w5),hlt,g5,hG5,S2,hWr2⟩,by show ls.length-(k+1)<ls.length-k;omega,rfl,trv⟩
 ·obtain rfl:k=ls.length:=om
  rw[List.take_length]at hWr;have hfl:=Ay ls hf;refine Bnb false O O (λ_=>aF _ _ _) (by rw[decide_eq_false_iff_not];omega)<|aa<|ah<|aI O<|bu<|ai (E:=EE [156,157])<|?_
  refine e8 gt_low (M:=λ_=>False) (λk h=>h.elim) O O ent157 O O hGF (Q:=λw1 w2 v=>Fr8 w1 w2 v ls.flatten) (λw1 h1 g1=>(xN S b3 ls.flatten om w1 g1 (hWr.grow h1)).mono λe w4 ⟨v,h1,h2,h3⟩=>⟨v,h1,aY h2,h3⟩) (λw6 w7 v hg6 hm7 g7 hq=> ?_);obtain ⟨a9,c9,rfl,hs9,hn9⟩:=hq;have hg7:=hm7.grow (λ_ _ h=>h);have hG7:=(hgk.trans hg6).trans hg7;have hGF:=gt_low.plain g7;refine Asg O<|aa<|ao<|Rr<|?_;exact au O O (λw' hw'=>⟨_,rfl,hG7.trans (ae hw'),a9,c9,rfl,hs9.grow (ae hw'),λad e=>by have:=hn9 ad e;have:=(hgk.trans hg6).size;omega⟩)
end
section
open Go.RowKit
open Sh
theorem ent155:aL prog 155:=λ_ _=>kr
theorem ent128:aL prog 128:=λ_ _=>kr
theorem ent127:aL prog 127:=λ_ _=>kr
theorem ent94:aL prog 94:=λ_ _=>kr
theorem zvS(w:World):(zeroValue 123).run prog w=.ok (.slice none 0 0) w:=(zeroValue123 w).trans aE
theorem rR{w:World}{b:Nat}{p1 p2:Option Addr}{n1 n2 c1 c2:Nat}{x y:By}(h:w.rangeAt b 0 [.slice p1 n1 c1,.slice p2 n2 c2])(e1:x.length=n1)(e2:y.length=n2)(l1:n1<=c1)(l2:n2<=c2)(h1:BytesAt w p1 x)(h2:BytesAt w p2 y):SlsAt w (spt b) [x,y]:=vM h λi z hz=>by
 obtain rfl|rfl:i=0\/i=1:=by have:=(List.getElem?_eq_some_iff.1 hz).1;simp at this;omega
 ·cases Option.some.inj (show some x=some z from hz);exact ⟨p1,c1,by rw[e1];rfl,h1,om⟩
 ·cases Option.some.inj (show some y=some z from hz);exact ⟨p2,c2,by rw[e2];rfl,h2,om⟩
theorem Dd{w:World}{b:Nat}{p1:Option Addr}{n1 c1:Nat}{x:By}(h:w.rangeAt b 0 [.slice p1 n1 c1])(e1:x.length=n1)(l1:n1<=c1)(h1:BytesAt w p1 x):SlsAt w (spt b) [x]:=vM h λi z hz=>by
 obtain rfl:i=0:=by have:=(List.getElem?_eq_some_iff.1 hz).1;simp at this;omega
 cases Option.some.inj (show some x=some z from hz);exact ⟨p1,c1,by rw[e1];rfl,h1,om⟩
theorem Mk(x y:By)(hy:y.length=32):Tor (pds [x,y])=P2 (ee x) y:=by
 rw[show pds [x,y]=[ee x,ee y]from O,Eb,show ee y=y from by rw[ee,hy];simp]
theorem wL{w w':World}{e:Ending}{xs:By}(n:Nat)(hn:xs.length=n)(h0:0<n)(h: ∃v,e=.returned v/\Grow w w'/\Fr8 w w' v xs):Ls w w' e xs n:=by
 subst hn;obtain ⟨_,rfl,hg,a,cap,rfl,hs,hn⟩:=h;rcases hs with ⟨_,h,_⟩|⟨b,c,rfl,ho,h1,h2,h3⟩
 ·have:=congrArg List.length h;rw[List.length_map]at this;simp at this;rw[this]at h0;cases h0
 ·rw[List.length_map]at h2 h3
  exact ⟨b,c,cap,rfl,hg,hn _ O,ho,h1,h2,h3⟩
theorem xD(v:By)(gn:Rt)(hv:v.length=4)(hg:gn.length=32)(w:World)(hw:Gt w):CLS 155 [.agg (v.map U8).toArray,.agg (gn.map U8).toArray].toArray w (λe w'=>e=.returned (.agg ((FRK v gn).map U8).toArray)/\Grow w w'):=by
 refine Hf func155 O hw<|λhGF=>Xp<|Bx 2 hGF O<|λb2=>Bx 3 hGF O<|λb3=>Al 4 hGF zv28<|λb4=>aa<|Xd []<|dY (n:=4) O underlying48 sizeOf5 aC O O<|dY (n:=32) O underlying28 sizeOf5 aC O O<|i3 7 [Value.slice (spt b2) 4 4,Value.slice (spt b3) 32 32] (z:=.slice none 0 0) hGF O O O aC aC underlying207 sizeOf123 zvS O O O<|λb7=>Cc O ent154 (λw' hw' hG=>q7 [v,gn] (λz hz=>(List.mem_cons.1 hz).elim (λe=>by rw[e,hv];decide) (λhz=>by rw[List.mem_singleton.1 hz,hg];decide)) (by show 2<=1000;decide) (spt b7) 2 w' hG (rR (aw (n:=7) O w' hw') hv hg (Nat.le_refl _) (Nat.le_refl _) (BytesAt.range (aw (n:=2) O w' hw')) (BytesAt.range (aw (n:=3) O w' hw'))))<|?_
 rw[Mk _ _ hg];refine am 4 hGF O O O sizeOf28 (by rw[List.length_map];exact cV _ _) (by rw[List.length_map];exact cI) (be _) O<|aa<|ao<|Rr<|?_
 exact az 4 O O O isAgg28 sizeOf28 (by rw[List.length_map];exact cV _ _) (λw' hw'=>⟨rfl,ae hw'⟩)
theorem xZ(x y:Rt)(hx:x.length=32)(hy:y.length=32)(w:World)(hw:Gt w):CLS 127 [.agg (x.map U8).toArray,.agg (y.map U8).toArray].toArray w (λe w'=>e=.returned (.agg ((P2 x y).map U8).toArray)/\Grow w w'):=by
 refine Hf func127 O hw<|λhGF=>Xp<|Bx 2 hGF O<|λb2=>Bx 3 hGF O<|λb3=>Al 4 hGF zv28<|λb4=>aa<|Xd []<|dY (n:=32) O underlying28 sizeOf5 aC O O<|dY (n:=32) O underlying27 sizeOf5 aC O O<|i3 7 [Value.slice (spt b2) 32 32,Value.slice (spt b3) 32 32] (z:=.slice none 0 0) hGF O O O aC aC underlying207 sizeOf123 zvS O O O<|λb7=>Cc O ent154 (λw' hw' hG=>q7 [x,y] (λz hz=>(List.mem_cons.1 hz).elim (λe=>by rw[e,hx];decide) (λhz=>by rw[List.mem_singleton.1 hz,hy];decide)) (by show 2<=1000;decide) (spt b7) 2 w' hG (rR (aw (n:=7) O w' hw') hx hy (Nat.le_refl _) (Nat.le_refl _) (BytesAt.range (aw (n:=2) O w' hw')) (BytesAt.range (aw (n:=3) O w' hw'))))<|?_
 rw[Mk _ _ hy];rw[show ee x=x from by rw[ee,hx];simp]
 refine am 4 hGF O O O sizeOf28 (by rw[List.length_map];exact cV _ _) (by rw[List.length_map];exact cI) (be _) O<|aa<|ao<|Rr<|?_
 exact az 4 O O O isAgg28 sizeOf28 (by rw[List.length_map];exact cV _ _) (λw' hw'=>⟨rfl,ae hw'⟩)
theorem qf{w:World}{b n:Nat}{cs vs:List Value}(h:w.rangeAt b 0 cs)(ht:cs.take n=vs):w.rangeAt b 0 vs:=λj v hv=>h j v (by
 rw[<-ht,List.getElem?_take]at hv;split at hv
 ·exact hv
 ·cases hv)
theorem ya(c:Cf)(hc:c.Ok)(w:World)(hw:Gt w):CLS 128 [.agg c.cs.toArray].toArray w (λe w'=>e=.returned (.agg ((DOM c).map U8).toArray)/\Grow w w'):=by
 refine Hf func128 O hw<|λhGF=>ai (E:=EE [129,1000123])<|Bx 1 hGF O<|λb1=>Al 2 hGF zv27<|λb2=>aa<|ai (E:=EE [129,1000123])<|Fa 32 O underlying50 O sizeOf48<|aJ (cs:=c.v.map U8) O isAgg48 sizeOf48 (by rw[List.length_map];exact hc.v) (λw' hw' j v hv=>by have:=(aw (n:=1) O w' hw') _ v (Cf.at_v hc j v hv);rwa [Nat.zero_add]at this) O O<|Fa 0 O underlying50 O sizeOf28<|aJ (cs:=c.g.map U8) O isAgg28 sizeOf28 (by rw[List.length_map];exact hc.g) (λw' hw' j v hv=>by have:=(aw (n:=1) O w' hw') _ v (Cf.at_g j v hv);rwa [Nat.zero_add]at this) O O<|Cc O ent155 (λw' hw' hG=>xD c.v c.g hc.v hc.g w' hG)<|?_
 obtain ⟨fx,hfx⟩: ∃x,FRK c.v c.g=x:=⟨_,rfl⟩;have fxl:fx.length=32:=by rw[<-hfx];exact xn _ _
 rw[hfx];refine Al 3 hGF zv28<|λb3=>am 3 hGF O O O sizeOf28 (by rw[List.length_map];exact fxl) O (be _) O<|aa<|ai (E:=EE [129,1000123])<|jv 9 [7#8,0#8,0#8,0#8] hGF O O O aC aC underlying123 sizeOf5 (λw=>zeroValue5 w) O O<|λb9=>Ab 9 O hGF O O underlying123 underlying5 O O<|cn (l:=0) (h':=28) O underlying28 sizeOf5 O O om om O O<|i3 12 [Value.slice (spt b9) 4 4,Value.slice (spt b3) 28 32] (z:=.slice none 0 0) hGF O O O aC aC underlying207 sizeOf123 zvS O O O<|?_
 intro b12;refine ce O O ent129 O O (λw' hw'=>(qL [[7#8,0#8,0#8,0#8],fx.take 28] (λz hz=>(List.mem_cons.1 hz).elim (λe=>by rw[e];decide) (λhz=>by rw[List.mem_singleton.1 hz,List.length_take];omega)) (by show 2<=1000;decide) (spt b12) 2 w' (hGF.g _ _ _ hw') (rR (aw (n:=12) O w' hw') O (by rw[List.length_take,fxl];rfl) (Nat.le_refl _) aC (BytesAt.range (aw (n:=9) O w' hw')) (pA (n:=3) O (by rw[List.length_take,fxl,List.map_take];rfl) w' hw'))).mono λe1 w2 h=> ?_)
 obtain ⟨b9,cs9,cap9,rfl,hg,hn9,ho9,hl9,hc9,ht9⟩:=wL 32 (by simp[fxl]) aC h
 rw[show ([[7#8,0#8,0#8,0#8],fx.take 28]:List By).flatten=[7#8,0#8,0#8,0#8]++fx.take 28 from by simp]at ht9
 refine ⟨_,_,rfl,aT hGF,hw'.news aH hg [(13,b9,cs9,5)] (FX hn9 ho9) cF, ?_⟩;clear hw' hg hn9 ho9 h;refine GG O underlying27 (Nat.le_refl _) O O<|aJ (cs:=([7#8,0#8,0#8,0#8]++fx.take 28).map U8) O isAgg27 sizeOf27 (by rw[List.length_map,List.length_append,List.length_take,fxl];rfl) (λw' hw'=>qf (aw (n:=13) O w' hw') ht9) O O<|am 2 hGF O O O sizeOf27 (by rw[List.length_map,List.length_append,List.length_take,fxl];rfl) (by rw[List.length_map];exact cI) (be _) O<|aa<|ao<|Rr<|?_
 exact az 2 O O O isAgg27 sizeOf27 (by rw[List.length_map,List.length_append,List.length_take,fxl];rfl) (λw' hw'=>⟨by rw[DOM,hfx],ae hw'⟩)
theorem yb(c:Cf)(h:Hd)(hc:c.Ok)(hk:h.Ok)(w:World)(hw:Gt w):CLS 94 [.agg c.cs.toArray,.agg h.cs.toArray].toArray w (λe w'=>Ls w w' e (MSG c h) 32):=by
 refine Hf func94 O hw<|λhGF=>ai (E:=EE [129,2999999])<|Bx 2 hGF O<|λb2=>Bx 3 hGF O<|λb3=>Asg O<|aa<|Xd [129,2999999]<|aq 3 O O isAgg30 sizeOf30 (Hd.len hk) O O<|Cc O ent40 (λw' hw' hG=>Ev h hk w' hG)<|?_;obtain ⟨hr,hhr⟩: ∃x,h.rt=x:=⟨_,rfl⟩;have hrl:hr.length=32:=by rw[<-hhr];exact Hd.rt_len hk
 rw[hhr];refine aq 2 O O isAgg50 sizeOf50 (Cf.len hc) O O<|Cc O ent128 (λw' hw' hG=>ya c hc w' hG)<|?_;obtain ⟨dx,hdx⟩: ∃x,DOM c=x:=⟨_,rfl⟩;have dxl:dx.length=32:=by rw[<-hdx];exact Dg _
 rw[hdx];refine Cc O ent127 (λw' hw' hG=>xZ hr dx hrl dxl w' hG) ?_;obtain ⟨sx,hsx⟩: ∃x,P2 hr dx=x:=⟨_,rfl⟩;have sxl:sx.length=32:=by rw[<-hsx];exact cV _ _
 rw[hsx];refine nd 5 hGF zv28 O O O<|λb5=>am 5 hGF O O O sizeOf28 (by rw[List.length_map];exact sxl) O (be _) O<|aa<|ai (E:=EE [129,2999999])<|dY (n:=32) O underlying28 sizeOf5 aC O O<|i3 12 [Value.slice (spt b5) 32 32] (z:=.slice none 0 0) hGF O O O aC aC underlying207 sizeOf123 zvS O O O<|?_
 intro b12;refine ce O O ent129 O O (λw' hw'=>(qL [sx] (λz hz=>by rw[List.mem_singleton.1 hz,sxl];decide) (by show 1<=1000;decide) (spt b12) 1 w' (hGF.g _ _ _ hw') (Dd (aw (n:=12) O w' hw') sxl (Nat.le_refl _) (BytesAt.range (aw (n:=5) O w' hw')))).mono λe1 w2 h=> ?_)
 obtain ⟨b9,cs9,cap9,rfl,hg,hn9,ho9,hl9,hc9,ht9⟩:=wL 32 (by simp[sxl]) aC h
 rw[show ([sx]:List By).flatten=sx from by simp]at ht9
 refine ⟨_,_,rfl,aT hGF,hw'.news aH hg [(13,b9,cs9,5)] (FX hn9 ho9) cF, ?_⟩;clear hw' hg hn9 ho9;refine Asg O<|aa<|ao<|Rr<|?_;exact au O O (λw' hw'=>⟨b9,cs9,cap9,rfl,ae hw',(hw'.own 13 _ _ _ O).2.elim id False.elim,(hw'.own 13 _ _ _ O).1,hl9,hc9,by rw[MSG,hhr,hdx,hsx];exact ht9⟩)
end
end Go.Proofs.YtfakhlafilbjkaaGreatDoor
