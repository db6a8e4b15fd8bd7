/-
 The program's points.
 The program's points.
-/
import Derived.Test.YthkmeodnlidpfaaDoorXB
import Derived.Test.YthkmeodnlidpfaaDoorX5
import Derived.Test.YthkmeodnlidpfaaDoorX4
import Derived.Test.YthkmeodnlidpfaaDoorX3
set_option maxRecDepth 100000
set_option maxHeartbeats 1000000
namespace Go.Proofs.YthkmeodnlidpfaaDoor
section
open Go.RowKit
theorem ent19 : Enters Tryd.prog 19 := fun _ _ => by kernel_rfl
theorem ent21 : Enters Tryd.prog 21 := fun _ _ => by kernel_rfl
theorem ent36 : Enters Tryd.prog 36 := fun _ _ => by kernel_rfl
theorem ent10 : Enters Tryd.prog 10 := fun _ _ => by kernel_rfl
theorem ent13 : Enters Tryd.prog 13 := fun _ _ => by kernel_rfl
theorem ent20 : Enters Tryd.prog 20 := fun _ _ => by kernel_rfl
namespace J2
attribute [local simp] fe_len nm_len AS_len SS_len MONT_len RM_len FRs_len BYs_len by48_len PLl TWOl ONEl N1l IVPl HFPl RTPl FL_len SP_len fe2_len SP2_len FM_len
structure GP where
 J : W6
 P : Pt W2
 on : E2w.onP P
 jr : E2w.jr J P
def GL (p : GP) : List (BitVec 64) := ((fe p.J.1.1 ++ fe p.J.1.2) ++ ((fe p.J.2.1.1 ++ fe p.J.2.1.2) ++ (fe p.J.2.2.1 ++ fe p.J.2.2.2)))
theorem GL_len (p : GP) : (GL p).length = 36 := by simp [GL]
attribute [local simp] GL_len
abbrev PtV (p : GP) : Value := .agg ((GL p).map U64).toArray
theorem onP_some {p : W2 × W2} (h : E2w.on p) : E2w.onP (some p) := h
theorem zj39 (w : World) : (zeroValue 39).run Tryd.prog w = .ok (.agg (((fe 0 ++ fe 0) ++ ((fe 0 ++ fe 0) ++ (fe 0 ++ fe 0))).map U64).toArray) w := by rw [fe_0]; exact (Tryd.zeroValue39 w).trans (by rfl)
theorem e2subE (x y : W2) : Pure Tryd.prog Gt 22 [EV2 x, EV2 y] (EV2 (E2w.sub x y)) := by
 have h := e2sub x y
 rw [sb2_eq] at h
 exact h
def TO23 : Tb Tryd.prog Gt := TO22.add (wq2ag_q2ag_q2rd (g := E2w.sub) ent22 e2subE)
theorem jisInf (x : W6) : Pure Tryd.prog Gt 36 [EV6 x] (.bool (decide (x.2.2 = ze2))) := (pcast (l1 (V6 _)) rfl (pE TO23 Tryd.func36 [.inl [x.1.1, x.1.2, x.2.1.1, x.2.1.2, x.2.2.1, x.2.2.2]] (.inl (.inr (.inl (decide (x.2.2 = ze2))))) (.inl (.inr (.inl (decide ((x.2.2.1, x.2.2.2) = ze2)))), []) [] (by kernel_rfl) ok_nil rfl))
theorem wq6ag_rdB {f : Nat} {g : W6 → Bool} (en : Enters Tryd.prog f) (h : ∀ a, Pure Tryd.prog Gt f [EV6 a] (.bool (g a))) : Snd Tryd.prog Gt f (c1 q6.ag rdB g) := c1_ok q6.ag rdB en (fun a => pcast (l1 (V6 _).symm) rfl (h a))
def TO24 : Tb Tryd.prog Gt := TO23.add (wq6ag_rdB (g := fun x => decide (x.2.2 = ze2)) ent36 jisInf)
theorem jneg (x : W6) : Pure Tryd.prog Gt 13 [EV6 x] (EV6 (x.1, ng2 x.2.1, x.2.2)) := (pcast (l1 (V6 _)) (V6 _) (pE TO24 Tryd.func13 [.inl [x.1.1, x.1.2, x.2.1.1, x.2.1.2, x.2.2.1, x.2.2.2]] (.inl (.inl [(x.1, ng2 x.2.1, x.2.2).1.1, (x.1, ng2 x.2.1, x.2.2).1.2, (x.1, ng2 x.2.1, x.2.2).2.1.1, (x.1, ng2 x.2.1, x.2.2).2.1.2, (x.1, ng2 x.2.1, x.2.2).2.2.1, (x.1, ng2 x.2.1, x.2.2).2.2.2])) (let t0 := ng2 (x.2.1.1, x.2.1.2); (.inl (.inl [x.1.1, x.1.2, t0.1, t0.2, x.2.2.1, x.2.2.2]), [])) [] (by kernel_rfl) ok_nil rfl))
theorem wq6ag_q6rd {f : Nat} {g : W6 → W6} (en : Enters Tryd.prog f) (h : ∀ a, Pure Tryd.prog Gt f [EV6 a] (EV6 (g a))) : Snd Tryd.prog Gt f (c1 q6.ag q6.rd g) := c1_ok q6.ag q6.rd en (fun a => pcast (l1 (V6 _).symm) (V6 _).symm (h a))
def TO25 : Tb Tryd.prog Gt := TO24.add (wq6ag_q6rd (g := fun x => (x.1, ng2 x.2.1, x.2.2)) ent13 jneg)
theorem jxy_n (x : W6) (h : x.2.2 = ze2) : Pure Tryd.prog Gt 21 [EV6 x] (.tuple #[EV2 ze2, EV2 ze2, .bool false]) := (pcast (l1 (V6 _)) rfl (pE TO25 Tryd.func21 [.inl [x.1.1, x.1.2, x.2.1.1, x.2.1.2, x.2.2.1, x.2.2.2]] (.inr [.inl [ze2.1, ze2.2], .inl [ze2.1, ze2.2], .inr (.inl false)]) (.inr [.inl [0, 0], .inl [0, 0], .inr (.inl false)], [(decide (x.2.2 = ze2), true)]) [some true] (by kernel_rfl) (ok_cons (decide_eq_true h) ok_nil) rfl))
theorem jxy_s (x : W6) (h : ¬ x.2.2 = ze2) : Pure Tryd.prog Gt 21 [EV6 x] (.tuple #[EV2 (ml2 x.1 (ml2 (iv2 x.2.2) (iv2 x.2.2))), EV2 (ml2 x.2.1 (ml2 (ml2 (iv2 x.2.2) (iv2 x.2.2)) (iv2 x.2.2))), .bool true]) := (pcast (l1 (V6 _)) rfl (pE TO25 Tryd.func21 [.inl [x.1.1, x.1.2, x.2.1.1, x.2.1.2, x.2.2.1, x.2.2.2]] (.inr [.inl [(ml2 x.1 (ml2 (iv2 x.2.2) (iv2 x.2.2))).1, (ml2 x.1 (ml2 (iv2 x.2.2) (iv2 x.2.2))).2], .inl [(ml2 x.2.1 (ml2 (ml2 (iv2 x.2.2) (iv2 x.2.2)) (iv2 x.2.2))).1, (ml2 x.2.1 (ml2 (ml2 (iv2 x.2.2) (iv2 x.2.2)) (iv2 x.2.2))).2], .inr (.inl true)]) (let t0 := iv2 (x.2.2.1, x.2.2.2); let t1 := ml2 (t0.1, t0.2) (t0.1, t0.2); let t2 := ml2 (x.1.1, x.1.2) (t1.1, t1.2); let t3 := ml2 (t1.1, t1.2) (t0.1, t0.2); let t4 := ml2 (x.2.1.1, x.2.1.2) (t3.1, t3.2); (.inr [.inl [t2.1, t2.2], .inl [t4.1, t4.2], .inr (.inl true)], [(decide (x.2.2 = ze2), false)])) [some false] (by kernel_rfl) (ok_cons (decide_eq_false h) ok_nil) rfl))
theorem jfin (a b : W2) : Pure Tryd.prog Gt 20 [EV2 a, EV2 b] (EV6 (a, b, on2)) := (pcast rfl (V6 _) (pE TO25 Tryd.func20 [.inl [a.1, a.2], .inl [b.1, b.2]] (.inl (.inl [(a, b, on2).1.1, (a, b, on2).1.2, (a, b, on2).2.1.1, (a, b, on2).2.1.2, (a, b, on2).2.2.1, (a, b, on2).2.2.2])) (let t0 := on2; (.inl (.inl [a.1, a.2, b.1, b.2, t0.1, t0.2]), [])) [] (by kernel_rfl) ok_nil rfl))
theorem wq2ag_q2ag_q6rd {f : Nat} {g : W2 → W2 → W6} (en : Enters Tryd.prog f) (h : ∀ a b, Pure Tryd.prog Gt f [EV2 a, EV2 b] (EV6 (g a b))) : Snd Tryd.prog Gt f (c2 q2.ag q2.ag q6.rd g) := c2_ok q2.ag q2.ag q6.rd en (fun a b => pcast rfl (V6 _).symm (h a b))
def TO26 : Tb Tryd.prog Gt := TO25.add (wq2ag_q2ag_q6rd (g := fun a b => (a, b, on2)) ent20 jfin)
theorem bytes_pre {w : World} {b : Nat} {c : List Value} {xs : List (BitVec 8)} (h : w.rangeAt b 0 c) (ht : c.take xs.length = xs.map U8) : BytesAt w (some ⟨b, 0, none⟩) xs := by
 refine BytesAt.range fun j v hv => h j v ?_
 rw [← ht, List.getElem?_take] at hv
 split at hv
 ·exact hv
 ·cases hv
theorem jpart (s0 : ByteArray) (xs : List (BitVec 8)) (h0 : s0.data.toList = xs.map (fun x => UInt8.ofBitVec x)) : Pure Tryd.prog Gt 19 [.string s0] (EV (FV xs)) := by
 intro w hw
 have hGF : BOk Gt (pl w) := gt_low.plain hw
 refine calls_of_X (G := Gt) Tryd.func19 rfl rfl (Hp (pl w) []) (hp_refl (pl w) trivial rides_true) (good_hp hGF) ?_
 refine xs_plain (E := EE [1000071]) ?_
 refine lx_allocr 2 hGF zv35 rfl rfl ?_
 intro b2
 refine lx_nil ?_
 refine xs_plain (E := EE [1000071]) ?_
 refine lx_move rfl rfl rfl ?_
 refine lx_str 7 (xs := xs) rfl hGF rfl Tryd.underlying9 Tryd.underlying71 Tryd.underlying5 h0 rfl rfl (fun b7 c7 k7 e7 l7 t7 => ?_)
 refine lx_callC rfl rfl ent35 (fun w' hC hG => ffrom_calls _ _ xs w' hG (bytes_pre (hp_row (n := 7) rfl w' hC) t7)) rfl rfl ?_
 refine lx_move rfl rfl rfl ?_
 refine lx_ext rfl rfl rfl rfl ?_
 refine lx_ext rfl rfl rfl rfl ?_
 refine lx_allocr 3 hGF zv35 rfl rfl ?_
 intro b3
 refine lx_storea 3 hGF rfl rfl rfl Tryd.sizeOf35 (by simp) (by simp) (one_u64 _) rfl ?_
 refine lx_assign rfl rfl rfl ?_
 refine lx_nil ?_
 refine xs_plain (E := EE [1000071]) ?_
 refine lx_loada 3 rfl rfl Tryd.isAgg35 Tryd.sizeOf35 (by simp) rfl rfl ?_
 refine lx_storea 2 hGF rfl rfl rfl Tryd.sizeOf35 (by simp) (by simp) (one_u64 _) rfl ?_
 refine lx_nil ?_
 refine x_ret ?_
 repeat (first | refine kseq_ret ?_ | refine kblk_ret ?_)
 exact kret_own 2 rfl rfl rfl Tryd.isAgg35 Tryd.sizeOf35 (by simp) (fun w hw => ⟨rfl, hp_below hw⟩)
def GX0 : List (BitVec 8) := [2#8, 74#8, 162#8, 178#8, 240#8, 143#8, 10#8, 145#8, 38#8, 8#8, 5#8, 39#8, 45#8, 197#8, 16#8, 81#8, 198#8, 228#8, 122#8, 212#8, 250#8, 64#8, 59#8, 2#8, 180#8, 81#8, 11#8, 100#8, 122#8, 227#8, 209#8, 119#8, 11#8, 172#8, 3#8, 38#8, 168#8, 5#8, 187#8, 239#8, 212#8, 128#8, 86#8, 200#8, 193#8, 33#8, 189#8, 184#8]
theorem GX0_v : FV GX0 = G2p.1.1 := by rw [FV, if_pos ⟨rfl, by decide +kernel⟩]; decide +kernel
theorem GX0_e {a : Zp} (ha : G2p.1.1 = a) (s0 : ByteArray) (h0 : s0.data.toList = GX0.map (fun x => UInt8.ofBitVec x)) : Pure Tryd.prog Gt 19 [.string s0] (EV a) := by
 have h := jpart s0 GX0 h0
 rw [GX0_v, ha] at h
 exact h
def GX1 : List (BitVec 8) := [19#8, 224#8, 43#8, 96#8, 82#8, 113#8, 159#8, 96#8, 125#8, 172#8, 211#8, 160#8, 136#8, 39#8, 79#8, 101#8, 89#8, 107#8, 208#8, 208#8, 153#8, 32#8, 182#8, 26#8, 181#8, 218#8, 97#8, 187#8, 220#8, 127#8, 80#8, 73#8, 51#8, 76#8, 241#8, 18#8, 19#8, 148#8, 93#8, 87#8, 229#8, 172#8, 125#8, 5#8, 93#8, 4#8, 43#8, 126#8]
theorem GX1_v : FV GX1 = G2p.1.2 := by rw [FV, if_pos ⟨rfl, by decide +kernel⟩]; decide +kernel
theorem GX1_e {a : Zp} (ha : G2p.1.2 = a) (s0 : ByteArray) (h0 : s0.data.toList = GX1.map (fun x => UInt8.ofBitVec x)) : Pure Tryd.prog Gt 19 [.string s0] (EV a) := by
 have h := jpart s0 GX1 h0
 rw [GX1_v, ha] at h
 exact h
def GY0 : List (BitVec 8) := [12#8, 229#8, 213#8, 39#8, 114#8, 125#8, 110#8, 17#8, 140#8, 201#8, 205#8, 198#8, 218#8, 46#8, 53#8, 26#8, 173#8, 253#8, 155#8, 170#8, 140#8, 189#8, 211#8, 167#8, 109#8, 66#8, 154#8, 105#8, 81#8, 96#8, 209#8, 44#8, 146#8, 58#8, 201#8, 204#8, 59#8, 172#8, 162#8, 137#8, 225#8, 147#8, 84#8, 134#8, 8#8, 184#8, 40#8, 1#8]
theorem GY0_v : FV GY0 = G2p.2.1 := by rw [FV, if_pos ⟨rfl, by decide +kernel⟩]; decide +kernel
theorem GY0_e {a : Zp} (ha : G2p.2.1 = a) (s0 : ByteArray) (h0 : s0.data.toList = GY0.map (fun x => UInt8.ofBitVec x)) : Pure Tryd.prog Gt 19 [.string s0] (EV a) := by
 have h := jpart s0 GY0 h0
 rw [GY0_v, ha] at h
 exact h
def GY1 : List (BitVec 8) := [6#8, 6#8, 196#8, 160#8, 46#8, 167#8, 52#8, 204#8, 50#8, 172#8, 210#8, 176#8, 43#8, 194#8, 139#8, 153#8, 203#8, 62#8, 40#8, 126#8, 133#8, 167#8, 99#8, 175#8, 38#8, 116#8, 146#8, 171#8, 87#8, 46#8, 153#8, 171#8, 63#8, 55#8, 13#8, 39#8, 92#8, 236#8, 29#8, 161#8, 170#8, 169#8, 7#8, 95#8, 240#8, 95#8, 121#8, 190#8]
theorem GY1_v : FV GY1 = G2p.2.2 := by rw [FV, if_pos ⟨rfl, by decide +kernel⟩]; decide +kernel
theorem GY1_e {a : Zp} (ha : G2p.2.2 = a) (s0 : ByteArray) (h0 : s0.data.toList = GY1.map (fun x => UInt8.ofBitVec x)) : Pure Tryd.prog Gt 19 [.string s0] (EV a) := by
 have h := jpart s0 GY1 h0
 rw [GY1_v, ha] at h
 exact h
theorem jgenL {a b c d : Zp} (ha : G2p.1.1 = a) (hb : G2p.1.2 = b) (hc : G2p.2.1 = c) (hd : G2p.2.2 = d) : Pure Tryd.prog Gt 10 [] (EV6 ((a, b), (c, d), on2)) := by
 intro w hw
 have hGF : BOk Gt (pl w) := gt_low.plain hw
 refine calls_of_X (G := Gt) Tryd.func10 rfl rfl (Hp (pl w) []) (hp_refl (pl w) trivial rides_true) (good_hp hGF) ?_
 refine xs_plain (E := EE []) ?_
 refine lx_allocr 0 hGF zj39 rfl rfl ?_
 intro b0
 refine lx_nil ?_
 refine xs_plain (E := EE []) ?_
 refine lx_call rfl rfl ent19 (GX0_e ha _ rfl) rfl rfl ?_
 refine lx_call rfl rfl ent19 (GX1_e hb _ rfl) rfl rfl ?_
 refine lx_two two37 rfl rfl (by simp) (by simp) rfl rfl ?_
 refine lx_allocr 1 hGF zv37 rfl rfl ?_
 intro b1
 refine lx_storea 1 hGF rfl rfl rfl Tryd.sizeOf37 (by simp) (by simp) (one_u64 _) rfl ?_
 refine lx_nil ?_
 refine xs_plain (E := EE []) ?_
 refine lx_call rfl rfl ent19 (GY0_e hc _ rfl) rfl rfl ?_
 refine lx_call rfl rfl ent19 (GY1_e hd _ rfl) rfl rfl ?_
 refine lx_two two37 rfl rfl (by simp) (by simp) rfl rfl ?_
 refine lx_allocr 2 hGF zv37 rfl rfl ?_
 intro b2
 refine lx_storea 2 hGF rfl rfl rfl Tryd.sizeOf37 (by simp) (by simp) (one_u64 _) rfl ?_
 refine lx_nil ?_
 refine xs_plain (E := EE []) ?_
 refine lx_loada 1 rfl rfl Tryd.isAgg37 Tryd.sizeOf37 (by simp) rfl rfl ?_
 refine lx_loada 2 rfl rfl Tryd.isAgg37 Tryd.sizeOf37 (by simp) rfl rfl ?_
 refine lx_call rfl rfl ent20 (jfin (a, b) (c, d)) rfl rfl ?_
 refine lx_storea 0 hGF rfl rfl rfl Tryd.sizeOf39 (by simp) (by simp) (one_u64 _) rfl ?_
 refine lx_nil ?_
 refine x_ret ?_
 repeat (first | refine kseq_ret ?_ | refine kblk_ret ?_)
 exact kret_own 0 rfl rfl rfl Tryd.isAgg39 Tryd.sizeOf39 (by simp) (fun w hw => ⟨rfl, hp_below hw⟩)
theorem jgen : Pure Tryd.prog Gt 10 [] (EV6 (G2p.1, G2p.2, on2)) := jgenL rfl rfl rfl rfl
end J2
end
section
open Go.RowKit
namespace J2
attribute [local simp] fe_len nm_len AS_len SS_len MONT_len RM_len FRs_len BYs_len by48_len PLl TWOl ONEl N1l IVPl HFPl RTPl FL_len SP_len fe2_len SP2_len FM_len
attribute [local simp] GL_len
def gInf : GP := ⟨(ze2, ze2, ze2), none, True.intro, rfl⟩
def gGen : GP := ⟨(G2p.1, G2p.2, on2), some G2p, onP_some G2_on, g2_jr⟩
def gNeg (p : GP) : GP := ⟨(p.J.1, ng2 p.J.2.1, p.J.2.2), E2w.ne p.P, E2w.ne_on p.on, E2w.jr_n p.jr⟩
theorem zv39 (w : World) : (zeroValue 39).run Tryd.prog w = .ok (PtV gInf) w := zj39 w
theorem gen_p  : Pure Tryd.prog Gt 10 [] (PtV gGen) := jgen
theorem neg_p (p : GP) : Pure Tryd.prog Gt 13 [PtV p] (PtV (gNeg p)) := jneg p.J
end J2
end
end Go.Proofs.YthkmeodnlidpfaaDoor
