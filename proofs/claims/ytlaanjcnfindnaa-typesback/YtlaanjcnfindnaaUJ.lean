/-
  Lists of fields by their groups: sizes, bytes, values.
-/
import Derived.Test.YtlaanjcnfindnaaUI
import Derived.Test.YtlaanjcnfindnaaVK
namespace Go.Proofs.Ytlaanjcnfindnaa
open Go.RowKit
set_option maxRecDepth 100000
set_option maxHeartbeats 1000000

/-! ### What is written -/
def DatL (b : Nat) : List Sp → List By → World → Prop
  | [], [], _ => True
  | s :: sp, y :: B, w => s.Dat b y w ∧ DatL b sp B w
  | _, _, _ => False
theorem DatL.len {b : Nat} {w : World} : ∀ {sp : List Sp} {B : List By}, DatL b sp B w → sp.length = B.length
  | [], [], _ => rfl
  | _ :: _, _ :: _, h => congrArg (· + 1) (DatL.len h.2)
theorem DatL.app {b : Nat} {w : World} {sp2 : List Sp} {B2 : List By} (h2 : DatL b sp2 B2 w) : ∀ {sp : List Sp} {B : List By}, DatL b sp B w → DatL b (sp ++ sp2) (B ++ B2) w
  | [], [], _ => h2
  | _ :: _, _ :: _, h => ⟨h.1, DatL.app h2 h.2⟩
theorem DatL.get {b : Nat} {w : World} : ∀ {sp : List Sp} {B : List By}, DatL b sp B w → ∀ (i : Nat) (s : Sp) (y : By), sp[i]? = some s → B[i]? = some y → s.Dat b y w
  | [], [], _, i, s, y, h1, _ => by simp at h1
  | _ :: _, _ :: _, h, 0, s, y, h1, h2 => by
    obtain rfl : _ = s := by simpa using h1
    obtain rfl : _ = y := by simpa using h2
    exact h.1
  | _ :: _, _ :: _, h, i + 1, s, y, h1, h2 => DatL.get h.2 i s y (by simpa using h1) (by simpa using h2)
theorem rg_part {w : World} {b o p : Nat} {cs ds : List Value} (h : w.rangeAt b o cs) (hp : ∀ j v, ds[j]? = some v → cs[p + j]? = some v) : w.rangeAt b (o + p) ds := fun j v hv => by
  have := h _ v (hp j v hv)
  rw [← Nat.add_assoc] at this
  exact this
theorem rg_by {w : World} {b o : Nat} {ys : By} (h : w.rangeAt b o (ys.map U8)) : BytesAt w (some ⟨b, o, none⟩) ys := bytes_cells (CellsAt.range h)
def hdB (h : Hd) : List By := [le8 h.s 8, le8 h.p 8, h.a, h.b, h.c]
theorem hdB_fl (h : Hd) : (hdB h).flatten = h.by := by simp [hdB, Hd.by]
theorem D_hd {w : World} {b o : Nat} {h : Hd} (hk : h.Ok) (hr : w.rangeAt b o h.cs) : DatL b (hdS o) (hdB h) w :=
  ⟨⟨h.s, hr 0 _ rfl, rfl⟩, ⟨h.p, hr 1 _ rfl, rfl⟩, ⟨rg_by (rg_part hr Hd.at_a), hk.a, (show 32 ≤ 1000 by decide)⟩, ⟨rg_by (rg_part hr (Hd.at_b hk)), hk.b, (show 32 ≤ 1000 by decide)⟩, ⟨rg_by (rg_part hr (Hd.at_c hk)), hk.c, (show 32 ≤ 1000 by decide)⟩, trivial⟩
def coB (c : Co) (n : Nat) : List By := [keysB c.ks n, c.sum]
theorem D_co {w : World} {b o n : Nat} {c : Co} (hk : c.Ok) (hn : n ≤ 1000) (hr : w.rangeAt b o c.cs) (hks : RwsAt 48 w c.ka c.ks) : DatL b (coS o n) (coB c n) w :=
  ⟨⟨c.ks, c.ka, c.kc, hr 0 _ rfl, hk.n, hks, hk.ks, rfl, hn⟩, ⟨rg_by (rg_part hr Co.at_sum), hk.sum, (show 48 ≤ 1000 by decide)⟩, trivial⟩
def agB (a : Ag) : List By := [pb a.bs a.bs.length, a.sig]
theorem D_ag {w : World} {b o n : Nat} {a : Ag} (hk : a.Ok) (hn : a.bs.length ≤ 1000) (hr : w.rangeAt b o a.cs) (hb : CellsAt w a.ba (a.bs.map .bool)) : DatL b (agS o n) (agB a) w :=
  ⟨⟨a.bs, a.ba, a.bc, hr 0 _ rfl, hb, rfl, hn⟩, ⟨rg_by (rg_part hr Ag.at_sig), hk.sig, (show 96 ≤ 1000 by decide)⟩, trivial⟩
def chk (l : By) (m : Nat) : List By := (List.range m).map fun i => sub l (32 * i) 32
theorem chk_s (l : By) (m : Nat) : chk l (m + 1) = chk l m ++ [sub l (32 * m) 32] := by simp [chk, List.range_succ]
theorem chk_fl (l : By) : ∀ m, (chk l m).flatten = l.take (32 * m)
  | 0 => by simp [chk]
  | m + 1 => by rw [chk_s, List.flatten_append, chk_fl l m, ← take_more32]; simp [sub]
theorem D_br {w : World} {b o : Nat} {l : By} (hr : w.rangeAt b o (l.map U8)) : ∀ m, 32 * m ≤ l.length → DatL b (brS o m) (chk l m) w
  | 0, _ => trivial
  | m + 1, h => by
    rw [brS_s, chk_s]
    refine DatL.app (sp2 := [⟨1, o + 32 * m, 32⟩]) (B2 := [sub l (32 * m) 32]) ⟨⟨rg_by (rg_part hr fun j v hv => ?_), sub_len (by omega), (show 32 ≤ 1000 by decide)⟩, trivial⟩ (D_br hr m (by omega))
    have := piece_at (cs := l.map U8) (o := 0) (l := l) (fun j v hv => by rw [Nat.zero_add]; exact hv) (32 * m) 32 j v hv
    rw [Nat.zero_add] at this
    exact this
theorem D_nu {w : World} {b o : Nat} {x : BitVec 64} (hr : w.cell? ⟨b, o, none⟩ = some (U64 x)) : DatL b [⟨0, o, 0⟩] [le8 x 8] w := ⟨⟨x, hr, rfl⟩, trivial⟩
/-! ### Sizes -/
theorem off_app (s1 s2 : List Sp) : off (s1 ++ s2) (s1 ++ s2).length = off s1 s1.length + off s2 s2.length := by
  rw [off, off, off, List.take_length, List.take_length, List.take_length, List.map_append, List.sum_append]
theorem off_hd (o : Nat) : off (hdS o) (hdS o).length = 112 := rfl
theorem off_co (o n : Nat) : off (coS o n) (coS o n).length = 48 * n + 48 := by
  show n * 48 + (48 + 0) = _
  omega
theorem off_ag (o n : Nat) : off (agS o n) (agS o n).length = szB n + 96 := rfl
theorem off_br5 (o : Nat) : off (brS o 5) (brS o 5).length = 160 := rfl
theorem off_br6 (o : Nat) : off (brS o 6) (brS o 6).length = 192 := rfl
theorem off_up (n : Nat) : off (upS n) (upS n).length = sz2 n := by
  rw [upS, off_app, off_app, off_app, off_app, off_app, off_app, off_hd, off_co, off_br5, off_hd, off_br6, off_ag]
  show _ + (_ + (_ + (_ + (_ + (_ + 8))))) = _
  unfold sz2; omega
theorem off_fi (n : Nat) : off (fiS n) (fiS n).length = sz3 n := by
  rw [fiS, off_app, off_app, off_app, off_app, off_hd, off_hd, off_br6, off_ag]
  show _ + (_ + (_ + (_ + 8))) = _
  unfold sz3; omega
theorem off_op (n : Nat) : off (opS n) (opS n).length = sz4 n := by
  rw [opS, off_app, off_app, off_hd, off_ag]
  show _ + (_ + 8) = _
  unfold sz4; omega
theorem off_bo (n : Nat) : off (boS n) (boS n).length = sz1 n := by
  rw [boS, off_app, off_app, off_hd, off_co, off_br5]
  unfold sz1; omega
/-! ### Places -/
def Fit (C : Nat) (sp : List Sp) : Prop := ∀ s ∈ sp, s.o + s.l ≤ C ∧ s.n ≤ 1000
theorem Fit.app {C : Nat} {s1 s2 : List Sp} (h1 : Fit C s1) (h2 : Fit C s2) : Fit C (s1 ++ s2) := fun s hs => (List.mem_append.1 hs).elim (h1 s) (h2 s)
theorem F_hd {C o : Nat} (h : o + 98 ≤ C) : Fit C (hdS o) := fun s hs => by
  simp only [hdS, List.mem_cons, List.not_mem_nil, or_false] at hs
  rcases hs with rfl | rfl | rfl | rfl | rfl <;> (simp [Sp.l]; omega)
theorem F_co {C o n : Nat} (h : o + 49 ≤ C) (hn : n ≤ 1000) : Fit C (coS o n) := fun s hs => by
  simp only [coS, List.mem_cons, List.not_mem_nil, or_false] at hs
  rcases hs with rfl | rfl <;> (simp [Sp.l]; omega)
theorem F_ag {C o n : Nat} (h : o + 97 ≤ C) (hn : n ≤ 1000) : Fit C (agS o n) := fun s hs => by
  simp only [agS, List.mem_cons, List.not_mem_nil, or_false] at hs
  rcases hs with rfl | rfl <;> (simp [Sp.l]; omega)
theorem F_br {C o m : Nat} (h : o + 32 * m ≤ C) : Fit C (brS o m) := fun s hs => by
  obtain ⟨i, hi, rfl⟩ := List.mem_map.1 hs
  have := List.mem_range.1 hi
  simp [Sp.l]; omega
theorem F_nu {C o : Nat} (h : o + 1 ≤ C) : Fit C [⟨0, o, 0⟩] := fun s hs => by
  obtain rfl := List.mem_singleton.1 hs
  simp [Sp.l]; omega
/-! ### What is read -/
theorem lays_app : ∀ (l m : List (Sp × List Value)) (c : List Value), lays (l ++ m) c = lays m (lays l c)
  | [], _, _ => rfl
  | p :: l, m, c => lays_app l m (lay p.1.o p.2 c)
theorem off_left {s1 s2 : List Sp} {j : Nat} (h : j ≤ s1.length) : off (s1 ++ s2) j = off s1 j := by rw [off, off, List.take_append_of_le_length h]
theorem off_right (s1 s2 : List Sp) (j : Nat) : off (s1 ++ s2) (s1.length + j) = off s1 s1.length + off s2 j := by
  rw [off, off, off, List.take_append, List.take_of_length_le (Nat.le_add_right _ _), Nat.add_sub_cancel_left, List.map_append, List.sum_append, List.take_length]
/-- Values of two lists behind one another. -/
theorem seg {s1 s2 : List Sp} {bs : By} {K k K' z0 : Nat} {w : World} {VS : List (List Value)} (hV : VS.length = (s1 ++ s2).length) (h : Vals (s1 ++ s2) (bs.drop K) z0 w VS) (hk : off s1 s1.length = k) (hK : K + k = K') :
    ∃ V1 V2, V1.length = s1.length ∧ V2.length = s2.length ∧ Vals s1 (bs.drop K) z0 w V1 ∧ Vals s2 (bs.drop K') z0 w V2 ∧ ∀ C, lays ((s1 ++ s2).zip VS) C = lays (s2.zip V2) (lays (s1.zip V1) C) := by
  rw [List.length_append] at hV
  have h1 : (VS.take s1.length).length = s1.length := by rw [List.length_take]; omega
  refine ⟨VS.take s1.length, VS.drop s1.length, h1, by rw [List.length_drop]; omega, fun j s v hs hv => ?_, fun j s v hs hv => ?_, fun C => ?_⟩
  · have hj : j < s1.length := (List.getElem?_eq_some_iff.1 hs).1
    have := h j s v (by rw [List.getElem?_append_left hj]; exact hs) (by rw [List.getElem?_take, if_pos hj] at hv; exact hv)
    rw [off_left (Nat.le_of_lt hj)] at this
    exact this
  · have := h (s1.length + j) s v (by rw [List.getElem?_append_right (Nat.le_add_right _ _), Nat.add_sub_cancel_left]; exact hs) (by rw [List.getElem?_drop] at hv; exact hv)
    rw [off_right, hk, List.drop_drop, ← Nat.add_assoc, hK, ← List.drop_drop] at this
    exact this
  · conv => lhs; rw [← List.take_append_drop s1.length VS, List.zip_append h1.symm, lays_app]
theorem lay_to {o o' : Nat} {u v c : List Value} (h : o + u.length = o') : lay o' v (lay o u c) = lay o (u ++ v) c := by rw [← h]; exact lay_app u v o c
theorem two {V : List (List Value)} (h : V.length = 2) : ∃ a b, V = [a, b] := by
  match V, h with
  | [a, b], _ => exact ⟨a, b, rfl⟩
theorem five_ {V : List (List Value)} (h : V.length = 5) : ∃ a b c d e, V = [a, b, c, d, e] := by
  match V, h with
  | [a, b, c, d, e], _ => exact ⟨a, b, c, d, e, rfl⟩
theorem V_hd {o z0 : Nat} {bs : By} {w : World} {V : List (List Value)} (hl : 112 ≤ bs.length) (hV : V.length = (hdS o).length) (h : Vals (hdS o) bs z0 w V) (C : List Value) : lays ((hdS o).zip V) C = lay o (hdOf bs).cs C := by
  obtain ⟨a, b, c, d, e, rfl⟩ := five_ hV
  have h0 : a = [U64 (pn (sub bs 0 8) 8)] := (h 0 _ _ rfl rfl).2
  have h1 : b = [U64 (pn (sub bs 8 8) 8)] := (h 1 _ _ rfl rfl).2
  have h2 : c = (sub bs 16 32).map U8 := (h 2 _ _ rfl rfl).2
  have h3 : d = (sub bs 48 32).map U8 := (h 3 _ _ rfl rfl).2
  have h4 : e = (sub bs 80 32).map U8 := (h 4 _ _ rfl rfl).2
  have l2 : c.length = 32 := by rw [h2, List.length_map, sub_len (by omega)]
  have l3 : d.length = 32 := by rw [h3, List.length_map, sub_len (by omega)]
  show lay (o + 66) e (lay (o + 34) d (lay (o + 2) c (lay (o + 1) b (lay o a C)))) = _
  rw [lay_to (o' := o + 66) (by rw [l3]), lay_to (o' := o + 34) (by rw [l2]), lay_to (o' := o + 2) (by rw [h1]; rfl), lay_to (o' := o + 1) (by rw [h0]; rfl)]
  subst h0 h1 h2 h3 h4
  rfl
theorem V_co {o n z0 : Nat} {bs : By} {w : World} {V : List (List Value)} (hV : V.length = (coS o n).length) (h : Vals (coS o n) bs z0 w V) : ∃ ka kc, (∀ C, lays ((coS o n).zip V) C = lay o (.slice ka n kc :: (sub bs (48 * n) 48).map U8) C) ∧ SlW 29 48 w ka kc n ((keysOf bs n).flatten.map U8) ∧ ∀ k, Of ka k → z0 ≤ k := by
  obtain ⟨a, b, rfl⟩ := two hV
  obtain ⟨ka, kc, h0, h2, h3⟩ := (h 0 _ _ rfl rfl).2
  have h1 : b = (sub bs (n * 48 + 0) 48).map U8 := (h 1 _ _ rfl rfl).2
  refine ⟨ka, kc, fun C => ?_, h2, h3⟩
  show lay (o + 1) b (lay o a C) = _
  rw [lay_to (o' := o + 1) (by rw [h0]; rfl), h0, h1, show n * 48 + 0 = 48 * n by omega]
  rfl
theorem V_ag {o n z0 : Nat} {bs : By} {w : World} {V : List (List Value)} (hV : V.length = (agS o n).length) (h : Vals (agS o n) bs z0 w V) : ∃ ba bc, (∀ C, lays ((agS o n).zip V) C = lay o (.slice ba (bt (bs.take (szB n)) n).length bc :: (sub bs (szB n) 96).map U8) C) ∧ SlV 4 w ba bc ((bt (bs.take (szB n)) n).map .bool) ∧ ∀ ad, ba = some ad → z0 ≤ ad.block := by
  obtain ⟨a, b, rfl⟩ := two hV
  obtain ⟨ba, bc, h0, h2, h3⟩ := (h 0 _ _ rfl rfl).2
  have h1 : b = (sub bs (szB n + 0) 96).map U8 := (h 1 _ _ rfl rfl).2
  refine ⟨ba, bc, fun C => ?_, h2, h3⟩
  show lay (o + 1) b (lay o a C) = _
  rw [lay_to (o' := o + 1) (by rw [h0]; rfl), h0, h1]
  rfl
theorem V_nu {o z0 : Nat} {bs : By} {w : World} {V : List (List Value)} (hV : V.length = 1) (h : Vals [⟨0, o, 0⟩] bs z0 w V) (C : List Value) : lays (([⟨0, o, 0⟩] : List Sp).zip V) C = C.set o (U64 (pn (bs.take 8) 8)) := by
  match V, hV with
  | [a], _ =>
    have h0 : a = [U64 (pn (bs.take 8) 8)] := (h 0 _ _ rfl rfl).2
    subst h0
    rfl
theorem brS_len (o m : Nat) : (brS o m).length = m := by simp [brS]
theorem off_br (o : Nat) : ∀ m, off (brS o m) m = 32 * m
  | 0 => rfl
  | m + 1 => by
    rw [brS_s]
    have := off_right (brS o m) [⟨1, o + 32 * m, 32⟩] 1
    rw [brS_len, off_br o m] at this
    rw [this]
    show 32 * m + 32 = _
    omega
theorem V_br {o z0 : Nat} {bs : By} {w : World} : ∀ (m : Nat) {V : List (List Value)} (_ : 32 * m ≤ bs.length) (_ : V.length = (brS o m).length) (_ : Vals (brS o m) bs z0 w V) (C : List Value), lays ((brS o m).zip V) C = lay o ((sub bs 0 (32 * m)).map U8) C
  | 0, V, _, hV, _, C => by
    obtain rfl : V = [] := List.eq_nil_of_length_eq_zero hV
    rfl
  | m + 1, V, hl, hV, h, C => by
    rw [brS_s] at hV h ⊢
    obtain ⟨V1, V2, e1, e2, e3, e4, e5⟩ := seg (K := 0) hV h rfl rfl
    rw [Nat.zero_add, brS_len, off_br] at e4
    rw [List.drop_zero] at e3
    match V2, e2 with
    | [v], _ =>
      have h0 : v = (sub bs (32 * m) 32).map U8 := (e4 0 _ _ rfl rfl).2
      rw [e5, V_br m (by omega) e1 e3]
      show lay (o + 32 * m) v _ = _
      rw [lay_to (by rw [List.length_map, sub_len (by omega)]), h0, ← List.map_append, Nat.mul_succ, sub_add, Nat.zero_add]
theorem UC_0 {p0 p1 p2 p3 p4 p5 p6 q : List Value} (h : UL p0 p1 p2 p3 p4 p5 p6) (hq : q.length = 98) : lay 0 q (UC p0 p1 p2 p3 p4 p5 p6) = UC q p1 p2 p3 p4 p5 p6 := lay_mV (pre := []) rfl (by rw [hq, h.l0])
theorem UC_2q {p0 p1 p2 p3 p4 p5 p6 q : List Value} (h : UL p0 p1 p2 p3 p4 p5 p6) (hq : q.length = 160) : lay 147 q (UC p0 p1 p2 p3 p4 p5 p6) = UC p0 p1 q p3 p4 p5 p6 := by
  have := lay_mV (pre := p0 ++ p1) (old := p2) (post := p3 ++ (p4 ++ (p5 ++ p6))) (vs := q) (o := 147) (by simp [h.l0, h.l1]) (by rw [hq, h.l2])
  simpa [UC, List.append_assoc] using this
theorem UC_4q {p0 p1 p2 p3 p4 p5 p6 q : List Value} (h : UL p0 p1 p2 p3 p4 p5 p6) (hq : q.length = 192) : lay 405 q (UC p0 p1 p2 p3 p4 p5 p6) = UC p0 p1 p2 p3 q p5 p6 := by
  have := lay_mV (pre := p0 ++ (p1 ++ (p2 ++ p3))) (old := p4) (post := p5 ++ p6) (vs := q) (o := 405) (by simp [h.l0, h.l1, h.l2, h.l3]) (by rw [hq, h.l4])
  simpa [UC, List.append_assoc] using this
end Go.Proofs.Ytlaanjcnfindnaa
