/-
  Headers, committees, aggregates, updates, bootstraps: as cells, as bytes; the document's parts.
-/
import Derived.Test.YtlaanjcnfindnaaTD
import Derived.Test.YtlaanjcnfindnaaX3
namespace Go.Proofs.Ytlaanjcnfindnaa
open Go.RowKit
set_option maxRecDepth 100000
set_option maxHeartbeats 1000000

abbrev By := List (BitVec 8)
structure Hd where
  (s p : BitVec 64) (a b c : By)
structure Hd.Ok (h : Hd) : Prop where
  a : h.a.length = 32
  b : h.b.length = 32
  c : h.c.length = 32
def Hd.cs (h : Hd) : List Value := U64 h.s :: U64 h.p :: (h.a.map U8 ++ (h.b.map U8 ++ h.c.map U8))
def Hd.by (h : Hd) : By := le8 h.s 8 ++ (le8 h.p 8 ++ (h.a ++ (h.b ++ h.c)))
theorem Hd.len {h : Hd} (k : h.Ok) : h.cs.length = 98 := by simp [Hd.cs, k.a, k.b, k.c]
theorem Hd.blen {h : Hd} (k : h.Ok) : h.by.length = 112 := by simp [Hd.by, k.a, k.b, k.c, le8_len]
/-- A part in the middle. -/
theorem mid_at {pre mid post : List Value} {o : Nat} (ho : pre.length = o) : ∀ j v, mid[j]? = some v → (pre ++ (mid ++ post))[o + j]? = some v := fun j v hv => by
  have hj := (List.getElem?_eq_some_iff.1 hv).1
  rw [List.getElem?_append_right (by omega), show o + j - pre.length = j from by omega, List.getElem?_append_left hj]
  exact hv
theorem end_at {pre mid : List Value} {o : Nat} (ho : pre.length = o) : ∀ j v, mid[j]? = some v → (pre ++ mid)[o + j]? = some v := fun j v hv => by
  rw [List.getElem?_append_right (by omega), show o + j - pre.length = j from by omega]
  exact hv
theorem at_trans {cs ds es : List Value} {o p : Nat} (h1 : ∀ j v, ds[j]? = some v → cs[o + j]? = some v) (h2 : ∀ j v, es[j]? = some v → ds[p + j]? = some v) : ∀ j v, es[j]? = some v → cs[(o + p) + j]? = some v := fun j v hv => by
  have := h1 _ v (h2 j v hv)
  rw [← Nat.add_assoc] at this
  exact this
theorem Hd.at_a {h : Hd} : ∀ j v, (h.a.map U8)[j]? = some v → h.cs[2 + j]? = some v := mid_at (pre := [U64 h.s, U64 h.p]) rfl
theorem Hd.at_b {h : Hd} (k : h.Ok) : ∀ j v, (h.b.map U8)[j]? = some v → h.cs[34 + j]? = some v := at_trans (o := 2) (p := 32) (end_at (pre := [U64 h.s, U64 h.p]) rfl) (mid_at (by rw [List.length_map, k.a]))
theorem Hd.at_c {h : Hd} (k : h.Ok) : ∀ j v, (h.c.map U8)[j]? = some v → h.cs[66 + j]? = some v := at_trans (o := 2) (p := 64) (end_at (pre := [U64 h.s, U64 h.p]) rfl) (at_trans (o := 32) (p := 32) (end_at (by rw [List.length_map, k.a])) (end_at (by rw [List.length_map, k.b])))
/-- Rows of so many bytes, wherever they lie. -/
def RwsAt (s : Nat) (w : World) (a : Option Addr) (l : List By) : Prop := ∀ i r, l[i]? = some r → ∃ ad, a = some ad ∧ ∀ j v, (r.map U8)[j]? = some v → w.cell? ((ad.add (i * s)).add j) = some v
theorem RwsAt.grow {s : Nat} {w w' : World} {a : Option Addr} {l : List By} (h : RwsAt s w a l) (hg : Grow w w') : RwsAt s w' a l := fun i r hr => by
  obtain ⟨ad, e, h1⟩ := h i r hr
  exact ⟨ad, e, fun j v hv => (hg.cell (block_lt_of_cell (h1 j v hv))).trans (h1 j v hv)⟩
theorem RwsAt.mm {s : Nat} {M : Nat → Prop} {w w' : World} {a : Option Addr} {l : List By} (h : RwsAt s w a l) (hm : MM M w w') (ha : l ≠ [] → ∀ k, Of a k → ¬ M k) : RwsAt s w' a l := fun i r hr => by
  obtain ⟨ad, e, h1⟩ := h i r hr
  refine ⟨ad, e, fun j v hv => ?_⟩
  have hc := h1 j v hv
  have hl := block_lt_of_cell hc
  have e2 : ((ad.add (i * s)).add j).block = ad.block := (block_add _ _).trans (block_add _ _)
  rw [World.cell?_of_block (w := w) (hm.keep _ hl (by rw [e2]; exact ha (fun h0 => by subst h0; simp at hr) _ ⟨ad, e, rfl⟩))]
  exact hc
theorem RwsAt.lt {s : Nat} {w : World} {a : Option Addr} {l : List By} (h : RwsAt s w a l) (hs : 0 < s) (hl : ∀ r ∈ l, r.length = s) (h0 : l ≠ []) : ∀ k, Of a k → k < w.heap.size := fun k ⟨ad, e, hk⟩ => by
  obtain ⟨x, r, rfl⟩ : ∃ x r, l = x :: r := by
    cases l with
    | nil => exact absurd rfl h0
    | cons x r => exact ⟨x, r, rfl⟩
  obtain ⟨ad', e', h1⟩ := h 0 x rfl
  have hx := hl x (List.mem_cons_self ..)
  have := block_lt_of_cell (h1 0 _ (by rw [List.getElem?_map, List.getElem?_eq_getElem (by omega)]; rfl))
  rw [e] at e'
  cases e'
  rw [(block_add _ _).trans (block_add _ _)] at this
  omega
theorem cells_mm {M : Nat → Prop} {w w' : World} {a : Option Addr} {xs : List Value} (h : CellsAt w a xs) (hm : MM M w w') (ha : xs ≠ [] → ∀ k, Of a k → ¬ M k) : CellsAt w' a xs := fun j v hv => by
  obtain ⟨ad, e, hc⟩ := h j v hv
  refine ⟨ad, e, ?_⟩
  rw [World.cell?_of_block (w := w) (hm.keep _ (block_lt_of_cell hc) (by rw [block_add]; exact ha (fun h0 => by subst h0; simp at hv) _ ⟨ad, e, rfl⟩))]
  exact hc
theorem cells_lt {w : World} {a : Option Addr} {xs : List Value} (h : CellsAt w a xs) (h0 : xs ≠ []) : ∀ k, Of a k → k < w.heap.size := fun k ⟨ad, e, hk⟩ => by
  obtain ⟨x, r, rfl⟩ : ∃ x r, xs = x :: r := by
    cases xs with
    | nil => exact absurd rfl h0
    | cons x r => exact ⟨x, r, rfl⟩
  obtain ⟨ad', e', hc⟩ := h 0 x rfl
  have := block_lt_of_cell hc
  rw [e] at e'
  cases e'
  rw [block_add] at this
  omega
structure Co where
  (ks : List By) (ka : Option Addr) (kc : Nat) (sum : By)
structure Co.Ok (c : Co) : Prop where
  ks : ∀ r ∈ c.ks, r.length = 48
  sum : c.sum.length = 48
  n : c.ks.length ≤ c.kc
def Co.cs (c : Co) : List Value := .slice c.ka c.ks.length c.kc :: c.sum.map U8
structure Ag where
  (bs : List Bool) (ba : Option Addr) (bc : Nat) (sig : By)
structure Ag.Ok (a : Ag) : Prop where
  sig : a.sig.length = 96
def Ag.cs (a : Ag) : List Value := .slice a.ba a.bs.length a.bc :: a.sig.map U8
structure Up where
  (at_ : Hd) (nx : Co) (br : By) (fi : Hd) (fy : By) (sy : Ag) (sl : BitVec 64)
structure Up.Ok (u : Up) : Prop where
  at_ : u.at_.Ok
  nx : u.nx.Ok
  br : u.br.length = 160
  fi : u.fi.Ok
  fy : u.fy.length = 192
  sy : u.sy.Ok
def Up.cs (u : Up) : List Value := u.at_.cs ++ (u.nx.cs ++ (u.br.map U8 ++ (u.fi.cs ++ (u.fy.map U8 ++ (u.sy.cs ++ [U64 u.sl])))))
structure Bo where
  (hd : Hd) (nw : Co) (br : By)
structure Bo.Ok (b : Bo) : Prop where
  hd : b.hd.Ok
  nw : b.nw.Ok
  br : b.br.length = 160
def Bo.cs (b : Bo) : List Value := b.hd.cs ++ (b.nw.cs ++ b.br.map U8)
theorem Co.len {c : Co} (k : c.Ok) : c.cs.length = 49 := by simp [Co.cs, k.sum]
theorem Ag.len {a : Ag} (k : a.Ok) : a.cs.length = 97 := by simp [Ag.cs, k.sig]
def Z48 : By := List.replicate 48 0#8
def keysB (ks : List By) (n : Nat) : By := ((List.range n).map fun i => ks.getD i Z48).flatten
theorem keysB_s (ks : List By) (n : Nat) : keysB ks (n + 1) = keysB ks n ++ ks.getD n Z48 := by simp [keysB, List.range_succ]
theorem key_len {ks : List By} (h : ∀ r ∈ ks, r.length = 48) (i : Nat) : (ks.getD i Z48).length = 48 := by
  rw [List.getD_eq_getElem?_getD]
  cases hr : ks[i]? with
  | none => rfl
  | some x => exact h x (List.mem_of_getElem? hr)
theorem keysB_len {ks : List By} (h : ∀ r ∈ ks, r.length = 48) : ∀ n, (keysB ks n).length = 48 * n
  | 0 => rfl
  | n + 1 => by rw [keysB_s, List.length_append, keysB_len h n, key_len h]; omega
def Co.by (c : Co) (n : Nat) : By := keysB c.ks n ++ c.sum
def Ag.by (a : Ag) : By := pb a.bs a.bs.length ++ a.sig
def Up.by (u : Up) : By := u.at_.by ++ (u.nx.by u.sy.bs.length ++ (u.br ++ (u.fi.by ++ (u.fy ++ (u.sy.by ++ le8 u.sl 8)))))
def Up.fin (u : Up) : By := u.at_.by ++ (u.fi.by ++ (u.fy ++ (u.sy.by ++ le8 u.sl 8)))
def Up.opt (u : Up) : By := u.at_.by ++ (u.sy.by ++ le8 u.sl 8)
def Bo.by (b : Bo) : By := b.hd.by ++ (b.nw.by b.nw.ks.length ++ b.br)
theorem Co.blen {c : Co} (k : c.Ok) (n : Nat) : (c.by n).length = 48 * n + 48 := by simp [Co.by, keysB_len k.ks, k.sum]
theorem Ag.blen {a : Ag} (k : a.Ok) : a.by.length = szB a.bs.length + 96 := by simp [Ag.by, pb_len, k.sig]
/-- Bytes that grow beside a thing. -/
structure En (w0 : World) (a0 : Option Addr) (t : TypeId) (b : Nat) (cs : List Value) (w : World) (a : Option Addr) (cap : Nat) (xs : By) : Prop where
  ap : Ap8 w0 a0 w a cap xs
  ob : OwnB w b cs t
  nb : ∀ k, Of a k → k ≠ b
theorem En.next {w0 w w1 w2 : World} {a0 a a1 : Option Addr} {t : TypeId} {b cap cap1 : Nat} {cs : List Value} {xs ys : By} (h : En w0 a0 t b cs w a cap xs) (hg : Grow w w1) (g2 : Gt w2) (hm : MM (Of a) w1 w2) (hs : SlV 5 w2 a1 cap1 (ys.map U8)) (ho : ∀ k, Of a1 k → Of a k ∨ w1.heap.size ≤ k) : En w0 a0 t b cs w2 a1 cap1 ys where
  ap := h.ap.next hg g2 hm hs ho
  ob := hm.own (h.ob.grow hg) (fun hk => h.nb _ hk rfl)
  nb := fun k hk => by
    rcases ho k hk with h1 | h1
    · exact h.nb k h1
    · have := (h.ob.grow hg).lt; omega
theorem En.call {w0 w w1 w2 : World} {a0 a a1 : Option Addr} {t : TypeId} {b cap cap1 : Nat} {cs : List Value} {xs ys : By} (h : En w0 a0 t b cs w a cap xs) (hg : Grow w w1) (hq : Ap8 w1 a w2 a1 cap1 ys) : En w0 a0 t b cs w2 a1 cap1 ys := h.next hg hq.g hq.m hq.s hq.o
end Go.Proofs.Ytlaanjcnfindnaa
