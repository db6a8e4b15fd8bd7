/-
  Headers, committees, aggregates, updates, bootstraps: as cells; their roots.
-/
import Derived.Test.YtdkkipjcmflclaaDoorWB
import Derived.Test.YtdkkipjcmflclaaDoorX3
namespace Go.Proofs.YtdkkipjcmflclaaDoor
open Go.RowKit
set_option maxRecDepth 100000
set_option maxHeartbeats 1000000
open Sh
abbrev By := List (BitVec 8)
structure Hd where
  (s p : BitVec 64) (a b c : By)
structure Hd.Ok (h : Hd) : Prop where
  a : h.a.length = 32
  b : h.b.length = 32
  c : h.c.length = 32
def Hd.cs (h : Hd) : List Value := U64 h.s :: U64 h.p :: (h.a.map U8 ++ (h.b.map U8 ++ h.c.map U8))
def Hd.by (h : Hd) : By := le8 h.s 8 ++ (le8 h.p 8 ++ (h.a ++ (h.b ++ h.c)))
theorem Hd.len {h : Hd} (k : h.Ok) : h.cs.length = 98 := by simp [Hd.cs, k.a, k.b, k.c]
/-- A part in the middle. -/
theorem mid_at {pre mid post : List Value} {o : Nat} (ho : pre.length = o) : ∀ j v, mid[j]? = some v → (pre ++ (mid ++ post))[o + j]? = some v := fun j v hv => by
  have hj := (List.getElem?_eq_some_iff.1 hv).1
  rw [List.getElem?_append_right (by omega), show o + j - pre.length = j from by omega, List.getElem?_append_left hj]
  exact hv
theorem end_at {pre mid : List Value} {o : Nat} (ho : pre.length = o) : ∀ j v, mid[j]? = some v → (pre ++ mid)[o + j]? = some v := fun j v hv => by
  rw [List.getElem?_append_right (by omega), show o + j - pre.length = j from by omega]
  exact hv
theorem at_trans {cs ds es : List Value} {o p : Nat} (h1 : ∀ j v, ds[j]? = some v → cs[o + j]? = some v) (h2 : ∀ j v, es[j]? = some v → ds[p + j]? = some v) : ∀ j v, es[j]? = some v → cs[(o + p) + j]? = some v := fun j v hv => by
  have := h1 _ v (h2 j v hv)
  rw [← Nat.add_assoc] at this
  exact this
theorem Hd.at_a {h : Hd} : ∀ j v, (h.a.map U8)[j]? = some v → h.cs[2 + j]? = some v := mid_at (pre := [U64 h.s, U64 h.p]) rfl
theorem Hd.at_b {h : Hd} (k : h.Ok) : ∀ j v, (h.b.map U8)[j]? = some v → h.cs[34 + j]? = some v := at_trans (o := 2) (p := 32) (end_at (pre := [U64 h.s, U64 h.p]) rfl) (mid_at (by rw [List.length_map, k.a]))
theorem Hd.at_c {h : Hd} (k : h.Ok) : ∀ j v, (h.c.map U8)[j]? = some v → h.cs[66 + j]? = some v := at_trans (o := 2) (p := 64) (end_at (pre := [U64 h.s, U64 h.p]) rfl) (at_trans (o := 32) (p := 32) (end_at (by rw [List.length_map, k.a])) (end_at (by rw [List.length_map, k.b])))
/-- Rows of so many bytes, wherever they lie. -/
def RwsAt (s : Nat) (w : World) (a : Option Addr) (l : List By) : Prop := ∀ i r, l[i]? = some r → ∃ ad, a = some ad ∧ ∀ j v, (r.map U8)[j]? = some v → w.cell? ((ad.add (i * s)).add j) = some v
theorem RwsAt.grow {s : Nat} {w w' : World} {a : Option Addr} {l : List By} (h : RwsAt s w a l) (hg : Grow w w') : RwsAt s w' a l := fun i r hr => by
  obtain ⟨ad, e, h1⟩ := h i r hr
  exact ⟨ad, e, fun j v hv => (hg.cell (block_lt_of_cell (h1 j v hv))).trans (h1 j v hv)⟩
theorem RwsAt.mm {s : Nat} {M : Nat → Prop} {w w' : World} {a : Option Addr} {l : List By} (h : RwsAt s w a l) (hm : MM M w w') (ha : l ≠ [] → ∀ k, Of a k → ¬ M k) : RwsAt s w' a l := fun i r hr => by
  obtain ⟨ad, e, h1⟩ := h i r hr
  refine ⟨ad, e, fun j v hv => ?_⟩
  have hc := h1 j v hv
  have hl := block_lt_of_cell hc
  have e2 : ((ad.add (i * s)).add j).block = ad.block := (block_add _ _).trans (block_add _ _)
  rw [World.cell?_of_block (w := w) (hm.keep _ hl (by rw [e2]; exact ha (fun h0 => by subst h0; simp at hr) _ ⟨ad, e, rfl⟩))]
  exact hc
theorem RwsAt.lt {s : Nat} {w : World} {a : Option Addr} {l : List By} (h : RwsAt s w a l) (hs : 0 < s) (hl : ∀ r ∈ l, r.length = s) (h0 : l ≠ []) : ∀ k, Of a k → k < w.heap.size := fun k ⟨ad, e, hk⟩ => by
  obtain ⟨x, r, rfl⟩ : ∃ x r, l = x :: r := by
    cases l with
    | nil => exact absurd rfl h0
    | cons x r => exact ⟨x, r, rfl⟩
  obtain ⟨ad', e', h1⟩ := h 0 x rfl
  have hx := hl x (List.mem_cons_self ..)
  have := block_lt_of_cell (h1 0 _ (by rw [List.getElem?_map, List.getElem?_eq_getElem (by omega)]; rfl))
  rw [e] at e'
  cases e'
  rw [(block_add _ _).trans (block_add _ _)] at this
  omega
structure Co where
  (ks : List By) (ka : Option Addr) (kc : Nat) (sum : By)
structure Co.Ok (c : Co) : Prop where
  ks : ∀ r ∈ c.ks, r.length = 48
  sum : c.sum.length = 48
  n : c.ks.length ≤ c.kc
def Co.cs (c : Co) : List Value := .slice c.ka c.ks.length c.kc :: c.sum.map U8
structure Ag where
  (bs : List Bool) (ba : Option Addr) (bc : Nat) (sig : By)
structure Ag.Ok (a : Ag) : Prop where
  sig : a.sig.length = 96
def Ag.cs (a : Ag) : List Value := .slice a.ba a.bs.length a.bc :: a.sig.map U8
structure Up where
  (at_ : Hd) (nx : Co) (br : By) (fi : Hd) (fy : By) (sy : Ag) (sl : BitVec 64)
structure Up.Ok (u : Up) : Prop where
  at_ : u.at_.Ok
  nx : u.nx.Ok
  br : u.br.length = 160
  fi : u.fi.Ok
  fy : u.fy.length = 192
  sy : u.sy.Ok
def Up.cs (u : Up) : List Value := u.at_.cs ++ (u.nx.cs ++ (u.br.map U8 ++ (u.fi.cs ++ (u.fy.map U8 ++ (u.sy.cs ++ [U64 u.sl])))))
structure Bo where
  (hd : Hd) (nw : Co) (br : By)
structure Bo.Ok (b : Bo) : Prop where
  hd : b.hd.Ok
  nw : b.nw.Ok
  br : b.br.length = 160
def Bo.cs (b : Bo) : List Value := b.hd.cs ++ (b.nw.cs ++ b.br.map U8)
theorem Co.len {c : Co} (k : c.Ok) : c.cs.length = 49 := by simp [Co.cs, k.sum]
theorem Ag.len {a : Ag} (k : a.Ok) : a.cs.length = 97 := by simp [Ag.cs, k.sig]
def Z48 : By := List.replicate 48 0#8
def keysB (ks : List By) (n : Nat) : By := ((List.range n).map fun i => ks.getD i Z48).flatten
def Co.by (c : Co) (n : Nat) : By := keysB c.ks n ++ c.sum
def Ag.by (a : Ag) : By := pb a.bs a.bs.length ++ a.sig
def Up.by (u : Up) : By := u.at_.by ++ (u.nx.by u.sy.bs.length ++ (u.br ++ (u.fi.by ++ (u.fy ++ (u.sy.by ++ le8 u.sl 8)))))
def Up.fin (u : Up) : By := u.at_.by ++ (u.fi.by ++ (u.fy ++ (u.sy.by ++ le8 u.sl 8)))
def Bo.by (b : Bo) : By := b.hd.by ++ (b.nw.by b.nw.ks.length ++ b.br)
theorem Up.l1 {u : Up} : ∀ j v, u.at_.cs[j]? = some v → u.cs[0 + j]? = some v := mid_at (pre := []) rfl
theorem Up.l2 {u : Up} (k : u.Ok) : ∀ j v, u.nx.cs[j]? = some v → u.cs[98 + j]? = some v := mid_at (Hd.len k.at_)
theorem Up.r2 {u : Up} (k : u.Ok) : ∀ j v, (u.br.map U8 ++ (u.fi.cs ++ (u.fy.map U8 ++ (u.sy.cs ++ [U64 u.sl]))))[j]? = some v → u.cs[147 + j]? = some v := at_trans (o := 98) (p := 49) (end_at (Hd.len k.at_)) (end_at (Co.len k.nx))
theorem Up.r3 {u : Up} (k : u.Ok) : ∀ j v, (u.fi.cs ++ (u.fy.map U8 ++ (u.sy.cs ++ [U64 u.sl])))[j]? = some v → u.cs[307 + j]? = some v := at_trans (o := 147) (p := 160) (Up.r2 k) (end_at (by rw [List.length_map, k.br]))
theorem Up.r4 {u : Up} (k : u.Ok) : ∀ j v, (u.fy.map U8 ++ (u.sy.cs ++ [U64 u.sl]))[j]? = some v → u.cs[405 + j]? = some v := at_trans (o := 307) (p := 98) (Up.r3 k) (end_at (Hd.len k.fi))
theorem Up.r5 {u : Up} (k : u.Ok) : ∀ j v, (u.sy.cs ++ [U64 u.sl])[j]? = some v → u.cs[597 + j]? = some v := at_trans (o := 405) (p := 192) (Up.r4 k) (end_at (by rw [List.length_map, k.fy]))
theorem Up.l7 {u : Up} (k : u.Ok) : ∀ j v, [U64 u.sl][j]? = some v → u.cs[694 + j]? = some v := at_trans (o := 597) (p := 97) (Up.r5 k) (end_at (Ag.len k.sy))
theorem Up.len {u : Up} (k : u.Ok) : u.cs.length = 695 := by simp [Up.cs, Hd.len k.at_, Co.len k.nx, k.br, Hd.len k.fi, k.fy, Ag.len k.sy]
theorem Bo.l1 {b : Bo} : ∀ j v, b.hd.cs[j]? = some v → b.cs[0 + j]? = some v := mid_at (pre := []) rfl
theorem Bo.l2 {b : Bo} (k : b.Ok) : ∀ j v, b.nw.cs[j]? = some v → b.cs[98 + j]? = some v := mid_at (Hd.len k.hd)
theorem Bo.len {b : Bo} (k : b.Ok) : b.cs.length = 307 := by simp [Bo.cs, Hd.len k.hd, Co.len k.nw, k.br]
/-- A number's chunk. -/
def nR (n : BitVec 64) : Rt := pad32 (le8 n 8)
theorem nR_len (n : BitVec 64) : (nR n).length = 32 := pad_len (by rw [le8_len]; decide)
def Hd.fs (h : Hd) : List Rt := [nR h.s, nR h.p, h.a, h.b, h.c]
theorem all1 {x : Rt} {l : List Rt} (hx : x.length = 32) (h : AllR l) : AllR (x :: l) := fun r hr => by
  rcases List.mem_cons.1 hr with rfl | hr
  · exact hx
  · exact h r hr
theorem all0 : AllR [] := fun _ h => by simp at h
theorem Hd.fs_all {h : Hd} (k : h.Ok) : AllR h.fs := all1 (nR_len _) (all1 (nR_len _) (all1 k.a (all1 k.b (all1 k.c all0))))
def Hd.rt (h : Hd) : Rt := Tor h.fs
theorem Hd.rt_len {h : Hd} (k : h.Ok) : h.rt.length = 32 := tor_len (Hd.fs_all k)
/-- The root of the first n keys (of noughts where there are none). -/
def krs (ks : List By) (n : Nat) : List Rt := (List.range n).map fun i => BR8 (ks.getD i Z48)
theorem krs_all (ks : List By) (n : Nat) : AllR (krs ks n) := fun r hr => by
  obtain ⟨i, _, rfl⟩ := List.mem_map.1 hr
  exact BR8_len _
def Co.rt (c : Co) (n : Nat) : Rt := Tor [Tor (krs c.ks n), BR8 c.sum]
theorem Co.fs_all (c : Co) (n : Nat) : AllR [Tor (krs c.ks n), BR8 c.sum] := all1 (tor_len (krs_all _ _)) (all1 (BR8_len _) all0)
theorem Co.rt_len (c : Co) (n : Nat) : (c.rt n).length = 32 := tor_len (Co.fs_all c n)
def Ag.rt (a : Ag) : Rt := Tor [BR8 (pb a.bs a.bs.length), BR8 a.sig]
theorem Ag.fs_all (a : Ag) : AllR [BR8 (pb a.bs a.bs.length), BR8 a.sig] := all1 (BR8_len _) (all1 (BR8_len _) all0)
theorem Ag.rt_len (a : Ag) : a.rt.length = 32 := tor_len (Ag.fs_all a)
/-- Bytes cut into n roots. -/
def cut32 (bs : By) (n : Nat) : List Rt := (List.range n).map fun i => (bs.drop (32 * i)).take 32
theorem cut32_all {bs : By} {n : Nat} (h : bs.length = 32 * n) : AllR (cut32 bs n) := fun r hr => by
  obtain ⟨i, hi, rfl⟩ := List.mem_map.1 hr
  have := List.mem_range.1 hi
  rw [List.length_take, List.length_drop]; omega
def Up.fs (u : Up) : List Rt := [u.at_.rt, u.nx.rt u.sy.bs.length, Tor (cut32 u.br 5), u.fi.rt, Tor (cut32 u.fy 6), u.sy.rt, nR u.sl]
def Bo.fs (b : Bo) : List Rt := [b.hd.rt, b.nw.rt b.nw.ks.length, Tor (cut32 b.br 5)]
theorem Up.fs_all {u : Up} (k : u.Ok) : AllR u.fs := all1 (Hd.rt_len k.at_) (all1 (Co.rt_len _ _) (all1 (tor_len (cut32_all k.br)) (all1 (Hd.rt_len k.fi) (all1 (tor_len (cut32_all k.fy)) (all1 (Ag.rt_len _) (all1 (nR_len _) all0))))))
theorem Bo.fs_all {b : Bo} (k : b.Ok) : AllR b.fs := all1 (Hd.rt_len k.hd) (all1 (Co.rt_len _ _) (all1 (tor_len (cut32_all k.br)) all0))
end Go.Proofs.YtdkkipjcmflclaaDoor
