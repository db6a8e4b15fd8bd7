/-
  Headers, committees, aggregates, updates, bootstraps: as cells, as bytes; the document's parts.
-/
import Derived.Test.YtlaanjcnfindnaaTD
import Derived.Test.YtlaanjcnfindnaaX3
namespace Go.Proofs.Ytlaanjcnfindnaa
open Go.RowKit
set_option maxRecDepth 100000
set_option maxHeartbeats 1000000

theorem ent36 : Enters Try.prog 36 := fun _ _ => by kernel_rfl
theorem ent35 : Enters Try.prog 35 := fun _ _ => by kernel_rfl
theorem ent38 : Enters Try.prog 38 := fun _ _ => by kernel_rfl
theorem ent13 : Enters Try.prog 13 := fun _ _ => by kernel_rfl
theorem ent15 : Enters Try.prog 15 := fun _ _ => by kernel_rfl
theorem ent17 : Enters Try.prog 17 := fun _ _ => by kernel_rfl
theorem ent19 : Enters Try.prog 19 := fun _ _ => by kernel_rfl
abbrev By := List (BitVec 8)
structure Hd where
  (s p : BitVec 64) (a b c : By)
structure Hd.Ok (h : Hd) : Prop where
  a : h.a.length = 32
  b : h.b.length = 32
  c : h.c.length = 32
def Hd.cs (h : Hd) : List Value := U64 h.s :: U64 h.p :: (h.a.map U8 ++ (h.b.map U8 ++ h.c.map U8))
def Hd.by (h : Hd) : By := le8 h.s 8 ++ (le8 h.p 8 ++ (h.a ++ (h.b ++ h.c)))
theorem Hd.len {h : Hd} (k : h.Ok) : h.cs.length = 98 := by simp [Hd.cs, k.a, k.b, k.c]
theorem Hd.blen {h : Hd} (k : h.Ok) : h.by.length = 112 := by simp [Hd.by, k.a, k.b, k.c, le8_len]
/-- A part in the middle. -/
theorem mid_at {pre mid post : List Value} {o : Nat} (ho : pre.length = o) : ∀ j v, mid[j]? = some v → (pre ++ (mid ++ post))[o + j]? = some v := fun j v hv => by
  have hj := (List.getElem?_eq_some_iff.1 hv).1
  rw [List.getElem?_append_right (by omega), show o + j - pre.length = j from by omega, List.getElem?_append_left hj]
  exact hv
theorem end_at {pre mid : List Value} {o : Nat} (ho : pre.length = o) : ∀ j v, mid[j]? = some v → (pre ++ mid)[o + j]? = some v := fun j v hv => by
  rw [List.getElem?_append_right (by omega), show o + j - pre.length = j from by omega]
  exact hv
theorem at_trans {cs ds es : List Value} {o p : Nat} (h1 : ∀ j v, ds[j]? = some v → cs[o + j]? = some v) (h2 : ∀ j v, es[j]? = some v → ds[p + j]? = some v) : ∀ j v, es[j]? = some v → cs[(o + p) + j]? = some v := fun j v hv => by
  have := h1 _ v (h2 j v hv)
  rw [← Nat.add_assoc] at this
  exact this
theorem Hd.at_a {h : Hd} : ∀ j v, (h.a.map U8)[j]? = some v → h.cs[2 + j]? = some v := mid_at (pre := [U64 h.s, U64 h.p]) rfl
theorem Hd.at_b {h : Hd} (k : h.Ok) : ∀ j v, (h.b.map U8)[j]? = some v → h.cs[34 + j]? = some v := at_trans (o := 2) (p := 32) (end_at (pre := [U64 h.s, U64 h.p]) rfl) (mid_at (by rw [List.length_map, k.a]))
theorem Hd.at_c {h : Hd} (k : h.Ok) : ∀ j v, (h.c.map U8)[j]? = some v → h.cs[66 + j]? = some v := at_trans (o := 2) (p := 64) (end_at (pre := [U64 h.s, U64 h.p]) rfl) (at_trans (o := 32) (p := 32) (end_at (by rw [List.length_map, k.a])) (end_at (by rw [List.length_map, k.b])))
theorem own_by {w : World} {b o : Nat} {cs : List Value} {t : TypeId} {ys : By} (h : OwnB w b cs t) (hc : ∀ j v, (ys.map U8)[j]? = some v → cs[o + j]? = some v) : BytesAt w (some ⟨b, o, none⟩) ys := fun j v hv => ⟨_, rfl, by rw [Addr.add_mid]; exact (h.cell (o + j)).trans (hc j v hv)⟩
theorem own_rg {w : World} {b o : Nat} {cs ds : List Value} {t : TypeId} (h : OwnB w b cs t) (hc : ∀ j v, ds[j]? = some v → cs[o + j]? = some v) : w.rangeAt b o ds := fun j v hv => (h.cell (o + j)).trans (hc j v hv)
/-- Rows of so many bytes, wherever they lie. -/
def RwsAt (s : Nat) (w : World) (a : Option Addr) (l : List By) : Prop := ∀ i r, l[i]? = some r → ∃ ad, a = some ad ∧ ∀ j v, (r.map U8)[j]? = some v → w.cell? ((ad.add (i * s)).add j) = some v
theorem RwsAt.grow {s : Nat} {w w' : World} {a : Option Addr} {l : List By} (h : RwsAt s w a l) (hg : Grow w w') : RwsAt s w' a l := fun i r hr => by
  obtain ⟨ad, e, h1⟩ := h i r hr
  exact ⟨ad, e, fun j v hv => (hg.cell (block_lt_of_cell (h1 j v hv))).trans (h1 j v hv)⟩
theorem RwsAt.mm {s : Nat} {M : Nat → Prop} {w w' : World} {a : Option Addr} {l : List By} (h : RwsAt s w a l) (hm : MM M w w') (ha : l ≠ [] → ∀ k, Of a k → ¬ M k) : RwsAt s w' a l := fun i r hr => by
  obtain ⟨ad, e, h1⟩ := h i r hr
  refine ⟨ad, e, fun j v hv => ?_⟩
  have hc := h1 j v hv
  have hl := block_lt_of_cell hc
  have e2 : ((ad.add (i * s)).add j).block = ad.block := (block_add _ _).trans (block_add _ _)
  rw [World.cell?_of_block (w := w) (hm.keep _ hl (by rw [e2]; exact ha (fun h0 => by subst h0; simp at hr) _ ⟨ad, e, rfl⟩))]
  exact hc
theorem RwsAt.lt {s : Nat} {w : World} {a : Option Addr} {l : List By} (h : RwsAt s w a l) (hs : 0 < s) (hl : ∀ r ∈ l, r.length = s) (h0 : l ≠ []) : ∀ k, Of a k → k < w.heap.size := fun k ⟨ad, e, hk⟩ => by
  obtain ⟨x, r, rfl⟩ : ∃ x r, l = x :: r := by
    cases l with
    | nil => exact absurd rfl h0
    | cons x r => exact ⟨x, r, rfl⟩
  obtain ⟨ad', e', h1⟩ := h 0 x rfl
  have hx := hl x (List.mem_cons_self ..)
  have := block_lt_of_cell (h1 0 _ (by rw [List.getElem?_map, List.getElem?_eq_getElem (by omega)]; rfl))
  rw [e] at e'
  cases e'
  rw [(block_add _ _).trans (block_add _ _)] at this
  omega
theorem cells_mm {M : Nat → Prop} {w w' : World} {a : Option Addr} {xs : List Value} (h : CellsAt w a xs) (hm : MM M w w') (ha : xs ≠ [] → ∀ k, Of a k → ¬ M k) : CellsAt w' a xs := fun j v hv => by
  obtain ⟨ad, e, hc⟩ := h j v hv
  refine ⟨ad, e, ?_⟩
  rw [World.cell?_of_block (w := w) (hm.keep _ (block_lt_of_cell hc) (by rw [block_add]; exact ha (fun h0 => by subst h0; simp at hv) _ ⟨ad, e, rfl⟩))]
  exact hc
theorem cells_lt {w : World} {a : Option Addr} {xs : List Value} (h : CellsAt w a xs) (h0 : xs ≠ []) : ∀ k, Of a k → k < w.heap.size := fun k ⟨ad, e, hk⟩ => by
  obtain ⟨x, r, rfl⟩ : ∃ x r, xs = x :: r := by
    cases xs with
    | nil => exact absurd rfl h0
    | cons x r => exact ⟨x, r, rfl⟩
  obtain ⟨ad', e', hc⟩ := h 0 x rfl
  have := block_lt_of_cell hc
  rw [e] at e'
  cases e'
  rw [block_add] at this
  omega
structure Co where
  (ks : List By) (ka : Option Addr) (kc : Nat) (sum : By)
structure Co.Ok (c : Co) : Prop where
  ks : ∀ r ∈ c.ks, r.length = 48
  sum : c.sum.length = 48
  n : c.ks.length ≤ c.kc
def Co.cs (c : Co) : List Value := .slice c.ka c.ks.length c.kc :: c.sum.map U8
structure Ag where
  (bs : List Bool) (ba : Option Addr) (bc : Nat) (sig : By)
structure Ag.Ok (a : Ag) : Prop where
  sig : a.sig.length = 96
def Ag.cs (a : Ag) : List Value := .slice a.ba a.bs.length a.bc :: a.sig.map U8
structure Up where
  (at_ : Hd) (nx : Co) (br : By) (fi : Hd) (fy : By) (sy : Ag) (sl : BitVec 64)
structure Up.Ok (u : Up) : Prop where
  at_ : u.at_.Ok
  nx : u.nx.Ok
  br : u.br.length = 160
  fi : u.fi.Ok
  fy : u.fy.length = 192
  sy : u.sy.Ok
def Up.cs (u : Up) : List Value := u.at_.cs ++ (u.nx.cs ++ (u.br.map U8 ++ (u.fi.cs ++ (u.fy.map U8 ++ (u.sy.cs ++ [U64 u.sl])))))
structure Bo where
  (hd : Hd) (nw : Co) (br : By)
structure Bo.Ok (b : Bo) : Prop where
  hd : b.hd.Ok
  nw : b.nw.Ok
  br : b.br.length = 160
def Bo.cs (b : Bo) : List Value := b.hd.cs ++ (b.nw.cs ++ b.br.map U8)
theorem Co.len {c : Co} (k : c.Ok) : c.cs.length = 49 := by simp [Co.cs, k.sum]
theorem Ag.len {a : Ag} (k : a.Ok) : a.cs.length = 97 := by simp [Ag.cs, k.sig]
def Z48 : By := List.replicate 48 0#8
def keysB (ks : List By) (n : Nat) : By := ((List.range n).map fun i => ks.getD i Z48).flatten
theorem keysB_s (ks : List By) (n : Nat) : keysB ks (n + 1) = keysB ks n ++ ks.getD n Z48 := by simp [keysB, List.range_succ]
theorem key_len {ks : List By} (h : ∀ r ∈ ks, r.length = 48) (i : Nat) : (ks.getD i Z48).length = 48 := by
  rw [List.getD_eq_getElem?_getD]
  cases hr : ks[i]? with
  | none => rfl
  | some x => exact h x (List.mem_of_getElem? hr)
theorem keysB_len {ks : List By} (h : ∀ r ∈ ks, r.length = 48) : ∀ n, (keysB ks n).length = 48 * n
  | 0 => rfl
  | n + 1 => by rw [keysB_s, List.length_append, keysB_len h n, key_len h]; omega
def Co.by (c : Co) (n : Nat) : By := keysB c.ks n ++ c.sum
def Ag.by (a : Ag) : By := pb a.bs a.bs.length ++ a.sig
def Up.by (u : Up) : By := u.at_.by ++ (u.nx.by u.sy.bs.length ++ (u.br ++ (u.fi.by ++ (u.fy ++ (u.sy.by ++ le8 u.sl 8)))))
def Up.fin (u : Up) : By := u.at_.by ++ (u.fi.by ++ (u.fy ++ (u.sy.by ++ le8 u.sl 8)))
def Up.opt (u : Up) : By := u.at_.by ++ (u.sy.by ++ le8 u.sl 8)
def Bo.by (b : Bo) : By := b.hd.by ++ (b.nw.by b.nw.ks.length ++ b.br)
theorem Co.blen {c : Co} (k : c.Ok) (n : Nat) : (c.by n).length = 48 * n + 48 := by simp [Co.by, keysB_len k.ks, k.sum]
theorem Ag.blen {a : Ag} (k : a.Ok) : a.by.length = szB a.bs.length + 96 := by simp [Ag.by, pb_len, k.sig]
/-- Bytes that grow beside a thing. -/
structure En (w0 : World) (a0 : Option Addr) (t : TypeId) (b : Nat) (cs : List Value) (w : World) (a : Option Addr) (cap : Nat) (xs : By) : Prop where
  ap : Ap8 w0 a0 w a cap xs
  ob : OwnB w b cs t
  nb : ∀ k, Of a k → k ≠ b
theorem En.next {w0 w w1 w2 : World} {a0 a a1 : Option Addr} {t : TypeId} {b cap cap1 : Nat} {cs : List Value} {xs ys : By} (h : En w0 a0 t b cs w a cap xs) (hg : Grow w w1) (g2 : Gt w2) (hm : MM (Of a) w1 w2) (hs : SlV 5 w2 a1 cap1 (ys.map U8)) (ho : ∀ k, Of a1 k → Of a k ∨ w1.heap.size ≤ k) : En w0 a0 t b cs w2 a1 cap1 ys where
  ap := h.ap.next hg g2 hm hs ho
  ob := hm.own (h.ob.grow hg) (fun hk => h.nb _ hk rfl)
  nb := fun k hk => by
    rcases ho k hk with h1 | h1
    · exact h.nb k h1
    · have := (h.ob.grow hg).lt; omega
theorem En.call {w0 w w1 w2 : World} {a0 a a1 : Option Addr} {t : TypeId} {b cap cap1 : Nat} {cs : List Value} {xs ys : By} (h : En w0 a0 t b cs w a cap xs) (hg : Grow w w1) (hq : Ap8 w1 a w2 a1 cap1 ys) : En w0 a0 t b cs w2 a1 cap1 ys := h.next hg hq.g hq.m hq.s hq.o
theorem En.start {w w3 : World} {a : Option Addr} {n b cap : Nat} {t : TypeId} {cs : List Value} {xs : By} {L : Hl} (hs : SlV 5 w a cap (xs.map U8)) (hC : Hp (pl w) L w3) (hl : lkB L n = some (b, cs, t)) (g3 : Gt w3) : En w a t b cs w3 a cap xs where
  ap := ⟨g3, grow_mm (hp_below hC), hs.grow (hp_below hC), fun _ h => .inl h⟩
  ob := (hC.own n _ _ _ hl).1
  nb := fun k hk => by
    obtain ⟨ad, e, e2⟩ := hk
    have h1 := hs.lt ad e
    have h2 : w.heap.size ≤ b := (hC.own n _ _ _ hl).2.elim id False.elim
    omega
theorem slv_nil (w : World) : SlV 5 w none 0 (([] : By).map U8) := .inl ⟨rfl, rfl, rfl⟩
theorem hdr_calls (h : Hd) (hk : h.Ok) (xs : By) (a : Option Addr) (cap : Nat) (hl : xs.length ≤ 900000) (w : World) (hw : Gt w) (hs : SlV 5 w a cap (xs.map U8)) : Calls Try.prog 36 [.slice a xs.length cap, .agg h.cs.toArray].toArray w (fun e w' => ∃ a1 cap1, e = .returned (.slice a1 (xs ++ h.by).length cap1) ∧ Ap8 w a w' a1 cap1 (xs ++ h.by)) := by
  have hGF : BOk Gt (pl w) := gt_low.plain hw
  refine calls_of_X (G := Gt) Try.func36 rfl rfl (Hp (pl w) []) (hp_refl (pl w) trivial rides_true) (good_hp hGF) ?_
  refine xs_plain (E := EE []) ?_
  refine lx_boxr 3 hGF rfl rfl rfl ?_
  intro b3
  refine lx_assign rfl rfl rfl ?_
  refine lx_nil ?_
  refine x_now0 gt_low (fun w3 hC g3 => ?_)
  have hE : En w a 26 b3 h.cs w3 a cap xs := En.start (n := 3) hs hC rfl g3
  clear hC
  have hGF := gt_low.plain hE.ap.g
  refine xs_drawK (E := EE [37]) (fun X => X = (fun w' => OwnB w' b3 h.cs 26)) (mkC [37]) (rkB [10]) [0, 1, 2, 4, 5, 3, 6, 7] mixed rfl (by kernel_rfl) (by kernel_rfl) (by kernel_rfl) ?_
  refine lxk_s rfl rfl ?_
  refine lx_move rfl rfl rfl ?_
  refine lx_nil ?_
  refine lxk_s rfl rfl ?_
  refine lx_fak 0 rfl Try.underlying26 rfl Try.sizeOf22 (by decide) rfl rfl rfl ?_
  refine lx_nil ?_
  refine lxk_s rfl rfl ?_
  refine lx_load rfl Try.isAgg22 (fun w' h => ((hE.ob.grow (hp_below h)).cell 0).trans rfl) rfl rfl ?_
  refine lx_nil ?_
  refine lxk_s rfl rfl ?_
  refine lx_fak 1 rfl Try.underlying26 rfl Try.sizeOf22 (by decide) rfl rfl rfl ?_
  refine lx_nil ?_
  refine lxk_q (X := fun w' => OwnB w' b3 h.cs 26) rfl (fun w' h => hE.ob.grow (hp_below h)) (fun _ => rfl) ?_
  refine lx_load rfl Try.isAgg22 (fun w' h => (h.cell 1).trans rfl) rfl rfl ?_
  refine lx_nil ?_
  refine lxk_e rfl ?_
  refine lx_callW gt_low (M := Of a) (fun k _ => Nat.zero_le k) rfl rfl ent37 rfl rfl hGF (Q := fun w1 w2 v => ∃ a1 cap1, v = .slice a1 (xs ++ le8 h.s 8).length cap1 ∧ Ap8 w1 a w2 a1 cap1 (xs ++ le8 h.s 8)) (fun w1 h1 g1 => (rui_calls h.s xs a cap (by omega) w1 g1 (hE.ap.s.grow h1) (fun k _ => Nat.zero_le k)).mono fun e w2 ⟨a1, c1, q1, q2⟩ => ⟨_, q1, q2.m, a1, c1, rfl, q2⟩) (fun w8a w8 v hg8 hm8 gg8 hq => ?_)
  obtain ⟨a8, c8, rfl, hq⟩ := hq
  have hE := hE.call hg8 hq
  have hGF := gt_low.plain hE.ap.g
  clear hq hg8 hm8 gg8
  refine lx_nil ?_
  refine ⟨fun _ X hX _ => by subst hX; exact fun w' h => hE.ob.grow (hp_below h), ?_⟩
  refine lxk_e rfl ?_
  refine lx_callW gt_low (M := Of a8) (fun k _ => Nat.zero_le k) rfl rfl ent37 rfl rfl hGF (Q := fun w1 w2 v => ∃ a1 cap1, v = .slice a1 ((xs ++ le8 h.s 8) ++ le8 h.p 8).length cap1 ∧ Ap8 w1 a8 w2 a1 cap1 ((xs ++ le8 h.s 8) ++ le8 h.p 8)) (fun w1 h1 g1 => (rui_calls h.p _ a8 c8 (by simp [le8_len]; omega) w1 g1 (hE.ap.s.grow h1) (fun k _ => Nat.zero_le k)).mono fun e w2 ⟨a1, c1, q1, q2⟩ => ⟨_, q1, q2.m, a1, c1, rfl, q2⟩) (fun w11a w11 v hg11 hm11 gg11 hq => ?_)
  obtain ⟨a11, c11, rfl, hq⟩ := hq
  have hE := hE.call hg11 hq
  have hGF := gt_low.plain hE.ap.g
  clear hq hg11 hm11 gg11
  refine lx_nil ?_
  refine ⟨fun _ X hX _ => by subst hX; exact fun w' h => hE.ob.grow (hp_below h), ?_⟩
  refine lxk_s rfl rfl ?_
  refine lx_assign rfl rfl rfl ?_
  refine lx_nil ?_
  refine lxk_nil ?_
  refine xs_draws (E := EE []) [0, 1, 2, 4, 5, 7, 8, 3, 6, 9, 10] mixed rfl (by kernel_rfl) (by kernel_rfl) (by kernel_rfl) ?_
  refine lx_move rfl rfl rfl ?_
  refine lx_fak 2 rfl Try.underlying26 rfl Try.sizeOf24 (by decide) rfl rfl rfl ?_
  refine lx_slarr0 rfl Try.underlying24 Try.sizeOf5 (by decide) rfl rfl ?_
  refine lx_fak 34 rfl Try.underlying26 rfl Try.sizeOf24 (by decide) rfl rfl rfl ?_
  refine lx_slarr0 rfl Try.underlying24 Try.sizeOf5 (by decide) rfl rfl ?_
  refine lx_fak 66 rfl Try.underlying26 rfl Try.sizeOf24 (by decide) rfl rfl rfl ?_
  refine lx_slarr0 rfl Try.underlying24 Try.sizeOf5 (by decide) rfl rfl ?_
  refine lx_app8 (xs := ((xs ++ le8 h.s 8) ++ le8 h.p 8)) (ys := h.a) gt_low (fun w' h => hGF.g _ _ _ h) rfl (by rw [hk.a]; rfl) Try.underlying46 Try.underlying46 ti5 (fun w' h => hE.ap.s.grow (hp_below h)) (fun k _ => Nat.zero_le k) (fun w' h => own_by (hE.ob.grow (hp_below h)) Hd.at_a) (fun w' h _ ad e hof => by cases e; exact hE.nb _ hof rfl) (by simp [le8_len, hk.a] <;> omega) rfl rfl (fun w15a w15 a15 c15 hC g2 hm hs ho => ?_)
  have hE := hE.next (hp_below hC) g2 hm hs ho
  have hGF := gt_low.plain hE.ap.g
  clear hC g2 hm hs ho
  refine lx_app8 (xs := (((xs ++ le8 h.s 8) ++ le8 h.p 8) ++ h.a)) (ys := h.b) gt_low (fun w' h => hGF.g _ _ _ h) rfl (by rw [hk.b]; rfl) Try.underlying46 Try.underlying46 ti5 (fun w' h => hE.ap.s.grow (hp_below h)) (fun k _ => Nat.zero_le k) (fun w' h => own_by (hE.ob.grow (hp_below h)) (Hd.at_b hk)) (fun w' h _ ad e hof => by cases e; exact hE.nb _ hof rfl) (by simp [le8_len, hk.a, hk.b] <;> omega) rfl rfl (fun w18a w18 a18 c18 hC g2 hm hs ho => ?_)
  have hE := hE.next (hp_below hC) g2 hm hs ho
  have hGF := gt_low.plain hE.ap.g
  clear hC g2 hm hs ho
  refine lx_app8 (xs := ((((xs ++ le8 h.s 8) ++ le8 h.p 8) ++ h.a) ++ h.b)) (ys := h.c) gt_low (fun w' h => hGF.g _ _ _ h) rfl (by rw [hk.c]; rfl) Try.underlying46 Try.underlying46 ti5 (fun w' h => hE.ap.s.grow (hp_below h)) (fun k _ => Nat.zero_le k) (fun w' h => own_by (hE.ob.grow (hp_below h)) (Hd.at_c hk)) (fun w' h _ ad e hof => by cases e; exact hE.nb _ hof rfl) (by simp [le8_len, hk.a, hk.b, hk.c] <;> omega) rfl rfl (fun w21a w21 a21 c21 hC g2 hm hs ho => ?_)
  have hE := hE.next (hp_below hC) g2 hm hs ho
  have hGF := gt_low.plain hE.ap.g
  clear hC g2 hm hs ho
  refine lx_assign rfl rfl rfl ?_
  refine lx_nil ?_
  refine x_ret ?_
  repeat (first | refine kseq_ret ?_ | refine kblk_ret ?_)
  exact kret_tmp rfl rfl (fun w' hw' => ⟨_, _, by rw [show xs ++ h.by = ((((xs ++ le8 h.s 8) ++ le8 h.p 8) ++ h.a) ++ h.b) ++ h.c from by simp [Hd.by]], by rw [show xs ++ h.by = ((((xs ++ le8 h.s 8) ++ le8 h.p 8) ++ h.a) ++ h.b) ++ h.c from by simp [Hd.by]]; exact hE.ap.grow (hp_below hw')⟩)
end Go.Proofs.Ytlaanjcnfindnaa
