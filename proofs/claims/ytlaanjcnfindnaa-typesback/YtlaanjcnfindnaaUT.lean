/-
  What is written is read back as it was.
-/
import Derived.Test.YtlaanjcnfindnaaUP
import Derived.Test.YtlaanjcnfindnaaVM
namespace Go.Proofs.Ytlaanjcnfindnaa
open Go.RowKit
set_option maxRecDepth 100000
set_option maxHeartbeats 1000000

theorem sub_skip {A R : By} {K a K' n : Nat} (hA : A.length = a) (h : K = a + K') : sub (A ++ R) K n = sub R K' n := by
  subst h
  rw [sub, sub, List.drop_append, List.drop_of_length_le (by omega), List.nil_append, hA, Nat.add_sub_cancel_left]
theorem sub_hd {B R : By} {n : Nat} (hB : B.length = n) : sub (B ++ R) 0 n = B := by
  rw [sub, List.drop_zero, List.take_append_of_le_length (by omega), List.take_of_length_le (by omega)]
theorem sub_end {B : By} {n : Nat} (hB : B.length = n) : sub B 0 n = B := sub_all hB
theorem hdOf_app {h : Hd} (k : h.Ok) (r : By) : hdOf (h.by ++ r) = h := by
  obtain ⟨s, p, a, b, c⟩ := h
  have e : (⟨s, p, a, b, c⟩ : Hd).by ++ r = le8 s 8 ++ (le8 p 8 ++ (a ++ (b ++ (c ++ r)))) := by simp [Hd.by]
  rw [e, hdOf, sub_hd (le8_len ..), sub_skip (a := 8) (K' := 0) (le8_len ..) rfl, sub_hd (le8_len ..), sub_skip (a := 8) (K' := 8) (le8_len ..) rfl, sub_skip (a := 8) (K' := 0) (le8_len ..) rfl, sub_hd k.a,
    sub_skip (a := 8) (K' := 40) (le8_len ..) rfl, sub_skip (a := 8) (K' := 32) (le8_len ..) rfl, sub_skip (a := 32) (K' := 0) k.a rfl, sub_hd k.b,
    sub_skip (a := 8) (K' := 72) (le8_len ..) rfl, sub_skip (a := 8) (K' := 64) (le8_len ..) rfl, sub_skip (a := 32) (K' := 32) k.a rfl, sub_skip (a := 32) (K' := 0) k.b rfl, sub_hd k.c, le_pn, le_pn]
theorem keysOf_B {ks : List By} (h48 : ∀ r ∈ ks, r.length = 48) : ∀ (m : Nat) (r : By), m ≤ ks.length → keysOf (keysB ks m ++ r) m = ks.take m
  | 0, _, _ => by simp [keysOf]
  | m + 1, r, hm => by
    have hl : (keysB ks m).length = 48 * m := keysB_len h48 m
    obtain ⟨y, hy⟩ : ∃ y, ks[m]? = some y := ⟨_, List.getElem?_eq_getElem hm⟩
    have hy2 : ks.getD m Z48 = y := by rw [List.getD_eq_getElem?_getD, hy]; rfl
    have e : keysOf (keysB ks (m + 1) ++ r) (m + 1) = keysOf (keysB ks (m + 1) ++ r) m ++ [sub (keysB ks (m + 1) ++ r) (48 * m) 48] := by simp [keysOf, List.range_succ]
    rw [e, keysB_s, List.append_assoc, keysOf_B h48 m _ (by omega), hy2, sub_skip (K' := 0) hl (by omega), sub_hd (h48 y (List.mem_of_getElem? hy)), List.take_add_one, hy]
    rfl
theorem drop_skip {A R : By} {K a K' : Nat} (hA : A.length = a) (h : K = a + K') : (A ++ R).drop K = R.drop K' := by
  subst h
  rw [List.drop_append, List.drop_of_length_le (by omega), List.nil_append, hA, Nat.add_sub_cancel_left]
section
variable {u : Up} (k : u.Ok) {m : Nat} (h1 : u.nx.ks.length = m) (h2 : u.sy.bs.length = m)
theorem nx_len (k : u.Ok) (m : Nat) : (u.nx.by m).length = 48 * m + 48 := Co.blen k.nx m
theorem sy_len (k : u.Ok) (h2 : u.sy.bs.length = m) : u.sy.by.length = szB m + 96 := by rw [Ag.blen k.sy, h2]
theorem by_len (k : u.Ok) (h2 : u.sy.bs.length = m) : u.by.length = sz2 m := by
  rw [Up.by, List.length_append, List.length_append, List.length_append, List.length_append, List.length_append, List.length_append, Hd.blen k.at_, h2, nx_len k, k.br, Hd.blen k.fi, k.fy, sy_len k h2, le8_len]
  unfold sz2; omega
theorem fin_len (k : u.Ok) (h2 : u.sy.bs.length = m) : u.fin.length = sz3 m := by
  rw [Up.fin, List.length_append, List.length_append, List.length_append, List.length_append, Hd.blen k.at_, Hd.blen k.fi, k.fy, sy_len k h2, le8_len]
  unfold sz3; omega
theorem opt_len (k : u.Ok) (h2 : u.sy.bs.length = m) : u.opt.length = sz4 m := by
  rw [Up.opt, List.length_append, List.length_append, Hd.blen k.at_, sy_len k h2, le8_len]
  unfold sz4; omega
theorem ag_parts (k : u.Ok) (h2 : u.sy.bs.length = m) (r : By) : sub (u.sy.by ++ r) 0 (szB m) = pb u.sy.bs m ∧ sub (u.sy.by ++ r) (szB m) 96 = u.sy.sig ∧ sub (u.sy.by ++ r) (szB m + 96) 8 = sub r 0 8 := by
  subst h2
  have e : u.sy.by ++ r = pb u.sy.bs u.sy.bs.length ++ (u.sy.sig ++ r) := by rw [Ag.by, List.append_assoc]
  have hl : (pb u.sy.bs u.sy.bs.length).length = szB u.sy.bs.length := pb_len ..
  rw [e, sub_hd hl, sub_skip (K' := 0) hl (by omega), sub_hd k.sy.sig, sub_skip (K' := 96) hl (by omega), sub_skip (K' := 0) k.sy.sig rfl]
  exact ⟨rfl, rfl, rfl⟩
theorem u1_of (k : u.Ok) (h1 : u.nx.ks.length = m) (h2 : u.sy.bs.length = m) : u1Of u.by m = u.re none m none 0 ∧ cleanB (sub u.by (624 + 48 * m) (szB m)) m = true := by
  have e0 : u.by = u.at_.by ++ (u.nx.by m ++ (u.br ++ (u.fi.by ++ (u.fy ++ (u.sy.by ++ le8 u.sl 8))))) := by rw [Up.by, h2]
  have e1 : u.nx.by m = keysB u.nx.ks m ++ u.nx.sum := rfl
  have lh := Hd.blen k.at_
  have lf := Hd.blen k.fi
  have ln := nx_len k m
  have lk : (keysB u.nx.ks m).length = 48 * m := keysB_len k.nx.ks m
  obtain ⟨a1, a2, a3⟩ := ag_parts k h2 (le8 u.sl 8)
  have b6 : ∀ (p n : Nat), sub u.by (624 + 48 * m + p) n = sub (u.sy.by ++ le8 u.sl 8) p n := fun p n => by
    rw [e0, sub_skip (K' := 512 + 48 * m + p) lh (by omega), sub_skip (K' := 464 + p) ln (by omega), sub_skip (K' := 304 + p) k.br (by omega), sub_skip (K' := 192 + p) lf (by omega), sub_skip (K' := p) k.fy rfl]
  have c6 : sub u.by (624 + 48 * m) (szB m) = pb u.sy.bs m := (b6 0 (szB m)).trans a1
  refine ⟨?_, by rw [c6, ← h2]; exact clean_pb _⟩
  have d1 : hdOf u.by = u.at_ := by rw [e0]; exact hdOf_app k.at_ _
  have d2 : keysOf (u.by.drop 112) m = u.nx.ks := by
    rw [e0, drop_skip (K' := 0) lh rfl, List.drop_zero, e1, List.append_assoc, keysOf_B k.nx.ks m _ (by omega), List.take_of_length_le (by omega)]
  have d3 : sub (u.by.drop 112) (48 * m) 48 = u.nx.sum := by
    rw [sub_x, e0, sub_skip (K' := 48 * m) lh rfl, e1, List.append_assoc, sub_skip (K' := 0) lk (by omega), sub_hd k.nx.sum]
  have d4 : sub u.by (160 + 48 * m) (32 * 5) = u.br := by
    rw [e0, sub_skip (K' := 48 + 48 * m) lh (by omega), sub_skip (K' := 0) ln (by omega), sub_hd k.br]
  have d5 : hdOf (u.by.drop (320 + 48 * m)) = u.fi := by
    rw [e0, drop_skip (K' := 208 + 48 * m) lh (by omega), drop_skip (K' := 160) ln (by omega), drop_skip (K' := 0) k.br rfl, List.drop_zero]
    exact hdOf_app k.fi _
  have d6 : sub u.by (432 + 48 * m) (32 * 6) = u.fy := by
    rw [e0, sub_skip (K' := 320 + 48 * m) lh (by omega), sub_skip (K' := 272) ln (by omega), sub_skip (K' := 112) k.br rfl, sub_skip (K' := 0) lf rfl, sub_hd k.fy]
  have d7 : bt (sub u.by (624 + 48 * m) (szB m)) m = u.sy.bs := by rw [c6, ← h2]; exact bt_pb _
  have d8 : sub u.by (624 + 48 * m + szB m) 96 = u.sy.sig := (b6 _ _).trans a2
  have d9 : pn (sub u.by (624 + 48 * m + szB m + 96) 8) 8 = u.sl := by
    rw [show 624 + 48 * m + szB m + 96 = 624 + 48 * m + (szB m + 96) by omega, b6, a3, sub_end (le8_len ..), le_pn]
  rw [u1Of, d1, d2, d3, d4, d5, d6, d7, d8, d9]
  rfl
theorem u2_of (k : u.Ok) (h0 : u.nx = ⟨[], none, 0, Z48⟩) (hb : u.br = Zs 160) (h2 : u.sy.bs.length = m) : u2Of u.fin m = u.re none 0 none 0 ∧ cleanB (sub u.fin 416 (szB m)) m = true := by
  have lh := Hd.blen k.at_
  have lf := Hd.blen k.fi
  obtain ⟨a1, a2, a3⟩ := ag_parts k h2 (le8 u.sl 8)
  have b6 : ∀ (p n : Nat), sub u.fin (416 + p) n = sub (u.sy.by ++ le8 u.sl 8) p n := fun p n => by
    rw [Up.fin, sub_skip (K' := 304 + p) lh (by omega), sub_skip (K' := 192 + p) lf (by omega), sub_skip (K' := p) k.fy rfl]
  have c6 : sub u.fin 416 (szB m) = pb u.sy.bs m := (b6 0 (szB m)).trans a1
  refine ⟨?_, by rw [c6, ← h2]; exact clean_pb _⟩
  have d1 : hdOf u.fin = u.at_ := hdOf_app k.at_ _
  have d5 : hdOf (u.fin.drop 112) = u.fi := by
    rw [Up.fin, drop_skip (K' := 0) lh rfl, List.drop_zero]
    exact hdOf_app k.fi _
  have d6 : sub u.fin 224 (32 * 6) = u.fy := by
    rw [Up.fin, sub_skip (K' := 112) lh rfl, sub_skip (K' := 0) lf rfl, sub_hd k.fy]
  have d7 : bt (sub u.fin 416 (szB m)) m = u.sy.bs := by rw [c6, ← h2]; exact bt_pb _
  have d8 : sub u.fin (416 + szB m) 96 = u.sy.sig := (b6 _ _).trans a2
  have d9 : pn (sub u.fin (416 + szB m + 96) 8) 8 = u.sl := by
    rw [show 416 + szB m + 96 = 416 + (szB m + 96) by omega, b6, a3, sub_end (le8_len ..), le_pn]
  rw [u2Of, d1, d5, d6, d7, d8, d9]
  obtain ⟨at_, nx, br, fi, fy, sy, sl⟩ := u
  dsimp only at h0 hb
  subst h0 hb
  rfl
theorem u3_of (k : u.Ok) (h0 : u.nx = ⟨[], none, 0, Z48⟩) (hb : u.br = Zs 160) (hf : u.fi = Hd0) (hy : u.fy = Zs 192) (h2 : u.sy.bs.length = m) : u3Of u.opt m = u.re none 0 none 0 ∧ cleanB (sub u.opt 112 (szB m)) m = true := by
  have lh := Hd.blen k.at_
  obtain ⟨a1, a2, a3⟩ := ag_parts k h2 (le8 u.sl 8)
  have b6 : ∀ (p n : Nat), sub u.opt (112 + p) n = sub (u.sy.by ++ le8 u.sl 8) p n := fun p n => by
    rw [Up.opt, sub_skip (K' := p) lh rfl]
  have c6 : sub u.opt 112 (szB m) = pb u.sy.bs m := (b6 0 (szB m)).trans a1
  refine ⟨?_, by rw [c6, ← h2]; exact clean_pb _⟩
  have d1 : hdOf u.opt = u.at_ := hdOf_app k.at_ _
  have d7 : bt (sub u.opt 112 (szB m)) m = u.sy.bs := by rw [c6, ← h2]; exact bt_pb _
  have d8 : sub u.opt (112 + szB m) 96 = u.sy.sig := (b6 _ _).trans a2
  have d9 : pn (sub u.opt (112 + szB m + 96) 8) 8 = u.sl := by
    rw [show 112 + szB m + 96 = 112 + (szB m + 96) by omega, b6, a3, sub_end (le8_len ..), le_pn]
  rw [u3Of, d1, d7, d8, d9]
  obtain ⟨at_, nx, br, fi, fy, sy, sl⟩ := u
  dsimp only at h0 hb hf hy
  subst h0 hb hf hy
  rfl
end
theorem bo_len {b : Bo} {m : Nat} (k : b.Ok) (h1 : b.nw.ks.length = m) : b.by.length = sz1 m := by
  rw [Bo.by, List.length_append, List.length_append, Hd.blen k.hd, h1, Co.blen k.nw, k.br]
  unfold sz1; omega
theorem bo_of {b : Bo} {m : Nat} (k : b.Ok) (h1 : b.nw.ks.length = m) : boOf b.by m none m = b.re none m := by
  have e0 : b.by = b.hd.by ++ (keysB b.nw.ks m ++ (b.nw.sum ++ b.br)) := by rw [Bo.by, h1, Co.by, List.append_assoc]
  have lh := Hd.blen k.hd
  have lk : (keysB b.nw.ks m).length = 48 * m := keysB_len k.nw.ks m
  have d1 : hdOf b.by = b.hd := by rw [e0]; exact hdOf_app k.hd _
  have d2 : keysOf (b.by.drop 112) m = b.nw.ks := by
    rw [e0, drop_skip (K' := 0) lh rfl, List.drop_zero, keysOf_B k.nw.ks m _ (by omega), List.take_of_length_le (by omega)]
  have d3 : sub (b.by.drop 112) (48 * m) 48 = b.nw.sum := by
    rw [sub_x, e0, sub_skip (K' := 48 * m) lh rfl, sub_skip (K' := 0) lk (by omega), sub_hd k.nw.sum]
  have d4 : sub b.by (160 + 48 * m) 160 = b.br := by
    rw [e0, sub_skip (K' := 48 + 48 * m) lh (by omega), sub_skip (K' := 48) lk (by omega), sub_skip (K' := 0) k.nw.sum rfl, sub_end k.br]
  rw [boOf, d1, d2, d3, d4]
  rfl
/-! ### Keys clipped and filled up -/
def clipK (l : List By) (m : Nat) : List By := l.take (min l.length m) ++ List.replicate (m - min l.length m) Z48
theorem clipK_len (l : List By) (m : Nat) : (clipK l m).length = m := by rw [clipK, List.length_append, List.length_take, List.length_replicate]; omega
theorem clipK_all {l : List By} (h : ∀ r ∈ l, r.length = 48) (m : Nat) : ∀ r ∈ clipK l m, r.length = 48 := fun r hr => by
  rcases List.mem_append.1 hr with hr | hr
  · exact h r (List.mem_of_mem_take hr)
  · rw [(List.mem_replicate.1 hr).2]; rfl
theorem clipK_fl (l : List By) (m : Nat) : (clipK l m).flatten.map U8 = (l.take (min l.length m)).flatten.map U8 ++ (List.replicate (m - min l.length m) Z48).flatten.map U8 := by rw [clipK, List.flatten_append, List.map_append]
theorem fl48 {l : List By} (h : ∀ r ∈ l, r.length = 48) : (l.flatten.map U8).length = l.length * 48 := by
  rw [List.length_map]
  induction l with
  | nil => rfl
  | cons x r ih =>
    rw [List.flatten_cons, List.length_append, h x (List.mem_cons_self ..), ih (fun y hy => h y (List.mem_cons_of_mem _ hy)), List.length_cons]
    omega
theorem rep48 (d : Nat) : (List.replicate d Z48).flatten.map U8 = (List.replicate (d * 48) 0#8).map U8 := by
  congr 1
  induction d with
  | zero => rfl
  | succ d ih => rw [List.replicate_succ, List.flatten_cons, ih, Z48, List.replicate_append_replicate]; congr 1; omega
theorem zk_list (d : Nat) : (Builtin.zeroCells (Value.agg (Z48.map U8).toArray).cells d).toList = (List.replicate d Z48).flatten.map U8 := by
  rw [rep48]
  apply List.ext_getElem?
  intro i
  have hs : (Value.agg (Z48.map U8).toArray).cells.size = 48 := rfl
  unfold Builtin.zeroCells
  rw [hs]
  by_cases h : i < d * 48
  · rw [Array.getElem?_toList, Array.getElem?_map, Array.getElem?_range, if_pos h]
    have h2 : (Value.agg (Z48.map U8).toArray).cells[i % 48]! = U8 0#8 := by
      have e : (Value.agg (Z48.map U8).toArray).cells = (List.replicate 48 (U8 0#8)).toArray := rfl
      rw [e, getElem!_pos _ _ (by simp; omega), List.getElem_toArray]
      exact List.getElem_replicate ..
    show some ((Value.agg (Z48.map U8).toArray).cells[i % 48]!) = _
    rw [h2, List.map_replicate, List.getElem?_replicate, if_pos h]
  · rw [List.getElem?_eq_none (by simp; omega), List.getElem?_eq_none (by simp; omega)]
theorem zk_one (d : Nat) : ∀ u ∈ (Builtin.zeroCells (Value.agg (Z48.map U8).toArray).cells d).toList, u.oneCell' = true := fun u hu => by
  rw [zk_list] at hu
  obtain ⟨x, _, rfl⟩ := List.mem_map.1 hu; rfl
theorem u8s_one (l : By) : ∀ u ∈ l.map U8, u.oneCell' = true := fun u hu => by
  obtain ⟨x, _, rfl⟩ := List.mem_map.1 hu; rfl
theorem add_two (a : Addr) (k j : Nat) : (a.add k).add j = a.add (k + j) := by
  by_cases h : k = 0
  · subst h; simp [Addr.add]
  · exact add_add a k j h
/-- Rows as cells. -/
theorem rws_cells {w : World} {a : Option Addr} {l : List By} (h : RwsAt 48 w a l) (h48 : ∀ r ∈ l, r.length = 48) : CellsAt w a (l.flatten.map U8) := fun j v hv => by
  have hj : j < (l.flatten.map U8).length := (List.getElem?_eq_some_iff.1 hv).1
  rw [fl48 h48] at hj
  obtain ⟨r, hr⟩ : ∃ r, l[j / 48]? = some r := ⟨_, List.getElem?_eq_getElem (by omega)⟩
  obtain ⟨ad, e, hc⟩ := h _ r hr
  have hrl := h48 r (List.mem_of_getElem? hr)
  obtain ⟨x, hx⟩ : ∃ x, r[j % 48]? = some x := ⟨_, List.getElem?_eq_getElem (by omega)⟩
  have h3 : (r.map U8)[j % 48]? = some (U8 x) := by rw [List.getElem?_map, hx]; rfl
  have h4 := flat_at l h48 _ r hr _ _ h3
  rw [show j / 48 * 48 + j % 48 = j by omega, hv] at h4
  cases h4
  have := hc _ _ h3
  rw [add_two, show j / 48 * 48 + j % 48 = j by omega] at this
  exact ⟨ad, e, this⟩
end Go.Proofs.Ytlaanjcnfindnaa
