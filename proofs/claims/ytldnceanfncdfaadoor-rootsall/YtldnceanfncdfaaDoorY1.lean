/-
  What the rows share: updates and bootstraps that came in.
-/
import Derived.Test.YtldnceanfncdfaaDoorY0
import Derived.Test.YtldnceanfncdfaaDoorWS
import Derived.Test.YtldnceanfncdfaaDoorX3
import Derived.ChangeArms
import Derived.OpenShut
namespace Go.Proofs.YtldnceanfncdfaaDoor
open Go.ChangeShapes Go.WideShapes Go.ChangeAt Go.RowKit
set_option maxRecDepth 100000

theorem u64_of_wf {n : Int} (h : (Lit.int .u64 n).wf = true) : ∃ x : BitVec 64, (.int .u64 n : Value) = U64 x := by
  simp only [Lit.wf, Bool.and_eq_true, decide_eq_true_eq] at h
  have h1 : IntKind.u64.min = 0 := rfl
  have h2 : IntKind.u64.max = 18446744073709551615 := rfl
  rw [h1, h2] at h
  refine ⟨BitVec.ofNat 64 n.toNat, ?_⟩
  simp only [U64, BitVec.toNat_ofNat]
  congr 1
  omega
theorem co5 : Tryd.prog.cellsOf 5 = 1 := by kernel_rfl
theorem co4 : Tryd.prog.cellsOf 4 = 1 := by kernel_rfl
theorem co22 : Tryd.prog.cellsOf 22 = 1 := by kernel_rfl
theorem co34 : Tryd.prog.cellsOf 34 = 1 := by kernel_rfl
theorem co27 : Tryd.prog.cellsOf 27 = 1 := by kernel_rfl
theorem co24 : Tryd.prog.cellsOf 24 = 32 := by kernel_rfl
theorem co29 : Tryd.prog.cellsOf 29 = 48 := by kernel_rfl
theorem co36 : Tryd.prog.cellsOf 36 = 96 := by kernel_rfl
theorem co32 : Tryd.prog.cellsOf 32 = 160 := by kernel_rfl
theorem co33 : Tryd.prog.cellsOf 33 = 192 := by kernel_rfl
theorem co26 : Tryd.prog.cellsOf 26 = 98 := by kernel_rfl
theorem co31 : Tryd.prog.cellsOf 31 = 49 := by kernel_rfl
theorem co38 : Tryd.prog.cellsOf 38 = 97 := by kernel_rfl
theorem co40 : Tryd.prog.cellsOf 40 = 695 := by kernel_rfl
theorem co42 : Tryd.prog.cellsOf 42 = 307 := by kernel_rfl
theorem u8_wf {n : Int} (h : (Lit.int .u8 n).wf = true) : ∃ x : BitVec 8, (.int .u8 n : Value) = U8 x := by
  simp only [Lit.wf, Bool.and_eq_true, decide_eq_true_eq] at h
  have h1 : IntKind.u8.min = 0 := rfl
  have h2 : IntKind.u8.max = 255 := rfl
  rw [h1, h2] at h
  refine ⟨BitVec.ofNat 8 n.toNat, ?_⟩
  simp only [U8, BitVec.toNat_ofNat]
  congr 1
  omega
theorem all_u8 : ∀ (cs : List Value), (∀ (j : Nat) (v : Value), cs[j]? = some v → ∃ x : BitVec 8, v = U8 x) → ∃ r : List (BitVec 8), cs = r.map U8
  | [], _ => ⟨[], rfl⟩
  | c :: cs, h => by
    obtain ⟨x, rfl⟩ := h 0 c rfl
    obtain ⟨r, rfl⟩ := all_u8 cs (fun j v hv => h (j + 1) v hv)
    exact ⟨x :: r, rfl⟩
def bitOf {H : Type} (x : DataW H) : Bool := match x with
  | .lit (.bool b) => b
  | _ => false
theorem cut_at (cs : List Value) (p n q : Nat) (h : p + n = q) : cs.drop p = (cs.drop p).take n ++ cs.drop q := by
  subst h
  conv => lhs; rw [← List.take_append_drop n (cs.drop p), List.drop_drop]
section
variable {W : World} {H : Type} {enc : TypeId × Value → H} {base : Nat} {spare : Nat → Bool} {held : Bool} {fuel : Nat}
theorem isA24 {cs : List Value} {x : DataW H × List MemPlace} (hf : DataW.trod enc Tryd.prog W base spare held fuel 24 cs = some x) : ∃ r : By, r.length = 32 ∧ cs = r.map U8 := by
  obtain ⟨xs, m, rfl, rfl, hl, hx, hF⟩ := DataW.trod_array Tryd.underlying24 hf
  rw [co24] at hl
  obtain ⟨r, hr⟩ := all_u8 cs (fun j v hv => by
    have hj : j < 32 := by rw [← hl]; exact (List.getElem?_eq_some_iff.1 hv).1
    have h1 := hF j hj
    rw [co5, Nat.mul_one, List.getElem?_eq_getElem (by omega)] at h1
    have h2 : (cs.drop j).take 1 = [v] := by
      obtain ⟨hlt, he⟩ := List.getElem?_eq_some_iff.1 hv
      rw [List.drop_eq_getElem_cons hlt, he]
      rfl
    rw [h2] at h1
    obtain ⟨n, e1, _, w1⟩ := DataW.trod_int Tryd.underlying5 h1
    obtain ⟨y, hy⟩ := u8_wf w1
    exact ⟨y, by rw [← hy]; simpa using e1⟩)
  exact ⟨r, by rw [hr, List.length_map] at hl; exact hl, hr⟩
theorem isA29 {cs : List Value} {x : DataW H × List MemPlace} (hf : DataW.trod enc Tryd.prog W base spare held fuel 29 cs = some x) : ∃ r : By, r.length = 48 ∧ cs = r.map U8 := by
  obtain ⟨xs, m, rfl, rfl, hl, hx, hF⟩ := DataW.trod_array Tryd.underlying29 hf
  rw [co29] at hl
  obtain ⟨r, hr⟩ := all_u8 cs (fun j v hv => by
    have hj : j < 48 := by rw [← hl]; exact (List.getElem?_eq_some_iff.1 hv).1
    have h1 := hF j hj
    rw [co5, Nat.mul_one, List.getElem?_eq_getElem (by omega)] at h1
    have h2 : (cs.drop j).take 1 = [v] := by
      obtain ⟨hlt, he⟩ := List.getElem?_eq_some_iff.1 hv
      rw [List.drop_eq_getElem_cons hlt, he]
      rfl
    rw [h2] at h1
    obtain ⟨n, e1, _, w1⟩ := DataW.trod_int Tryd.underlying5 h1
    obtain ⟨y, hy⟩ := u8_wf w1
    exact ⟨y, by rw [← hy]; simpa using e1⟩)
  exact ⟨r, by rw [hr, List.length_map] at hl; exact hl, hr⟩
theorem isA36 {cs : List Value} {x : DataW H × List MemPlace} (hf : DataW.trod enc Tryd.prog W base spare held fuel 36 cs = some x) : ∃ r : By, r.length = 96 ∧ cs = r.map U8 := by
  obtain ⟨xs, m, rfl, rfl, hl, hx, hF⟩ := DataW.trod_array Tryd.underlying36 hf
  rw [co36] at hl
  obtain ⟨r, hr⟩ := all_u8 cs (fun j v hv => by
    have hj : j < 96 := by rw [← hl]; exact (List.getElem?_eq_some_iff.1 hv).1
    have h1 := hF j hj
    rw [co5, Nat.mul_one, List.getElem?_eq_getElem (by omega)] at h1
    have h2 : (cs.drop j).take 1 = [v] := by
      obtain ⟨hlt, he⟩ := List.getElem?_eq_some_iff.1 hv
      rw [List.drop_eq_getElem_cons hlt, he]
      rfl
    rw [h2] at h1
    obtain ⟨n, e1, _, w1⟩ := DataW.trod_int Tryd.underlying5 h1
    obtain ⟨y, hy⟩ := u8_wf w1
    exact ⟨y, by rw [← hy]; simpa using e1⟩)
  exact ⟨r, by rw [hr, List.length_map] at hl; exact hl, hr⟩
theorem isA32 {cs : List Value} {x : DataW H × List MemPlace} (hf : DataW.trod enc Tryd.prog W base spare held fuel 32 cs = some x) : ∃ r : By, r.length = 160 ∧ cs = r.map U8 := by
  obtain ⟨xs, m, rfl, rfl, hl, hx, hF⟩ := DataW.trod_array Tryd.underlying32 hf
  rw [co32] at hl
  obtain ⟨r, hr⟩ := all_u8 cs (fun j v hv => by
    have hj : j < 160 := by rw [← hl]; exact (List.getElem?_eq_some_iff.1 hv).1
    have h1 := hF (j / 32) (by omega)
    rw [co24, List.getElem?_eq_getElem (by omega)] at h1
    obtain ⟨r, h2, h3⟩ := isA24 h1
    have h4 : (r.map U8)[j % 32]? = some v := by
      rw [← h3, List.getElem?_take, if_pos (by omega), List.getElem?_drop, show j / 32 * 32 + j % 32 = j by omega]
      exact hv
    rw [List.getElem?_map, Option.map_eq_some_iff] at h4
    obtain ⟨y, _, hy⟩ := h4
    exact ⟨y, hy.symm⟩)
  exact ⟨r, by rw [hr, List.length_map] at hl; exact hl, hr⟩
theorem isA33 {cs : List Value} {x : DataW H × List MemPlace} (hf : DataW.trod enc Tryd.prog W base spare held fuel 33 cs = some x) : ∃ r : By, r.length = 192 ∧ cs = r.map U8 := by
  obtain ⟨xs, m, rfl, rfl, hl, hx, hF⟩ := DataW.trod_array Tryd.underlying33 hf
  rw [co33] at hl
  obtain ⟨r, hr⟩ := all_u8 cs (fun j v hv => by
    have hj : j < 192 := by rw [← hl]; exact (List.getElem?_eq_some_iff.1 hv).1
    have h1 := hF (j / 32) (by omega)
    rw [co24, List.getElem?_eq_getElem (by omega)] at h1
    obtain ⟨r, h2, h3⟩ := isA24 h1
    have h4 : (r.map U8)[j % 32]? = some v := by
      rw [← h3, List.getElem?_take, if_pos (by omega), List.getElem?_drop, show j / 32 * 32 + j % 32 = j by omega]
      exact hv
    rw [List.getElem?_map, Option.map_eq_some_iff] at h4
    obtain ⟨y, _, hy⟩ := h4
    exact ⟨y, hy.symm⟩)
  exact ⟨r, by rw [hr, List.length_map] at hl; exact hl, hr⟩
theorem isU {c : Value} {x : DataW H × List MemPlace} (hf : DataW.trod enc Tryd.prog W base spare held fuel 22 [c] = some x) : ∃ u : BitVec 64, c = U64 u := by
  obtain ⟨k, e, _, w⟩ := DataW.trod_int Tryd.underlying22 hf
  obtain ⟨u, hu⟩ := u64_of_wf w
  exact ⟨u, by rw [← hu]; simpa using e⟩
theorem isU1 {cs : List Value} {x : DataW H × List MemPlace} (hl : cs.length = 1) (hf : DataW.trod enc Tryd.prog W base spare held fuel 22 cs = some x) : ∃ u : BitVec 64, cs = [U64 u] := by
  match cs, hl with
  | [c], _ =>
    obtain ⟨u, rfl⟩ := isU hf
    exact ⟨u, rfl⟩
theorem isBits {c : Value} {x : DataW H × List MemPlace} (hf : DataW.trod enc Tryd.prog W base spare held fuel 34 [c] = some x) : ∃ a cap, ∃ ls : List Bool, c = .slice a ls.length cap ∧ ls.length ≤ cap ∧ CellsAt W a (ls.map .bool) := by
  rcases DataW.trod_slice Tryd.underlying34 hf with ⟨e1, _⟩ | ⟨b, l, c', elems, rest, n, _, e1, ex, _, hcap, _, hlen, hel, _⟩
  · cases e1
    exact ⟨none, 0, [], rfl, Nat.le_refl _, fun j v hv => by simp at hv⟩
  · cases e1
    subst hlen
    refine ⟨some b, c', elems.map (fun x => bitOf x.1), by rw [List.length_map], by rw [List.length_map]; exact hcap, fun j v hv => ?_⟩
    rw [List.map_map, List.getElem?_map, Option.map_eq_some_iff] at hv
    obtain ⟨y, hy, rfl⟩ := hv
    have hj : j < elems.length := (List.getElem?_eq_some_iff.1 hy).1
    have hE := hel j hj
    rw [co4, Nat.mul_one, hy, Option.bind_eq_some_iff] at hE
    obtain ⟨c1, hc1, hy2⟩ := hE
    obtain ⟨b1, e2, e3⟩ := DataW.trod_bool Tryd.underlying4 hy2
    subst e2 e3
    refine ⟨b, rfl, ?_⟩
    have := (cell_of_cells?_at hc1).2 0 _ rfl
    rw [show (b.add j).add 0 = b.add j from by simp [Addr.add]] at this
    exact this
theorem isKeys {c : Value} {x : DataW H × List MemPlace} (hf : DataW.trod enc Tryd.prog W base spare held fuel 27 [c] = some x) : ∃ a cap, ∃ l : List By, c = .slice a l.length cap ∧ l.length ≤ cap ∧ (∀ r ∈ l, r.length = 48) ∧ RwsAt 48 W a l := by
  rcases DataW.trod_slice Tryd.underlying27 hf with ⟨e1, _⟩ | ⟨a', len, cap', elems, rest, n, _, e1, ex, _, hl, _, hlen, hel, _⟩
  · cases e1
    exact ⟨none, 0, [], rfl, Nat.le_refl _, fun _ h => by simp at h, fun i s hs => by simp at hs⟩
  · cases e1
    have each : ∀ i, i < len → ∃ r : By, r.length = 48 ∧ ∀ j v, (r.map U8)[j]? = some v → W.cell? ((a'.add (i * 48)).add j) = some v := fun i hi => by
      have hE := hel i hi
      rw [co29, List.getElem?_eq_getElem (by omega), Option.bind_eq_some_iff] at hE
      obtain ⟨c1, hc1, hy⟩ := hE
      obtain ⟨r, h1, rfl⟩ := isA29 hy
      exact ⟨r, h1, (cell_of_cells?_at hc1).2⟩
    refine ⟨some a', cap', (List.range len).map (fun i => if h : i < len then Classical.choose (each i h) else []), by simp, by simpa using hl, fun r hr => ?_, fun i r hr => ?_⟩
    · obtain ⟨i, hi, rfl⟩ := List.mem_map.1 hr
      have hlt := List.mem_range.1 hi
      rw [dif_pos hlt]
      exact (Classical.choose_spec (each i hlt)).1
    · rw [List.getElem?_map, Option.map_eq_some_iff] at hr
      obtain ⟨j, hj, rfl⟩ := hr
      obtain ⟨h1, h2⟩ := List.getElem?_eq_some_iff.1 hj
      simp only [List.getElem_range] at h2
      subst h2
      have hlt : i < len := by simpa using h1
      rw [dif_pos hlt]
      exact ⟨a', rfl, (Classical.choose_spec (each i hlt)).2⟩
theorem isHd {cs : List Value} {x : DataW H × List MemPlace} (hf : DataW.trod enc Tryd.prog W base spare held fuel 26 cs = some x) : ∃ h : Hd, h.Ok ∧ cs = h.cs := by
  obtain ⟨xs, n, rfl, rfl, hl, hx, hF⟩ := DataW.trod_struct Tryd.underlying26 hf
  rw [co26] at hl
  have hxn : xs.length = 5 := hx.trans rfl
  match xs, hxn with
  | [y0, y1, y2, y3, y4], _ =>
  have h0 : DataW.trod enc Tryd.prog W base spare held n 22 ((cs.drop 0).take (Tryd.prog.cellsOf 22)) = some y0 := hF 0 _ rfl
  rw [co22] at h0
  have h1 : DataW.trod enc Tryd.prog W base spare held n 22 ((cs.drop 1).take (Tryd.prog.cellsOf 22)) = some y1 := hF 1 _ rfl
  rw [co22] at h1
  have h2 : DataW.trod enc Tryd.prog W base spare held n 24 ((cs.drop 2).take (Tryd.prog.cellsOf 24)) = some y2 := hF 2 _ rfl
  rw [co24] at h2
  have h3 : DataW.trod enc Tryd.prog W base spare held n 24 ((cs.drop 34).take (Tryd.prog.cellsOf 24)) = some y3 := hF 3 _ rfl
  rw [co24] at h3
  have h4 : DataW.trod enc Tryd.prog W base spare held n 24 ((cs.drop 66).take (Tryd.prog.cellsOf 24)) = some y4 := hF 4 _ rfl
  rw [co24] at h4
  obtain ⟨u0, q0⟩ := isU1 (by rw [List.length_take, List.length_drop]; omega) h0
  obtain ⟨u1, q1⟩ := isU1 (by rw [List.length_take, List.length_drop]; omega) h1
  obtain ⟨r2, n2, q2⟩ := isA24 h2
  obtain ⟨r3, n3, q3⟩ := isA24 h3
  obtain ⟨r4, n4, q4⟩ := isA24 h4
  have e : cs = cs.drop 0 := rfl
  rw [cut_at cs 0 1 1 rfl, cut_at cs 1 1 2 rfl, cut_at cs 2 32 34 rfl, cut_at cs 34 32 66 rfl, cut_at cs 66 32 98 rfl, List.drop_of_length_le (by omega : cs.length ≤ 98)] at e
  rw [q0, q1, q2, q3, q4, List.append_nil] at e
  exact ⟨⟨u0, u1, r2, r3, r4⟩, ⟨n2, n3, n4⟩, e⟩
theorem isCo {cs : List Value} {x : DataW H × List MemPlace} (hf : DataW.trod enc Tryd.prog W base spare held fuel 31 cs = some x) : ∃ c : Co, c.Ok ∧ cs = c.cs ∧ RwsAt 48 W c.ka c.ks := by
  obtain ⟨xs, n, rfl, rfl, hl, hx, hF⟩ := DataW.trod_struct Tryd.underlying31 hf
  rw [co31] at hl
  have hxn : xs.length = 2 := hx.trans rfl
  match xs, hxn with
  | [y0, y1], _ =>
  have h0 : DataW.trod enc Tryd.prog W base spare held n 27 ((cs.drop 0).take (Tryd.prog.cellsOf 27)) = some y0 := hF 0 _ rfl
  rw [co27] at h0
  have h1 : DataW.trod enc Tryd.prog W base spare held n 29 ((cs.drop 1).take (Tryd.prog.cellsOf 29)) = some y1 := hF 1 _ rfl
  rw [co29] at h1
  obtain ⟨v0, w0⟩ : ∃ v, (cs.drop 0).take 1 = [v] := by
    match cs, hl with
    | c :: r, _ => exact ⟨c, rfl⟩
  rw [w0] at h0
  obtain ⟨a, cap, l, rfl, hc, hk, hr⟩ := isKeys h0
  obtain ⟨r1, n1, q1⟩ := isA29 h1
  have e : cs = cs.drop 0 := rfl
  rw [cut_at cs 0 1 1 rfl, cut_at cs 1 48 49 rfl, List.drop_of_length_le (by omega : cs.length ≤ 49)] at e
  rw [w0, q1, List.append_nil] at e
  exact ⟨⟨l, a, cap, r1⟩, ⟨hk, n1, hc⟩, e, hr⟩
theorem isAg {cs : List Value} {x : DataW H × List MemPlace} (hf : DataW.trod enc Tryd.prog W base spare held fuel 38 cs = some x) : ∃ c : Ag, c.Ok ∧ cs = c.cs ∧ CellsAt W c.ba (c.bs.map .bool) ∧ c.bs.length ≤ c.bc := by
  obtain ⟨xs, n, rfl, rfl, hl, hx, hF⟩ := DataW.trod_struct Tryd.underlying38 hf
  rw [co38] at hl
  have hxn : xs.length = 2 := hx.trans rfl
  match xs, hxn with
  | [y0, y1], _ =>
  have h0 : DataW.trod enc Tryd.prog W base spare held n 34 ((cs.drop 0).take (Tryd.prog.cellsOf 34)) = some y0 := hF 0 _ rfl
  rw [co34] at h0
  have h1 : DataW.trod enc Tryd.prog W base spare held n 36 ((cs.drop 1).take (Tryd.prog.cellsOf 36)) = some y1 := hF 1 _ rfl
  rw [co36] at h1
  obtain ⟨v0, w0⟩ : ∃ v, (cs.drop 0).take 1 = [v] := by
    match cs, hl with
    | c :: r, _ => exact ⟨c, rfl⟩
  rw [w0] at h0
  obtain ⟨a, cap, l, rfl, hc, hr⟩ := isBits h0
  obtain ⟨r1, n1, q1⟩ := isA36 h1
  have e : cs = cs.drop 0 := rfl
  rw [cut_at cs 0 1 1 rfl, cut_at cs 1 96 97 rfl, List.drop_of_length_le (by omega : cs.length ≤ 97)] at e
  rw [w0, q1, List.append_nil] at e
  exact ⟨⟨l, a, cap, r1⟩, ⟨n1⟩, e, hr, hc⟩
theorem isUp {cs : List Value} {x : DataW H × List MemPlace} (hf : DataW.trod enc Tryd.prog W base spare held fuel 40 cs = some x) : ∃ u : Up, u.Ok ∧ cs = u.cs ∧ RwsAt 48 W u.nx.ka u.nx.ks ∧ CellsAt W u.sy.ba (u.sy.bs.map .bool) ∧ u.sy.bs.length ≤ u.sy.bc := by
  obtain ⟨xs, n, rfl, rfl, hl, hx, hF⟩ := DataW.trod_struct Tryd.underlying40 hf
  rw [co40] at hl
  have hxn : xs.length = 7 := hx.trans rfl
  match xs, hxn with
  | [y0, y1, y2, y3, y4, y5, y6], _ =>
  have h0 : DataW.trod enc Tryd.prog W base spare held n 26 ((cs.drop 0).take (Tryd.prog.cellsOf 26)) = some y0 := hF 0 _ rfl
  rw [co26] at h0
  have h1 : DataW.trod enc Tryd.prog W base spare held n 31 ((cs.drop 98).take (Tryd.prog.cellsOf 31)) = some y1 := hF 1 _ rfl
  rw [co31] at h1
  have h2 : DataW.trod enc Tryd.prog W base spare held n 32 ((cs.drop 147).take (Tryd.prog.cellsOf 32)) = some y2 := hF 2 _ rfl
  rw [co32] at h2
  have h3 : DataW.trod enc Tryd.prog W base spare held n 26 ((cs.drop 307).take (Tryd.prog.cellsOf 26)) = some y3 := hF 3 _ rfl
  rw [co26] at h3
  have h4 : DataW.trod enc Tryd.prog W base spare held n 33 ((cs.drop 405).take (Tryd.prog.cellsOf 33)) = some y4 := hF 4 _ rfl
  rw [co33] at h4
  have h5 : DataW.trod enc Tryd.prog W base spare held n 38 ((cs.drop 597).take (Tryd.prog.cellsOf 38)) = some y5 := hF 5 _ rfl
  rw [co38] at h5
  have h6 : DataW.trod enc Tryd.prog W base spare held n 22 ((cs.drop 694).take (Tryd.prog.cellsOf 22)) = some y6 := hF 6 _ rfl
  rw [co22] at h6
  obtain ⟨d0, k0, q0⟩ := isHd h0
  obtain ⟨d1, k1, q1, m1⟩ := isCo h1
  obtain ⟨r2, n2, q2⟩ := isA32 h2
  obtain ⟨d3, k3, q3⟩ := isHd h3
  obtain ⟨r4, n4, q4⟩ := isA33 h4
  obtain ⟨d5, k5, q5, m5, b5⟩ := isAg h5
  obtain ⟨u6, q6⟩ := isU1 (by rw [List.length_take, List.length_drop]; omega) h6
  have e : cs = cs.drop 0 := rfl
  rw [cut_at cs 0 98 98 rfl, cut_at cs 98 49 147 rfl, cut_at cs 147 160 307 rfl, cut_at cs 307 98 405 rfl, cut_at cs 405 192 597 rfl, cut_at cs 597 97 694 rfl, cut_at cs 694 1 695 rfl, List.drop_of_length_le (by omega : cs.length ≤ 695)] at e
  rw [q0, q1, q2, q3, q4, q5, q6, List.append_nil] at e
  exact ⟨⟨d0, d1, r2, d3, r4, d5, u6⟩, ⟨k0, k1, n2, k3, n4, k5⟩, e, m1, m5, b5⟩
theorem isBo {cs : List Value} {x : DataW H × List MemPlace} (hf : DataW.trod enc Tryd.prog W base spare held fuel 42 cs = some x) : ∃ b : Bo, b.Ok ∧ cs = b.cs ∧ RwsAt 48 W b.nw.ka b.nw.ks := by
  obtain ⟨xs, n, rfl, rfl, hl, hx, hF⟩ := DataW.trod_struct Tryd.underlying42 hf
  rw [co42] at hl
  have hxn : xs.length = 3 := hx.trans rfl
  match xs, hxn with
  | [y0, y1, y2], _ =>
  have h0 : DataW.trod enc Tryd.prog W base spare held n 26 ((cs.drop 0).take (Tryd.prog.cellsOf 26)) = some y0 := hF 0 _ rfl
  rw [co26] at h0
  have h1 : DataW.trod enc Tryd.prog W base spare held n 31 ((cs.drop 98).take (Tryd.prog.cellsOf 31)) = some y1 := hF 1 _ rfl
  rw [co31] at h1
  have h2 : DataW.trod enc Tryd.prog W base spare held n 32 ((cs.drop 147).take (Tryd.prog.cellsOf 32)) = some y2 := hF 2 _ rfl
  rw [co32] at h2
  obtain ⟨d0, k0, q0⟩ := isHd h0
  obtain ⟨d1, k1, q1, m1⟩ := isCo h1
  obtain ⟨r2, n2, q2⟩ := isA32 h2
  have e : cs = cs.drop 0 := rfl
  rw [cut_at cs 0 98 98 rfl, cut_at cs 98 49 147 rfl, cut_at cs 147 160 307 rfl, List.drop_of_length_le (by omega : cs.length ≤ 307)] at e
  rw [q0, q1, q2, List.append_nil] at e
  exact ⟨⟨d0, d1, r2⟩, ⟨k0, k1, n2⟩, e, m1⟩
def wHd : List Value := [.int .u64 0, .int .u64 0] ++ List.replicate 96 (.int .u8 0)
def wCo : List Value := .slice none 0 0 :: List.replicate 48 (.int .u8 0)
def wAg : List Value := .slice none 0 0 :: List.replicate 96 (.int .u8 0)
def wUp : List Value := wHd ++ wCo ++ List.replicate 160 (.int .u8 0) ++ wHd ++ List.replicate 192 (.int .u8 0) ++ wAg ++ [.int .u64 0]
def wBo : List Value := wHd ++ wCo ++ List.replicate 160 (.int .u8 0)
end
end Go.Proofs.YtldnceanfncdfaaDoor
