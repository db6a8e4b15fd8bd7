/-
  What the rows share: updates and bootstraps that came in.
-/
import Derived.Test.YtldnceanfncdfaaDoorY0
import Derived.Test.YtldnceanfncdfaaDoorWS
import Derived.Test.YtldnceanfncdfaaDoorX3
import Derived.ChangeArms
import Derived.OpenShut
namespace Go.Proofs.YtldnceanfncdfaaDoor
open Go.ChangeShapes Go.WideShapes Go.ChangeAt Go.RowKit
set_option maxRecDepth 100000

theorem co5 : Tryd.prog.cellsOf 5 = 1 := by kernel_rfl
theorem co4 : Tryd.prog.cellsOf 4 = 1 := by kernel_rfl
theorem co34 : Tryd.prog.cellsOf 34 = 1 := by kernel_rfl
theorem co36 : Tryd.prog.cellsOf 36 = 96 := by kernel_rfl
theorem co38 : Tryd.prog.cellsOf 38 = 97 := by kernel_rfl
theorem u8_wf {n : Int} (h : (Lit.int .u8 n).wf = true) : ∃ x : BitVec 8, (.int .u8 n : Value) = U8 x := by
  simp only [Lit.wf, Bool.and_eq_true, decide_eq_true_eq] at h
  have h1 : IntKind.u8.min = 0 := rfl
  have h2 : IntKind.u8.max = 255 := rfl
  rw [h1, h2] at h
  refine ⟨BitVec.ofNat 8 n.toNat, ?_⟩
  simp only [U8, BitVec.toNat_ofNat]
  congr 1
  omega
theorem all_u8 : ∀ (cs : List Value), (∀ (j : Nat) (v : Value), cs[j]? = some v → ∃ x : BitVec 8, v = U8 x) → ∃ r : List (BitVec 8), cs = r.map U8
  | [], _ => ⟨[], rfl⟩
  | c :: cs, h => by
    obtain ⟨x, rfl⟩ := h 0 c rfl
    obtain ⟨r, rfl⟩ := all_u8 cs (fun j v hv => h (j + 1) v hv)
    exact ⟨x :: r, rfl⟩
def bitOf {H : Type} (x : DataW H) : Bool := match x with
  | .lit (.bool b) => b
  | _ => false
theorem cut_at (cs : List Value) (p n q : Nat) (h : p + n = q) : cs.drop p = (cs.drop p).take n ++ cs.drop q := by
  subst h
  conv => lhs; rw [← List.take_append_drop n (cs.drop p), List.drop_drop]
section
variable {W : World} {H : Type} {enc : TypeId × Value → H} {base : Nat} {spare : Nat → Bool} {held : Bool} {fuel : Nat}
theorem isA36 {cs : List Value} {x : DataW H × List MemPlace} (hf : DataW.trod enc Tryd.prog W base spare held fuel 36 cs = some x) : ∃ r : By, r.length = 96 ∧ cs = r.map U8 := by
  obtain ⟨xs, m, rfl, rfl, hl, hx, hF⟩ := DataW.trod_array Tryd.underlying36 hf
  rw [co36] at hl
  obtain ⟨r, hr⟩ := all_u8 cs (fun j v hv => by
    have hj : j < 96 := by rw [← hl]; exact (List.getElem?_eq_some_iff.1 hv).1
    have h1 := hF j hj
    rw [co5, Nat.mul_one, List.getElem?_eq_getElem (by omega)] at h1
    have h2 : (cs.drop j).take 1 = [v] := by
      obtain ⟨hlt, he⟩ := List.getElem?_eq_some_iff.1 hv
      rw [List.drop_eq_getElem_cons hlt, he]
      rfl
    rw [h2] at h1
    obtain ⟨n, e1, _, w1⟩ := DataW.trod_int Tryd.underlying5 h1
    obtain ⟨y, hy⟩ := u8_wf w1
    exact ⟨y, by rw [← hy]; simpa using e1⟩)
  exact ⟨r, by rw [hr, List.length_map] at hl; exact hl, hr⟩
theorem isBits {c : Value} {x : DataW H × List MemPlace} (hf : DataW.trod enc Tryd.prog W base spare held fuel 34 [c] = some x) : ∃ a cap, ∃ ls : List Bool, c = .slice a ls.length cap ∧ ls.length ≤ cap ∧ CellsAt W a (ls.map .bool) := by
  rcases DataW.trod_slice Tryd.underlying34 hf with ⟨e1, _⟩ | ⟨b, l, c', elems, rest, n, _, e1, ex, _, hcap, _, hlen, hel, _⟩
  · cases e1
    exact ⟨none, 0, [], rfl, Nat.le_refl _, fun j v hv => by simp at hv⟩
  · cases e1
    subst hlen
    refine ⟨some b, c', elems.map (fun x => bitOf x.1), by rw [List.length_map], by rw [List.length_map]; exact hcap, fun j v hv => ?_⟩
    rw [List.map_map, List.getElem?_map, Option.map_eq_some_iff] at hv
    obtain ⟨y, hy, rfl⟩ := hv
    have hj : j < elems.length := (List.getElem?_eq_some_iff.1 hy).1
    have hE := hel j hj
    rw [co4, Nat.mul_one, hy, Option.bind_eq_some_iff] at hE
    obtain ⟨c1, hc1, hy2⟩ := hE
    obtain ⟨b1, e2, e3⟩ := DataW.trod_bool Tryd.underlying4 hy2
    subst e2 e3
    refine ⟨b, rfl, ?_⟩
    have := (cell_of_cells?_at hc1).2 0 _ rfl
    rw [show (b.add j).add 0 = b.add j from by simp [Addr.add]] at this
    exact this
theorem isAg {cs : List Value} {x : DataW H × List MemPlace} (hf : DataW.trod enc Tryd.prog W base spare held fuel 38 cs = some x) : ∃ c : Ag, c.Ok ∧ cs = c.cs ∧ CellsAt W c.ba (c.bs.map .bool) ∧ c.bs.length ≤ c.bc := by
  obtain ⟨xs, n, rfl, rfl, hl, hx, hF⟩ := DataW.trod_struct Tryd.underlying38 hf
  rw [co38] at hl
  have hxn : xs.length = 2 := hx.trans rfl
  match xs, hxn with
  | [y0, y1], _ =>
  have h0 : DataW.trod enc Tryd.prog W base spare held n 34 ((cs.drop 0).take (Tryd.prog.cellsOf 34)) = some y0 := hF 0 _ rfl
  rw [co34] at h0
  have h1 : DataW.trod enc Tryd.prog W base spare held n 36 ((cs.drop 1).take (Tryd.prog.cellsOf 36)) = some y1 := hF 1 _ rfl
  rw [co36] at h1
  obtain ⟨v0, w0⟩ : ∃ v, (cs.drop 0).take 1 = [v] := by
    match cs, hl with
    | c :: r, _ => exact ⟨c, rfl⟩
  rw [w0] at h0
  obtain ⟨a, cap, l, rfl, hc, hr⟩ := isBits h0
  obtain ⟨r1, n1, q1⟩ := isA36 h1
  have e : cs = cs.drop 0 := rfl
  rw [cut_at cs 0 1 1 rfl, cut_at cs 1 96 97 rfl, List.drop_of_length_le (by omega : cs.length ≤ 97)] at e
  rw [w0, q1, List.append_nil] at e
  exact ⟨⟨l, a, cap, r1⟩, ⟨n1⟩, e, hr, hc⟩
def wAg : List Value := .slice none 0 0 :: List.replicate 96 (.int .u8 0)
end
end Go.Proofs.YtldnceanfncdfaaDoor
