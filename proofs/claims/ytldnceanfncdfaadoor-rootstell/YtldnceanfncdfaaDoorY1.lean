/-
  What the rows share: updates and bootstraps that came in.
-/
import Derived.Test.YtldnceanfncdfaaDoorY0
import Derived.Test.YtldnceanfncdfaaDoorWS
import Derived.Test.YtldnceanfncdfaaDoorX3
import Derived.ChangeArms
import Derived.OpenShut
namespace Go.Proofs.YtldnceanfncdfaaDoor
open Go.ChangeShapes Go.WideShapes Go.ChangeAt Go.RowKit
set_option maxRecDepth 100000

theorem u64_of_wf {n : Int} (h : (Lit.int .u64 n).wf = true) : ∃ x : BitVec 64, (.int .u64 n : Value) = U64 x := by
  simp only [Lit.wf, Bool.and_eq_true, decide_eq_true_eq] at h
  have h1 : IntKind.u64.min = 0 := rfl
  have h2 : IntKind.u64.max = 18446744073709551615 := rfl
  rw [h1, h2] at h
  refine ⟨BitVec.ofNat 64 n.toNat, ?_⟩
  simp only [U64, BitVec.toNat_ofNat]
  congr 1
  omega
theorem co5 : Tryd.prog.cellsOf 5 = 1 := by kernel_rfl
theorem co22 : Tryd.prog.cellsOf 22 = 1 := by kernel_rfl
theorem co24 : Tryd.prog.cellsOf 24 = 32 := by kernel_rfl
theorem co26 : Tryd.prog.cellsOf 26 = 98 := by kernel_rfl
theorem u8_wf {n : Int} (h : (Lit.int .u8 n).wf = true) : ∃ x : BitVec 8, (.int .u8 n : Value) = U8 x := by
  simp only [Lit.wf, Bool.and_eq_true, decide_eq_true_eq] at h
  have h1 : IntKind.u8.min = 0 := rfl
  have h2 : IntKind.u8.max = 255 := rfl
  rw [h1, h2] at h
  refine ⟨BitVec.ofNat 8 n.toNat, ?_⟩
  simp only [U8, BitVec.toNat_ofNat]
  congr 1
  omega
theorem all_u8 : ∀ (cs : List Value), (∀ (j : Nat) (v : Value), cs[j]? = some v → ∃ x : BitVec 8, v = U8 x) → ∃ r : List (BitVec 8), cs = r.map U8
  | [], _ => ⟨[], rfl⟩
  | c :: cs, h => by
    obtain ⟨x, rfl⟩ := h 0 c rfl
    obtain ⟨r, rfl⟩ := all_u8 cs (fun j v hv => h (j + 1) v hv)
    exact ⟨x :: r, rfl⟩
theorem cut_at (cs : List Value) (p n q : Nat) (h : p + n = q) : cs.drop p = (cs.drop p).take n ++ cs.drop q := by
  subst h
  conv => lhs; rw [← List.take_append_drop n (cs.drop p), List.drop_drop]
section
variable {W : World} {H : Type} {enc : TypeId × Value → H} {base : Nat} {spare : Nat → Bool} {held : Bool} {fuel : Nat}
theorem isA24 {cs : List Value} {x : DataW H × List MemPlace} (hf : DataW.trod enc Tryd.prog W base spare held fuel 24 cs = some x) : ∃ r : By, r.length = 32 ∧ cs = r.map U8 := by
  obtain ⟨xs, m, rfl, rfl, hl, hx, hF⟩ := DataW.trod_array Tryd.underlying24 hf
  rw [co24] at hl
  obtain ⟨r, hr⟩ := all_u8 cs (fun j v hv => by
    have hj : j < 32 := by rw [← hl]; exact (List.getElem?_eq_some_iff.1 hv).1
    have h1 := hF j hj
    rw [co5, Nat.mul_one, List.getElem?_eq_getElem (by omega)] at h1
    have h2 : (cs.drop j).take 1 = [v] := by
      obtain ⟨hlt, he⟩ := List.getElem?_eq_some_iff.1 hv
      rw [List.drop_eq_getElem_cons hlt, he]
      rfl
    rw [h2] at h1
    obtain ⟨n, e1, _, w1⟩ := DataW.trod_int Tryd.underlying5 h1
    obtain ⟨y, hy⟩ := u8_wf w1
    exact ⟨y, by rw [← hy]; simpa using e1⟩)
  exact ⟨r, by rw [hr, List.length_map] at hl; exact hl, hr⟩
theorem isU {c : Value} {x : DataW H × List MemPlace} (hf : DataW.trod enc Tryd.prog W base spare held fuel 22 [c] = some x) : ∃ u : BitVec 64, c = U64 u := by
  obtain ⟨k, e, _, w⟩ := DataW.trod_int Tryd.underlying22 hf
  obtain ⟨u, hu⟩ := u64_of_wf w
  exact ⟨u, by rw [← hu]; simpa using e⟩
theorem isU1 {cs : List Value} {x : DataW H × List MemPlace} (hl : cs.length = 1) (hf : DataW.trod enc Tryd.prog W base spare held fuel 22 cs = some x) : ∃ u : BitVec 64, cs = [U64 u] := by
  match cs, hl with
  | [c], _ =>
    obtain ⟨u, rfl⟩ := isU hf
    exact ⟨u, rfl⟩
theorem isHd {cs : List Value} {x : DataW H × List MemPlace} (hf : DataW.trod enc Tryd.prog W base spare held fuel 26 cs = some x) : ∃ h : Hd, h.Ok ∧ cs = h.cs := by
  obtain ⟨xs, n, rfl, rfl, hl, hx, hF⟩ := DataW.trod_struct Tryd.underlying26 hf
  rw [co26] at hl
  have hxn : xs.length = 5 := hx.trans rfl
  match xs, hxn with
  | [y0, y1, y2, y3, y4], _ =>
  have h0 : DataW.trod enc Tryd.prog W base spare held n 22 ((cs.drop 0).take (Tryd.prog.cellsOf 22)) = some y0 := hF 0 _ rfl
  rw [co22] at h0
  have h1 : DataW.trod enc Tryd.prog W base spare held n 22 ((cs.drop 1).take (Tryd.prog.cellsOf 22)) = some y1 := hF 1 _ rfl
  rw [co22] at h1
  have h2 : DataW.trod enc Tryd.prog W base spare held n 24 ((cs.drop 2).take (Tryd.prog.cellsOf 24)) = some y2 := hF 2 _ rfl
  rw [co24] at h2
  have h3 : DataW.trod enc Tryd.prog W base spare held n 24 ((cs.drop 34).take (Tryd.prog.cellsOf 24)) = some y3 := hF 3 _ rfl
  rw [co24] at h3
  have h4 : DataW.trod enc Tryd.prog W base spare held n 24 ((cs.drop 66).take (Tryd.prog.cellsOf 24)) = some y4 := hF 4 _ rfl
  rw [co24] at h4
  obtain ⟨u0, q0⟩ := isU1 (by rw [List.length_take, List.length_drop]; omega) h0
  obtain ⟨u1, q1⟩ := isU1 (by rw [List.length_take, List.length_drop]; omega) h1
  obtain ⟨r2, n2, q2⟩ := isA24 h2
  obtain ⟨r3, n3, q3⟩ := isA24 h3
  obtain ⟨r4, n4, q4⟩ := isA24 h4
  have e : cs = cs.drop 0 := rfl
  rw [cut_at cs 0 1 1 rfl, cut_at cs 1 1 2 rfl, cut_at cs 2 32 34 rfl, cut_at cs 34 32 66 rfl, cut_at cs 66 32 98 rfl, List.drop_of_length_le (by omega : cs.length ≤ 98)] at e
  rw [q0, q1, q2, q3, q4, List.append_nil] at e
  exact ⟨⟨u0, u1, r2, r3, r4⟩, ⟨n2, n3, n4⟩, e⟩
def wHd : List Value := [.int .u64 0, .int .u64 0] ++ List.replicate 96 (.int .u8 0)
end
end Go.Proofs.YtldnceanfncdfaaDoor
