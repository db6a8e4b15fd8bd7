/-
  What the rows share: settings and headers that came in.
-/
import Derived.Test.YtdkkipjcmflclaaDoorY0
import Derived.Test.YtdkkipjcmflclaaDoorWS
import Derived.Test.YtdkkipjcmflclaaDoorDM
import Derived.Test.YtdkkipjcmflclaaDoorX3
import Derived.ChangeArms
import Derived.OpenShut
namespace Go.Proofs.YtdkkipjcmflclaaDoor
open Go.ChangeShapes Go.WideShapes Go.ChangeAt Go.RowKit
set_option maxRecDepth 100000

theorem u64_of_wf {n : Int} (h : (Lit.int .u64 n).wf = true) : ∃ x : BitVec 64, (.int .u64 n : Value) = U64 x := by
  simp only [Lit.wf, Bool.and_eq_true, decide_eq_true_eq] at h
  have h1 : IntKind.u64.min = 0 := rfl
  have h2 : IntKind.u64.max = 18446744073709551615 := rfl
  rw [h1, h2] at h
  refine ⟨BitVec.ofNat 64 n.toNat, ?_⟩
  simp only [U64, BitVec.toNat_ofNat]
  congr 1
  omega
theorem co5 : Tryd.prog.cellsOf 5 = 1 := by kernel_rfl
theorem co25 : Tryd.prog.cellsOf 25 = 1 := by kernel_rfl
theorem co3 : Tryd.prog.cellsOf 3 = 1 := by kernel_rfl
theorem co23 : Tryd.prog.cellsOf 23 = 32 := by kernel_rfl
theorem co24 : Tryd.prog.cellsOf 24 = 4 := by kernel_rfl
theorem co29 : Tryd.prog.cellsOf 29 = 98 := by kernel_rfl
theorem co27 : Tryd.prog.cellsOf 27 = 39 := by kernel_rfl
theorem u8_wf {n : Int} (h : (Lit.int .u8 n).wf = true) : ∃ x : BitVec 8, (.int .u8 n : Value) = U8 x := by
  simp only [Lit.wf, Bool.and_eq_true, decide_eq_true_eq] at h
  have h1 : IntKind.u8.min = 0 := rfl
  have h2 : IntKind.u8.max = 255 := rfl
  rw [h1, h2] at h
  refine ⟨BitVec.ofNat 8 n.toNat, ?_⟩
  simp only [U8, BitVec.toNat_ofNat]
  congr 1
  omega
theorem all_u8 : ∀ (cs : List Value), (∀ (j : Nat) (v : Value), cs[j]? = some v → ∃ x : BitVec 8, v = U8 x) → ∃ r : List (BitVec 8), cs = r.map U8
  | [], _ => ⟨[], rfl⟩
  | c :: cs, h => by
    obtain ⟨x, rfl⟩ := h 0 c rfl
    obtain ⟨r, rfl⟩ := all_u8 cs (fun j v hv => h (j + 1) v hv)
    exact ⟨x :: r, rfl⟩
theorem cut_at (cs : List Value) (p n q : Nat) (h : p + n = q) : cs.drop p = (cs.drop p).take n ++ cs.drop q := by
  subst h
  conv => lhs; rw [← List.take_append_drop n (cs.drop p), List.drop_drop]
section
variable {W : World} {H : Type} {enc : TypeId × Value → H} {base : Nat} {spare : Nat → Bool} {held : Bool} {fuel : Nat}
theorem isA23 {cs : List Value} {x : DataW H × List MemPlace} (hf : DataW.trod enc Tryd.prog W base spare held fuel 23 cs = some x) : ∃ r : By, r.length = 32 ∧ cs = r.map U8 := by
  obtain ⟨xs, m, rfl, rfl, hl, hx, hF⟩ := DataW.trod_array Tryd.underlying23 hf
  rw [co23] at hl
  obtain ⟨r, hr⟩ := all_u8 cs (fun j v hv => by
    have hj : j < 32 := by rw [← hl]; exact (List.getElem?_eq_some_iff.1 hv).1
    have h1 := hF j hj
    rw [co5, Nat.mul_one, List.getElem?_eq_getElem (by omega)] at h1
    have h2 : (cs.drop j).take 1 = [v] := by
      obtain ⟨hlt, he⟩ := List.getElem?_eq_some_iff.1 hv
      rw [List.drop_eq_getElem_cons hlt, he]
      rfl
    rw [h2] at h1
    obtain ⟨n, e1, _, w1⟩ := DataW.trod_int Tryd.underlying5 h1
    obtain ⟨y, hy⟩ := u8_wf w1
    exact ⟨y, by rw [← hy]; simpa using e1⟩)
  exact ⟨r, by rw [hr, List.length_map] at hl; exact hl, hr⟩
theorem isA24 {cs : List Value} {x : DataW H × List MemPlace} (hf : DataW.trod enc Tryd.prog W base spare held fuel 24 cs = some x) : ∃ r : By, r.length = 4 ∧ cs = r.map U8 := by
  obtain ⟨xs, m, rfl, rfl, hl, hx, hF⟩ := DataW.trod_array Tryd.underlying24 hf
  rw [co24] at hl
  obtain ⟨r, hr⟩ := all_u8 cs (fun j v hv => by
    have hj : j < 4 := by rw [← hl]; exact (List.getElem?_eq_some_iff.1 hv).1
    have h1 := hF j hj
    rw [co5, Nat.mul_one, List.getElem?_eq_getElem (by omega)] at h1
    have h2 : (cs.drop j).take 1 = [v] := by
      obtain ⟨hlt, he⟩ := List.getElem?_eq_some_iff.1 hv
      rw [List.drop_eq_getElem_cons hlt, he]
      rfl
    rw [h2] at h1
    obtain ⟨n, e1, _, w1⟩ := DataW.trod_int Tryd.underlying5 h1
    obtain ⟨y, hy⟩ := u8_wf w1
    exact ⟨y, by rw [← hy]; simpa using e1⟩)
  exact ⟨r, by rw [hr, List.length_map] at hl; exact hl, hr⟩
theorem isU {c : Value} {x : DataW H × List MemPlace} (hf : DataW.trod enc Tryd.prog W base spare held fuel 25 [c] = some x) : ∃ u : BitVec 64, c = U64 u := by
  obtain ⟨k, e, _, w⟩ := DataW.trod_int Tryd.underlying25 hf
  obtain ⟨u, hu⟩ := u64_of_wf w
  exact ⟨u, by rw [← hu]; simpa using e⟩
theorem isU1 {cs : List Value} {x : DataW H × List MemPlace} (hl : cs.length = 1) (hf : DataW.trod enc Tryd.prog W base spare held fuel 25 cs = some x) : ∃ u : BitVec 64, cs = [U64 u] := by
  match cs, hl with
  | [c], _ =>
    obtain ⟨u, rfl⟩ := isU hf
    exact ⟨u, rfl⟩
theorem isI1 {cs : List Value} {x : DataW H × List MemPlace} (hl : cs.length = 1) (hf : DataW.trod enc Tryd.prog W base spare held fuel 3 cs = some x) : ∃ n : Int, cs = [I n] := by
  match cs, hl with
  | [c], _ =>
    obtain ⟨k, e, _, w⟩ := DataW.trod_int Tryd.underlying3 hf
    exact ⟨k, by simpa using e⟩
theorem isHd {cs : List Value} {x : DataW H × List MemPlace} (hf : DataW.trod enc Tryd.prog W base spare held fuel 29 cs = some x) : ∃ h : Hd, h.Ok ∧ cs = h.cs := by
  obtain ⟨xs, n, rfl, rfl, hl, hx, hF⟩ := DataW.trod_struct Tryd.underlying29 hf
  rw [co29] at hl
  have hxn : xs.length = 5 := hx.trans rfl
  match xs, hxn with
  | [y0, y1, y2, y3, y4], _ =>
  have h0 : DataW.trod enc Tryd.prog W base spare held n 25 ((cs.drop 0).take (Tryd.prog.cellsOf 25)) = some y0 := hF 0 _ rfl
  rw [co25] at h0
  have h1 : DataW.trod enc Tryd.prog W base spare held n 25 ((cs.drop 1).take (Tryd.prog.cellsOf 25)) = some y1 := hF 1 _ rfl
  rw [co25] at h1
  have h2 : DataW.trod enc Tryd.prog W base spare held n 23 ((cs.drop 2).take (Tryd.prog.cellsOf 23)) = some y2 := hF 2 _ rfl
  rw [co23] at h2
  have h3 : DataW.trod enc Tryd.prog W base spare held n 23 ((cs.drop 34).take (Tryd.prog.cellsOf 23)) = some y3 := hF 3 _ rfl
  rw [co23] at h3
  have h4 : DataW.trod enc Tryd.prog W base spare held n 23 ((cs.drop 66).take (Tryd.prog.cellsOf 23)) = some y4 := hF 4 _ rfl
  rw [co23] at h4
  obtain ⟨u0, q0⟩ := isU1 (by rw [List.length_take, List.length_drop]; omega) h0
  obtain ⟨u1, q1⟩ := isU1 (by rw [List.length_take, List.length_drop]; omega) h1
  obtain ⟨r2, n2, q2⟩ := isA23 h2
  obtain ⟨r3, n3, q3⟩ := isA23 h3
  obtain ⟨r4, n4, q4⟩ := isA23 h4
  have e : cs = cs.drop 0 := rfl
  rw [cut_at cs 0 1 1 rfl, cut_at cs 1 1 2 rfl, cut_at cs 2 32 34 rfl, cut_at cs 34 32 66 rfl, cut_at cs 66 32 98 rfl, List.drop_of_length_le (by omega : cs.length ≤ 98)] at e
  rw [q0, q1, q2, q3, q4, List.append_nil] at e
  exact ⟨⟨u0, u1, r2, r3, r4⟩, ⟨n2, n3, n4⟩, e⟩
theorem isCf {cs : List Value} {x : DataW H × List MemPlace} (hf : DataW.trod enc Tryd.prog W base spare held fuel 27 cs = some x) : ∃ c : Cf, c.Ok ∧ cs = c.cs := by
  obtain ⟨xs, n, rfl, rfl, hl, hx, hF⟩ := DataW.trod_struct Tryd.underlying27 hf
  rw [co27] at hl
  have hxn : xs.length = 5 := hx.trans rfl
  match xs, hxn with
  | [y0, y1, y2, y3, y4], _ =>
  have h0 : DataW.trod enc Tryd.prog W base spare held n 23 ((cs.drop 0).take (Tryd.prog.cellsOf 23)) = some y0 := hF 0 _ rfl
  rw [co23] at h0
  have h1 : DataW.trod enc Tryd.prog W base spare held n 24 ((cs.drop 32).take (Tryd.prog.cellsOf 24)) = some y1 := hF 1 _ rfl
  rw [co24] at h1
  have h2 : DataW.trod enc Tryd.prog W base spare held n 25 ((cs.drop 36).take (Tryd.prog.cellsOf 25)) = some y2 := hF 2 _ rfl
  rw [co25] at h2
  have h3 : DataW.trod enc Tryd.prog W base spare held n 25 ((cs.drop 37).take (Tryd.prog.cellsOf 25)) = some y3 := hF 3 _ rfl
  rw [co25] at h3
  have h4 : DataW.trod enc Tryd.prog W base spare held n 3 ((cs.drop 38).take (Tryd.prog.cellsOf 3)) = some y4 := hF 4 _ rfl
  rw [co3] at h4
  obtain ⟨r0, n0, q0⟩ := isA23 h0
  obtain ⟨r1, n1, q1⟩ := isA24 h1
  obtain ⟨u2, q2⟩ := isU1 (by rw [List.length_take, List.length_drop]; omega) h2
  obtain ⟨u3, q3⟩ := isU1 (by rw [List.length_take, List.length_drop]; omega) h3
  obtain ⟨u4, q4⟩ := isI1 (by rw [List.length_take, List.length_drop]; omega) h4
  have e : cs = cs.drop 0 := rfl
  rw [cut_at cs 0 32 32 rfl, cut_at cs 32 4 36 rfl, cut_at cs 36 1 37 rfl, cut_at cs 37 1 38 rfl, cut_at cs 38 1 39 rfl, List.drop_of_length_le (by omega : cs.length ≤ 39)] at e
  rw [q0, q1, q2, q3, q4, List.append_nil] at e
  exact ⟨⟨r0, r1, u2, u3, u4⟩, ⟨n0, n1⟩, e⟩
def wHd : List Value := [.int .u64 0, .int .u64 0] ++ List.replicate 96 (.int .u8 0)
def wCf : List Value := List.replicate 36 (.int .u8 0) ++ [.int .u64 0, .int .u64 0, .int .i64 0]
end
end Go.Proofs.YtdkkipjcmflclaaDoor
