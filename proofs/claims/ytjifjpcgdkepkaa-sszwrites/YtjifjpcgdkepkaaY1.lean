/-
  What the rows share: steps that came in.
-/
import Derived.Test.YtjifjpcgdkepkaaY0
import Derived.Test.YtjifjpcgdkepkaaTS
import Derived.ChangeArms
import Derived.SizedLaws
namespace Go.Proofs.Ytjifjpcgdkepkaa
open Go.ChangeShapes Go.WideShapes Go.ChangeAt Go.RowKit
set_option maxRecDepth 100000
theorem c3 : Try.prog.cellsOf 3 = 1 := by kernel_rfl
theorem c29 : Try.prog.cellsOf 29 = 1 := by kernel_rfl
theorem c28 : Try.prog.cellsOf 28 = 1 := by kernel_rfl
theorem c30 : Try.prog.cellsOf 30 = 1 := by kernel_rfl
theorem c32 : Try.prog.cellsOf 32 = 5 := by kernel_rfl
theorem c4 : Try.prog.cellsOf 4 = 1 := by kernel_rfl
theorem by5 : Try.prog.bytesOf 5 = 1 := by kernel_rfl
theorem by4 : Try.prog.bytesOf 4 = 1 := by kernel_rfl
theorem reach_le : reachBytes ≤ 140737488355328 := by decide
def bitOf {H : Type} (x : DataW H) : Bool := match x with
  | .lit (.bool b) => b
  | _ => false
theorem wall_mem {H : Type} {P : Program} {e : TypeId} : ∀ (l : List (DataW H)) (i : Nat) (d : DataW H), l[i]? = some d → ∀ n ∈ d.weights P e, n ∈ DataW.weightsAll P e l
  | [], _, _, h, _, _ => by simp at h
  | x :: r, 0, d, h, n, hn => by
    simp only [List.getElem?_cons_zero, Option.some.injEq] at h
    subst h
    simp only [DataW.weightsAll, List.mem_append]
    exact .inl hn
  | x :: r, i + 1, d, h, n, hn => by
    simp only [List.getElem?_cons_succ] at h
    simp only [DataW.weightsAll, List.mem_append]
    exact .inr (wall_mem r i d h n hn)
section
variable {W : World} {H : Type} {enc : TypeId × Value → H} {base : Nat} {spare : Nat → Bool} {held : Bool} {fuel : Nat}
theorem isSl8 {c : Value} {x : DataW H × List MemPlace} (hf : DataW.trod enc Try.prog W base spare held fuel 28 [c] = some x) (hz : ∀ n ∈ x.1.weights Try.prog 28, n ≤ reachBytes) : ∃ a cap, ∃ bs : List (BitVec 8), c = .slice a bs.length cap ∧ BytesAt W a bs ∧ bs.length ≤ cap ∧ bs.length ≤ 140737488355328 := by
  rcases DataW.trod_slice Try.underlying28 hf with ⟨e1, _⟩ | ⟨b, l, c', elems, rest, _, _, e1, ex, _, _, _, hlen, _⟩
  · cases e1
    exact ⟨none, 0, [], rfl, bytes_nil _ _, Nat.le_refl _, Nat.zero_le _⟩
  · cases e1
    obtain ⟨h1, bs, h2, h3⟩ := isRow_of (a := some b) (len := l) (cap := c') hf
    subst h2
    refine ⟨some b, c', bs, rfl, h3, h1, ?_⟩
    subst ex
    have := hz ((elems.length + rest.length) * Try.prog.bytesOf 5) (by simp [DataW.weights, Try.underlying28])
    rw [by5] at this
    have := reach_le
    omega
theorem isSlB {c : Value} {x : DataW H × List MemPlace} (hf : DataW.trod enc Try.prog W base spare held fuel 30 [c] = some x) (hz : ∀ n ∈ x.1.weights Try.prog 30, n ≤ reachBytes) : ∃ a cap, ∃ ls : List Bool, c = .slice a ls.length cap ∧ CellsAt W a (ls.map .bool) ∧ ls.length ≤ 140737488355328 := by
  rcases DataW.trod_slice Try.underlying30 hf with ⟨e1, _⟩ | ⟨b, l, c', elems, rest, n, _, e1, ex, _, _, _, hlen, hel, _⟩
  · cases e1
    exact ⟨none, 0, [], rfl, fun j v hv => by simp at hv, Nat.zero_le _⟩
  · cases e1
    subst hlen
    refine ⟨some b, c', elems.map (fun x => bitOf x.1), by rw [List.length_map], fun j v hv => ?_, ?_⟩
    · rw [List.map_map, List.getElem?_map, Option.map_eq_some_iff] at hv
      obtain ⟨y, hy, rfl⟩ := hv
      have hj : j < elems.length := (List.getElem?_eq_some_iff.1 hy).1
      have hE := hel j hj
      rw [c4, Nat.mul_one, hy, Option.bind_eq_some_iff] at hE
      obtain ⟨c1, hc1, hy2⟩ := hE
      obtain ⟨b1, e2, e3⟩ := DataW.trod_bool Try.underlying4 hy2
      subst e2 e3
      refine ⟨b, rfl, ?_⟩
      have := (cell_of_cells?_at hc1).2 0 _ rfl
      rw [show (b.add j).add 0 = b.add j from by simp [Addr.add]] at this
      exact this
    · subst ex
      have := hz ((elems.length + rest.length) * Try.prog.bytesOf 4) (by simp [DataW.weights, Try.underlying30])
      rw [by4] at this
      have := reach_le
      rw [List.length_map]
      omega
theorem i64_of_wf {n : Int} (h : (Lit.int .i64 n).wf = true) : n.toNat < 9223372036854775808 := by
  have := inI_of_wf h
  unfold inI at this
  omega
theorem isStep_of {cs : List Value} {x : DataW H × List MemPlace} (hf : DataW.trod enc Try.prog W base spare held fuel 32 cs = some x) (hz : ∀ n ∈ x.1.weights Try.prog 32, n ≤ reachBytes) : ∃ s : Stp, cs = s.cs ∧ BytesAt W s.ba s.bs ∧ CellsAt W s.la (s.ls.map .bool) ∧ StepOk s := by
  obtain ⟨xs, n, rfl, rfl, hl, hx, hF⟩ := DataW.trod_struct Try.underlying32 hf
  rw [c32] at hl
  have hx5 : xs.length = 5 := hx.trans rfl
  match cs, hl with
  | [c0, c1, c2, c3', c4'], _ =>
  match xs, hx5 with
  | [y0, y1, y2, y3, y4], _ =>
  have h0 : DataW.trod enc Try.prog W base spare held n 3 (([c0, c1, c2, c3', c4'].drop 0).take (Try.prog.cellsOf 3)) = some y0 := hF 0 _ rfl
  have h1 : DataW.trod enc Try.prog W base spare held n 3 (([c0, c1, c2, c3', c4'].drop 1).take (Try.prog.cellsOf 3)) = some y1 := hF 1 _ rfl
  have h2 : DataW.trod enc Try.prog W base spare held n 29 (([c0, c1, c2, c3', c4'].drop 2).take (Try.prog.cellsOf 29)) = some y2 := hF 2 _ rfl
  have h3 : DataW.trod enc Try.prog W base spare held n 28 (([c0, c1, c2, c3', c4'].drop 3).take (Try.prog.cellsOf 28)) = some y3 := hF 3 _ rfl
  have h4 : DataW.trod enc Try.prog W base spare held n 30 (([c0, c1, c2, c3', c4'].drop 4).take (Try.prog.cellsOf 30)) = some y4 := hF 4 _ rfl
  rw [c3] at h0 h1
  rw [c29] at h2
  rw [c28] at h3
  rw [c30] at h4
  obtain ⟨k0, e0, _, w0⟩ := DataW.trod_int Try.underlying3 h0
  obtain ⟨k1, e1, _, w1⟩ := DataW.trod_int Try.underlying3 h1
  obtain ⟨k2, e2, _, w2⟩ := DataW.trod_int Try.underlying29 h2
  obtain ⟨u, hu⟩ := u64_of_wf w2
  have hw : ∀ (j : Nat) t (d : DataW H), [3, 3, 29, 28, 30][j]? = some t → ([y0, y1, y2, y3, y4].map (·.1))[j]? = some d → ∀ n ∈ d.weights Try.prog t, n ≤ reachBytes := fun j t d ht hd n hn => hz n (by
    simp only [DataW.weights, Try.underlying32]
    exact DataW.weights_mem_each (ts := [3, 3, 29, 28, 30]) ht hd n hn)
  obtain ⟨ba, bc, bs, e3, p3, q3, r3⟩ := isSl8 h3 (hw 3 28 y3.1 rfl rfl)
  obtain ⟨la, lc, ls, e4, p4, q4⟩ := isSlB h4 (hw 4 30 y4.1 rfl rfl)
  refine ⟨⟨k0, k1, u, ba, bc, bs, la, lc, ls⟩, ?_, p3, p4, ⟨r3, q4, q3, i64_of_wf w1⟩⟩
  have f0 : c0 = .int .i64 k0 := by simpa using e0
  have f1 : c1 = .int .i64 k1 := by simpa using e1
  have f2 : c2 = .int .u64 k2 := by simpa using e2
  rw [f0, f1, f2, hu, e3, e4]
  rfl
theorem isSteps_of {a : Option Addr} {len cap : Nat} {x : DataW H × List MemPlace} (hf : DataW.trod enc Try.prog W base spare held fuel 22 (Value.slice a len cap).cells.toList = some x) (hz : ∀ n ∈ x.1.weights Try.prog 22, n ≤ reachBytes) : ∃ ss : List Stp, ss.length = len ∧ StepsAt W a ss := by
  rcases DataW.trod_slice Try.underlying22 hf with ⟨hcs, _⟩ | ⟨a', len', cap', elems, rest, n, _, hcs, ex, _, hl, _, hlen, hel, _⟩
  · simp [Value.cells] at hcs
    obtain ⟨rfl, rfl, rfl⟩ := hcs
    exact ⟨[], rfl, fun i s hs => by simp at hs⟩
  · simp [Value.cells] at hcs
    obtain ⟨rfl, rfl, rfl⟩ := hcs
    have each : ∀ i, i < len → ∃ s : Stp, StepOk s ∧ StepAt W a' i s := fun i hi => by
      have hE := hel i hi
      rw [c32, List.getElem?_eq_getElem (by omega), Option.bind_eq_some_iff] at hE
      obtain ⟨c1, hc1, hy⟩ := hE
      obtain ⟨s, rfl, h1, h2, h3⟩ := isStep_of hy (fun n hn => hz n (by
        subst ex
        simp only [DataW.weights, Try.underlying22, List.mem_cons, List.mem_append]
        refine .inr (.inl ?_)
        exact wall_mem (elems.map (·.1)) i _ (by rw [List.getElem?_map, List.getElem?_eq_getElem (by omega)]; rfl) n hn))
      exact ⟨s, h3, ⟨(cell_of_cells?_at hc1).2, h1, h2⟩⟩
    refine ⟨(List.range len).map (fun i => if h : i < len then Classical.choose (each i h) else ⟨0, 0, 0, none, 0, [], none, 0, []⟩), by simp, fun i s hs => ?_⟩
    rw [List.getElem?_map, Option.map_eq_some_iff] at hs
    obtain ⟨j, hj, rfl⟩ := hs
    have hij := List.getElem?_eq_some_iff.1 hj
    obtain ⟨h1, h2⟩ := hij
    simp only [List.getElem_range] at h2
    subst h2
    have hlt : i < len := by simpa using h1
    rw [dif_pos hlt]
    have := Classical.choose_spec (each i hlt)
    exact ⟨this.1, a', rfl, this.2⟩
end
end Go.Proofs.Ytjifjpcgdkepkaa
