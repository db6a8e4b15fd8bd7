/-
  The program's fields: what they are told to be, as values; how they are made.
-/
import Derived.Test.YtlaanjcnfindnaaVN
import Derived.Test.YtlaanjcnfindnaaX3
namespace Go.Proofs.Ytlaanjcnfindnaa
open Go.RowKit
set_option maxRecDepth 100000
set_option maxHeartbeats 1000000

theorem ent60 : Enters Try.prog 60 := fun _ _ => by kernel_rfl
theorem ent69 : Enters Try.prog 69 := fun _ _ => by kernel_rfl
theorem ent71 : Enters Try.prog 71 := fun _ _ => by kernel_rfl
theorem ent70 : Enters Try.prog 70 := fun _ _ => by kernel_rfl
theorem ent72 : Enters Try.prog 72 := fun _ _ => by kernel_rfl
theorem ent77 : Enters Try.prog 77 := fun _ _ => by kernel_rfl
theorem ent83 : Enters Try.prog 83 := fun _ _ => by kernel_rfl
theorem ent81 : Enters Try.prog 81 := fun _ _ => by kernel_rfl
theorem ent74 : Enters Try.prog 74 := fun _ _ => by kernel_rfl
theorem ent79 : Enters Try.prog 79 := fun _ _ => by kernel_rfl
theorem ent85 : Enters Try.prog 85 := fun _ _ => by kernel_rfl
theorem ent82 : Enters Try.prog 82 := fun _ _ => by kernel_rfl
abbrev pt (b o : Nat) : Value := .pointer (some ⟨b, o, none⟩)
abbrev fun_ (f : Nat) (l : List Value) : Value := .func (.func f) #[] l.toArray
theorem cutS (a : Option Addr) (c s : Nat) : (if c = 0 then a else a.map (·.add (0 * s))) = a := by
  cases a with
  | none => simp
  | some ad => simp [Addr.add]
/-- What a field is told to be: its kind (a number, bytes, bits, keys), its place, how many. -/
structure Sp where
  (k o n : Nat)
/-- How many bytes it has; how many cells. -/
def Sp.z (s : Sp) : Nat := match s.k with
  | 0 => 8
  | 1 => s.n
  | 2 => szB s.n
  | _ => s.n * 48
def Sp.l (s : Sp) : Nat := match s.k with
  | 1 => s.n
  | _ => 1
/-- A field, with the variables that its functions hold. -/
structure Fd where
  (s : Sp) (q r c : Nat)
def Fd.wf (f : Fd) : Nat := match f.s.k with
  | 0 => 72
  | 1 => 77
  | 2 => 83
  | _ => 81
def Fd.rf (f : Fd) : Nat := match f.s.k with
  | 0 => 74
  | 1 => 79
  | 2 => 85
  | _ => 82
def Fd.wc (f : Fd) : List Value := match f.s.k with
  | 0 => [pt f.q 0]
  | 1 => [pt f.q 0]
  | 2 => [pt f.q 0]
  | _ => [pt f.q 0, pt f.r 0]
def Fd.rc (f : Fd) : List Value := match f.s.k with
  | 0 => [pt f.q 0]
  | 1 => [pt f.q 0]
  | _ => [pt f.r 0, pt f.q 0]
def Fd.cs (f : Fd) : List Value := [I (f.s.z : Int), fun_ f.wf f.wc, fun_ f.rf f.rc]
/-- What its variables hold. -/
def Fd.Ok (b : Nat) (f : Fd) (w : World) : Prop := match f.s.k with
  | 0 => w.rangeAt f.q 0 [pt b f.s.o]
  | 1 => w.rangeAt f.q 0 [.slice (some ⟨b, f.s.o, none⟩) f.s.n f.c] ∧ f.s.n ≤ f.c
  | _ => w.rangeAt f.q 0 [pt b f.s.o] ∧ w.rangeAt f.r 0 [I (f.s.n : Int)]
theorem Fd.Ok.mm {b : Nat} {f : Fd} {w w' : World} {M : Nat → Prop} (h : f.Ok b w) (hm : MM M w w') (hq : ¬ M f.q) (hr : 2 ≤ f.s.k → ¬ M f.r) : f.Ok b w' := by
  obtain ⟨⟨k, p, n⟩, q, r, c⟩ := f
  rcases k with _ | _ | k
  · exact hm.range h hq
  · exact ⟨hm.range h.1 hq, h.2⟩
  · exact ⟨hm.range h.1 hq, hm.range h.2 (hr (show 2 ≤ k + 2 by omega))⟩
theorem Fd.Ok.grow {b : Nat} {f : Fd} {w w' : World} (h : f.Ok b w) (hg : Grow w w') : f.Ok b w' := h.mm (M := fun _ => False) (grow_mm hg) id (fun _ => id)
theorem Fd.Ok.lt {b : Nat} {f : Fd} {w : World} (h : f.Ok b w) : f.q < w.heap.size ∧ (2 ≤ f.s.k → f.r < w.heap.size) := by
  obtain ⟨⟨k, p, n⟩, q, r, c⟩ := f
  rcases k with _ | _ | k
  · exact ⟨block_lt_of_cell (h 0 _ rfl), fun h => absurd (show 2 ≤ 0 from h) (by decide)⟩
  · exact ⟨block_lt_of_cell (h.1 0 _ rfl), fun h => absurd (show 2 ≤ 1 from h) (by decide)⟩
  · exact ⟨block_lt_of_cell (h.1 0 _ rfl), fun _ => block_lt_of_cell (h.2 0 _ rfl)⟩
/-- Its variables are new to a world. -/
def Fd.Nw (f : Fd) (w : World) : Prop := w.heap.size ≤ f.q ∧ w.heap.size ≤ f.r
/-- A field that was made. -/
def FdR (w w' : World) (b : Nat) (s : Sp) (v : Value) : Prop := ∃ f : Fd, v = .agg f.cs.toArray ∧ f.s = s ∧ f.Ok b w' ∧ f.Nw w
theorem Fd.len (f : Fd) : f.cs.length = 3 := rfl
theorem zvF (w : World) : (zeroValue 101).run Try.prog w = .ok (.agg [I 0, .nilFunc, .nilFunc].toArray) w := (Try.zeroValue101 w).trans (by rfl)
theorem bldF (x y z : Value) (hx : x.oneCell' = true) (hy : y.oneCell' = true) (hz : z.oneCell' = true) (w : World) : (Instr.build 101 #[(0, x), (1, y), (2, z)]).run Try.prog w = .ok (.agg [x, y, z].toArray) w := by
  have e : ∀ v : Value, v.oneCell' = true → v.cells = #[v] := fun v h => by cases v <;> first | rfl | simp [Value.oneCell'] at h
  have e0 : (Value.agg #[Value.int IntKind.i64 0, Value.nilFunc, Value.nilFunc]).cells = #[Value.int IntKind.i64 0, Value.nilFunc, Value.nilFunc] := rfl
  simp [e0, Instr.build, Try.zeroValue101, run_underlying Try.underlying101, Try.sizeOf3, Try.sizeOf98, Try.sizeOf99, Instr.fill, e x hx, e y hy, e z hz]
theorem quo8 (t : TypeId) (n : Nat) (hn : n ≤ 1000000) (w : World) : (binOp .quo t (I ((n + 7 : Nat) : Int)) (I 8)).run Try.prog w = .ok (I (szB n : Int)) w := by
  have e : ((n + 7 : Nat) : Int).tdiv 8 = (szB n : Int) := by rw [Int.tdiv_eq_ediv_of_nonneg (by omega)]; unfold szB; omega
  exact (bin_quo_i _ _ _ (by decide) (by rw [e]; unfold inI szB; omega)).trans (by rw [e])
theorem Fd.all (f : Fd) : f.cs.all (·.oneCell') = true := rfl
theorem num_calls (b o : Nat)   (w : World) (hw : Gt w) : Calls Try.prog 60 [pt b o].toArray w (fun e w' => ∃ v, e = .returned v ∧ Grow w w' ∧ FdR w w' b ⟨0, o, 0⟩ v) := by
  have hGF : BOk Gt (pl w) := gt_low.plain hw
  refine calls_of_X (G := Gt) Try.func60 rfl rfl (Hp (pl w) []) (hp_refl (pl w) trivial rides_true) (good_hp hGF) ?_
  refine xs_plain (E := EE []) ?_
  refine lx_box 1 hGF rfl rfl rfl ?_
  intro b1
  refine lx_allocr 2 hGF zvF rfl rfl ?_
  intro b2
  refine lx_nil ?_
  refine xs_plain (E := EE []) ?_
  refine lx_func rfl rfl rfl rfl ?_
  refine lx_func rfl rfl rfl rfl ?_
  refine lx_build (ps := [(0, .const (.int .i64 8)), (1, .tmp 3), (2, .tmp 4)]) (vs := (⟨⟨0, o, 0⟩, b1, b1, 0⟩ : Fd).cs) (v := .agg (⟨⟨0, o, 0⟩, b1, b1, 0⟩ : Fd).cs.toArray) rfl (fun w => bldF _ _ _ rfl rfl rfl w) rfl rfl ?_
  refine lx_storea 2 hGF rfl rfl rfl Try.sizeOf101 rfl rfl rfl rfl ?_
  refine lx_nil ?_
  refine x_ret ?_
  repeat (first | refine kseq_ret ?_ | refine kblk_ret ?_)
  exact kret_own 2 rfl rfl rfl Try.isAgg101 Try.sizeOf101 rfl (fun w' hw' => ⟨_, rfl, hp_below hw', ⟨⟨0, o, 0⟩, b1, b1, 0⟩, rfl, rfl, hp_row (n := 1) rfl w' hw', (hw'.own 1 _ _ _ rfl).2.elim id False.elim, (hw'.own 1 _ _ _ rfl).2.elim id False.elim⟩)
theorem oct_calls (b o : Nat) (n c : Nat) (hc : n ≤ c) (w : World) (hw : Gt w) : Calls Try.prog 69 [.slice (some ⟨b, o, none⟩) n c].toArray w (fun e w' => ∃ v, e = .returned v ∧ Grow w w' ∧ FdR w w' b ⟨1, o, n⟩ v) := by
  have hGF : BOk Gt (pl w) := gt_low.plain hw
  refine calls_of_X (G := Gt) Try.func69 rfl rfl (Hp (pl w) []) (hp_refl (pl w) trivial rides_true) (good_hp hGF) ?_
  refine xs_plain (E := EE []) ?_
  refine lx_box 1 hGF rfl rfl rfl ?_
  intro b1
  refine lx_allocr 2 hGF zvF rfl rfl ?_
  intro b2
  refine lx_nil ?_
  refine xs_plain (E := EE []) ?_
  refine lx_loadl 1 rfl rfl rfl Try.isAgg46 rfl rfl ?_
  refine lx_len rfl (fun _ => len_slice Try.underlying46 _ _ _ _) rfl rfl ?_
  refine lx_func rfl rfl rfl rfl ?_
  refine lx_func rfl rfl rfl rfl ?_
  refine lx_build (ps := [(0, .tmp 4), (1, .tmp 5), (2, .tmp 6)]) (vs := (⟨⟨1, o, n⟩, b1, b1, c⟩ : Fd).cs) (v := .agg (⟨⟨1, o, n⟩, b1, b1, c⟩ : Fd).cs.toArray) rfl (fun w => bldF _ _ _ rfl rfl rfl w) rfl rfl ?_
  refine lx_storea 2 hGF rfl rfl rfl Try.sizeOf101 rfl rfl rfl rfl ?_
  refine lx_nil ?_
  refine x_ret ?_
  repeat (first | refine kseq_ret ?_ | refine kblk_ret ?_)
  exact kret_own 2 rfl rfl rfl Try.isAgg101 Try.sizeOf101 rfl (fun w' hw' => ⟨_, rfl, hp_below hw', ⟨⟨1, o, n⟩, b1, b1, c⟩, rfl, rfl, ⟨hp_row (n := 1) rfl w' hw', hc⟩, (hw'.own 1 _ _ _ rfl).2.elim id False.elim, (hw'.own 1 _ _ _ rfl).2.elim id False.elim⟩)
theorem bit_calls (b o : Nat) (n : Nat) (hn : n ≤ 1000) (w : World) (hw : Gt w) : Calls Try.prog 71 [pt b o, I (n : Int)].toArray w (fun e w' => ∃ v, e = .returned v ∧ Grow w w' ∧ FdR w w' b ⟨2, o, n⟩ v) := by
  have hGF : BOk Gt (pl w) := gt_low.plain hw
  refine calls_of_X (G := Gt) Try.func71 rfl rfl (Hp (pl w) []) (hp_refl (pl w) trivial rides_true) (good_hp hGF) ?_
  refine xs_plain (E := EE []) ?_
  refine lx_box 2 hGF rfl rfl rfl ?_
  intro b2
  refine lx_box 3 hGF rfl rfl rfl ?_
  intro b3
  refine lx_allocr 4 hGF zvF rfl rfl ?_
  intro b4
  refine lx_nil ?_
  refine xs_plain (E := EE []) ?_
  refine lx_loadl 3 rfl rfl rfl Try.isAgg3 rfl rfl ?_
  refine lx_bin (v := I (((n + 8 : Nat) : Int))) rfl rfl (fun _ => rfl) (fun _ => (bin_add_i _ _ _ (by unfold inI; omega)).trans (by rfl)) rfl rfl ?_
  refine lx_bin (v := I (((n + 7 : Nat) : Int))) rfl rfl (fun _ => rfl) (fun _ => (bin_sub_i _ _ _ (by unfold inI; omega)).trans (by congr 2; omega)) rfl rfl ?_
  refine lx_bin (v := I ((szB n : Int))) rfl rfl (fun _ => rfl) (fun _ => quo8 _ n (by omega) _) rfl rfl ?_
  refine lx_func rfl rfl rfl rfl ?_
  refine lx_func rfl rfl rfl rfl ?_
  refine lx_build (ps := [(0, .tmp 8), (1, .tmp 9), (2, .tmp 10)]) (vs := (⟨⟨2, o, n⟩, b2, b3, 0⟩ : Fd).cs) (v := .agg (⟨⟨2, o, n⟩, b2, b3, 0⟩ : Fd).cs.toArray) rfl (fun w => bldF _ _ _ rfl rfl rfl w) rfl rfl ?_
  refine lx_storea 4 hGF rfl rfl rfl Try.sizeOf101 rfl rfl rfl rfl ?_
  refine lx_nil ?_
  refine x_ret ?_
  repeat (first | refine kseq_ret ?_ | refine kblk_ret ?_)
  exact kret_own 4 rfl rfl rfl Try.isAgg101 Try.sizeOf101 rfl (fun w' hw' => ⟨_, rfl, hp_below hw', ⟨⟨2, o, n⟩, b2, b3, 0⟩, rfl, rfl, ⟨hp_row (n := 2) rfl w' hw', hp_row (n := 3) rfl w' hw'⟩, (hw'.own 2 _ _ _ rfl).2.elim id False.elim, (hw'.own 3 _ _ _ rfl).2.elim id False.elim⟩)
theorem key_calls (b o : Nat) (n : Nat) (hn : n ≤ 1000) (w : World) (hw : Gt w) : Calls Try.prog 70 [pt b o, I (n : Int)].toArray w (fun e w' => ∃ v, e = .returned v ∧ Grow w w' ∧ FdR w w' b ⟨3, o, n⟩ v) := by
  have hGF : BOk Gt (pl w) := gt_low.plain hw
  refine calls_of_X (G := Gt) Try.func70 rfl rfl (Hp (pl w) []) (hp_refl (pl w) trivial rides_true) (good_hp hGF) ?_
  refine xs_plain (E := EE []) ?_
  refine lx_box 2 hGF rfl rfl rfl ?_
  intro b2
  refine lx_box 3 hGF rfl rfl rfl ?_
  intro b3
  refine lx_allocr 4 hGF zvF rfl rfl ?_
  intro b4
  refine lx_nil ?_
  refine xs_plain (E := EE []) ?_
  refine lx_loadl 3 rfl rfl rfl Try.isAgg3 rfl rfl ?_
  refine lx_bin (v := I (((n * 48 : Nat) : Int))) rfl rfl (fun _ => rfl) (fun _ => (bin_mul_i _ _ _ (by unfold inI; omega)).trans (by rfl)) rfl rfl ?_
  refine lx_func rfl rfl rfl rfl ?_
  refine lx_func rfl rfl rfl rfl ?_
  refine lx_build (ps := [(0, .tmp 6), (1, .tmp 7), (2, .tmp 8)]) (vs := (⟨⟨3, o, n⟩, b2, b3, 0⟩ : Fd).cs) (v := .agg (⟨⟨3, o, n⟩, b2, b3, 0⟩ : Fd).cs.toArray) rfl (fun w => bldF _ _ _ rfl rfl rfl w) rfl rfl ?_
  refine lx_storea 4 hGF rfl rfl rfl Try.sizeOf101 rfl rfl rfl rfl ?_
  refine lx_nil ?_
  refine x_ret ?_
  repeat (first | refine kseq_ret ?_ | refine kblk_ret ?_)
  exact kret_own 4 rfl rfl rfl Try.isAgg101 Try.sizeOf101 rfl (fun w' hw' => ⟨_, rfl, hp_below hw', ⟨⟨3, o, n⟩, b2, b3, 0⟩, rfl, rfl, ⟨hp_row (n := 2) rfl w' hw', hp_row (n := 3) rfl w' hw'⟩, (hw'.own 2 _ _ _ rfl).2.elim id False.elim, (hw'.own 3 _ _ _ rfl).2.elim id False.elim⟩)
end Go.Proofs.Ytlaanjcnfindnaa
